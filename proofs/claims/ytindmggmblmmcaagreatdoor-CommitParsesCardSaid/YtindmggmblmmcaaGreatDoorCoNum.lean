/- The document's numbers as texts: the walks. -/
import Derived.Test.YtindmggmblmmcaaGreatDoorCoCut
namespace Go.Proofs.YtindmggmblmmcaaGreatDoor
open Go.RowKit Plain
set_option linter.unusedVariables false
theorem wrap_rule (y : Nat) (h : y ≤ 4611686018427387904) : ∀ y' : Int, y' = (y : Int) → wrap64 y' = (y : Int) := fun y' h' => by
  rw [h', IntWalk.wrap64_in]
  omega
theorem cat_list (c : UInt8) (S : ByteArray) : ((⟨#[c]⟩ : ByteArray) ++ S).data.toList = c :: S.data.toList := by
  simp [ByteArray.data_append]
/-- The document's reading, digit by digit. -/
def refGo : List UInt8 → Nat → Option Nat
  | [], n => some n
  | c :: r, n => if c.toNat < 48 ∨ 57 < c.toNat then none else if (4611686018427387903 - (c.toNat - 48)) / 10 < n then none else refGo r (10 * n + (c.toNat - 48))
def refBad (l : List UInt8) : Prop := l.length = 0 ∨ 19 < l.length ∨ (1 < l.length ∧ (l[0]?.getD 0).toNat = 48)
instance (l : List UInt8) : Decidable (refBad l) := by unfold refBad; infer_instance
def refDec (l : List UInt8) : Option Nat := if refBad l then none else refGo l 0
theorem refGo_append : ∀ (l r : List UInt8) (acc v : Nat), refGo l acc = some v → refGo (l ++ r) acc = refGo r v
  | [], r, acc, v, h => by
    simp only [refGo] at h
    injection h with h
    rw [h]; rfl
  | c :: l, r, acc, v, h => by
    rw [List.cons_append]
    simp only [refGo] at h ⊢
    split at h
    · cases h
    · rename_i h1
      rw [if_neg h1]
      split at h
      · cases h
      · rename_i h2
        rw [if_neg h2]
        exact refGo_append l r _ v h
theorem refGo_one (acc d : Nat) (hd : d < 10) (h : acc * 10 + d ≤ 4611686018427387903) : refGo [UInt8.ofNat (48 + d)] acc = some (acc * 10 + d) := by
  simp only [refGo, digit_nat d hd]
  rw [if_neg (by omega), if_neg (by omega)]
  congr 1
  omega
theorem refGo_dec : ∀ (k u : Nat), u ≤ k → u ≤ 4611686018427387903 → refGo (Lib.decDigits u) 0 = some u
  | 0, u, hk, h => by
    have hu : u < 10 := by omega
    rw [Lib.decDigits, dif_pos hu, refGo_one 0 u hu (by omega)]
    simp
  | k + 1, u, hk, h => by
    rw [Lib.decDigits]
    split
    · rename_i hu
      rw [refGo_one 0 u hu (by omega)]
      simp
    · rw [refGo_append _ _ 0 _ (refGo_dec k (u / 10) (by omega) (by omega)), refGo_one _ _ (by omega) (by omega)]
      congr 1
      omega
theorem dec_length : ∀ (k u : Nat), u < 10 ^ (k + 1) → (Lib.decDigits u).length ≤ k + 1
  | 0, u, h => by rw [Lib.decDigits, dif_pos (by omega)]; simp
  | k + 1, u, h => by
    rw [Lib.decDigits]
    split
    · simp
    · rw [List.length_append, List.length_singleton]
      have hp : 10 ^ (k + 1 + 1) = 10 ^ (k + 1) * 10 := Nat.pow_succ ..
      have := dec_length k (u / 10) (by omega)
      omega
theorem refDec_dec (n : Nat) (hn : n ≤ 4611686018427387903) : refDec (Lib.decDigits n) = some n := by
  unfold refDec
  rw [if_neg ?_]
  · exact refGo_dec n n (Nat.le_refl _) hn
  · unfold refBad
    have h1 := dec_length 18 n (by have : (10 : Nat) ^ (18 + 1) = 10000000000000000000 := by decide
                                   omega)
    have h2 := List.length_pos_iff.2 (dec_ne_nil n)
    rintro (h | h | ⟨h, h'⟩)
    · omega
    · omega
    · rcases Nat.eq_zero_or_pos n with rfl | h0
      · rw [Lib.decDigits, dif_pos (by omega)] at h
        simp at h
      · obtain ⟨c, r, h3, h4⟩ := dec_head n n (Nat.le_refl _) (by omega)
        rw [h3] at h'
        exact h4 h'
theorem byte_digit (c : UInt8) (h : ¬ (c.toNat < 48 ∨ 57 < c.toNat)) : UInt8.ofNat (48 + (c.toNat - 48)) = c := by
  rw [show 48 + (c.toNat - 48) = c.toNat by omega]
  exact UInt8.ofNat_toNat
theorem refGo_back : ∀ (l : List UInt8) (acc n : Nat), 1 ≤ acc → acc ≤ 4611686018427387903 → refGo l acc = some n → Lib.decDigits n = Lib.decDigits acc ++ l ∧ n ≤ 4611686018427387903
  | [], acc, n, h1, h2, h => by
    simp only [refGo] at h
    injection h with h
    rw [← h, List.append_nil]; exact ⟨rfl, h2⟩
  | c :: r, acc, n, h1, h2, h => by
    simp only [refGo] at h
    split at h
    · cases h
    · rename_i hd
      split at h
      · cases h
      · rename_i hb
        obtain ⟨e, he⟩ := refGo_back r _ n (by omega) (by omega) h
        refine ⟨?_, he⟩
        rw [e, Lib.decDigits, dif_neg (by omega), show (10 * acc + (c.toNat - 48)) / 10 = acc by omega, show (10 * acc + (c.toNat - 48)) % 10 = c.toNat - 48 by omega, byte_digit c hd]
        simp
theorem refDec_back (l : List UInt8) (n : Nat) (h : refDec l = some n) : Lib.decDigits n = l ∧ n ≤ 4611686018427387903 := by
  unfold refDec at h
  split at h
  · cases h
  · rename_i hb
    unfold refBad at hb
    cases l with
    | nil => exact absurd (.inl rfl) hb
    | cons c r =>
      simp only [refGo] at h
      split at h
      · cases h
      · rename_i hd
        rw [if_neg (by omega)] at h
        cases r with
        | nil =>
          simp only [refGo] at h
          injection h with h
          rw [show n = c.toNat - 48 by omega, Lib.decDigits, dif_pos (by omega), byte_digit c hd]
          exact ⟨rfl, by omega⟩
        | cons c2 r2 =>
          have h48 : c.toNat ≠ 48 := fun e => hb (.inr (.inr ⟨by simp, e⟩))
          obtain ⟨e, he⟩ := refGo_back (c2 :: r2) _ n (by omega) (by omega) h
          refine ⟨?_, he⟩
          rw [e, Lib.decDigits, dif_pos (by omega), show 10 * 0 + (c.toNat - 48) = c.toNat - 48 by omega, byte_digit c hd]
          rfl
theorem dec_same (l : List UInt8) : decF l = match refDec l with | some n => (n, 0) | none => (0, 4) := by
  cases h : refDec l with
  | some n =>
    obtain ⟨e, he⟩ := refDec_back l n h
    rw [← e]; exact decF_dec n he
  | none =>
    refine decF_other fun n hn e => ?_
    rw [← e, refDec_dec n hn] at h
    cases h
theorem drop_at (s : ByteArray) (i : Nat) (h : i < s.size) : ∃ c, s.data.toList.drop i = c :: s.data.toList.drop (i + 1) ∧ c.toNat = at8 s i := by
  have h1 : i < s.data.toList.length := by simpa using h
  refine ⟨s.data.toList[i], List.drop_eq_getElem_cons h1, ?_⟩
  unfold at8; rw [List.getElem?_eq_getElem h1]; rfl
theorem sub_rule48 (x d : Nat) (h : x = 48 + d) : ∀ x' : Int, x' = (x : Int) → x' - 48 = (d : Int) := fun x' h' => by rw [h', h]; omega
theorem sub_ruleM (q d : Nat) (h : 4611686018427387903 - d = q) (hd : d ≤ 9) : ∀ d' : Int, d' = (d : Int) → 4611686018427387903 - d' = (q : Int) := fun d' h' => by rw [h']; omega
theorem div_rule10 (n q : Nat) (h : n / 10 = q) : ∀ n' : Int, n' = (n : Int) → n' / 10 = (q : Int) := fun n' hn => by rw [hn, ← h]; simp
theorem mul_rule10 (n q : Nat) (h : 10 * n = q) : ∀ n' : Int, n' = (n : Int) → 10 * n' = (q : Int) := fun n' hn => by rw [hn, ← h]; simp
theorem add_rule (n d q : Nat) (h : n + d = q) : ∀ n' d' : Int, n' = (n : Int) → d' = (d : Int) → n' + d' = (q : Int) := fun n' d' hn hd => by rw [hn, hd, ← h]; simp
def optNum : Option Nat → Nat × Bool
  | some n => (n, true)
  | none => (0, false)
set_option maxRecDepth 100000 in
set_option maxHeartbeats 4000000 in
theorem refFromDec_any (s : ByteArray) (hs : s.size ≤ 100000) (w : World) :
    Calls Tryz.prog 59 #[.string s] w fun e w' => e = .returned (.tuple #[.int .i64 ((optNum (refDec s.data.toList)).1 : Nat), .bool (optNum (refDec s.data.toList)).2]) ∧ Below w.heap.size w w' := by
  have HR : Hid (∀ o, refDec s.data.toList = o → refDec s.data.toList = o) := fun _ h => h
  have HL : Hid (s.data.toList.length = s.size) := rfl
  go_enter Tryz.func59, Tryz.ntmps59
  by_cases hb : refBad s.data.toList
  · have HE : Hid (refDec s.data.toList = none) := by show _ = _; unfold refDec; rw [if_pos hb]
    have hb' := hb
    unfold refBad at hb'
    rw [HL.out] at hb'
    clear hb
    rcases hb' with hb | hb | ⟨hb, hc⟩
    · have hi : (s.size : Int) = 0 := by omega
      go_wp2_with fail
      go_ret2
      rw [HE.out]
      exact ⟨rfl, Below.refl _ _⟩
    · have hi : (19 : Int) < s.size := by omega
      have hi0 : ¬ s.size = 0 := by omega
      go_wp2_with fail
      go_ret2
      rw [HE.out]
      exact ⟨rfl, Below.refl _ _⟩
    · have hi : (1 : Int) < s.size := by omega
      have hi0 : ¬ s.size = 0 := by omega
      have hx := fun W => index_text s 0 (by omega) 0 rfl W
      rw [show at8 s 0 = 48 from hc] at hx
      clear hc
      go_wp2_with fail
      all_goals (go_ret2; rw [HE.out]; exact ⟨rfl, Below.refl _ _⟩)
  · have HE : Hid (refDec s.data.toList = refGo s.data.toList 0) := by show _ = _; unfold refDec; rw [if_neg hb]
    unfold refBad at hb
    rw [HL.out] at hb
    have hi0 : ((s.size : Int) == 0) = false := beq_eq_false_iff_ne.2 (by omega)
    have hi1 : ¬ (19 : Int) < s.size := by omega
    have hi2 : ¬ 19 < s.size := by omega
    have hx := fun W => index_text s 0 (by omega) 0 rfl W
    have h48 : (1 < s.size ∧ ((at8 s 0 : Int) == 48) = false ∧ True) ∨ (¬ 1 < s.size ∧ ¬ (1 : Int) < s.size ∧ True) := by
      by_cases h1 : 1 < s.size
      · have : ¬ at8 s 0 = 48 := fun e => hb (.inr (.inr ⟨h1, e⟩))
        exact .inl ⟨h1, by simp; omega, trivial⟩
      · exact .inr ⟨h1, by omega, trivial⟩
    clear hb
    generalize at8 s 0 = x0 at *
    rcases h48 with ⟨h1, h2, h3⟩ | ⟨h1, h2, h3⟩
    all_goals
      go_wp2_with fail
      clear hx h1 h2 h3
      go_loopw [4, 5] (fun n i wr => ∃ (k v : Nat), k ≤ s.size ∧ i = .int .i64 k ∧ n = .int .i64 v ∧ v ≤ 4611686018427387903 ∧ refGo s.data.toList 0 = refGo (s.data.toList.drop k) v ∧ Below w.heap.size w wr) (fun n i wr => s.size - (intOf i).toNat)
      case atStart => exact ⟨0, 0, by omega, rfl, rfl, by omega, by rw [List.drop_zero], Below.refl _ _⟩
      case round =>
        obtain ⟨k, v, hk, rfl, rfl, hv, hg, hbw⟩ := hrel
        have HG : Hid (refGo s.data.toList 0 = refGo (s.data.toList.drop k) v) := hg
        have HB : Hid (Below w.heap.size w wr) := hbw
        clear hg hbw
        by_cases hlt : k < s.size
        · have hx := fun W => index_text s k hlt (k : Int) rfl W
          have HDR : Hid (∃ c, s.data.toList.drop k = c :: s.data.toList.drop (k + 1) ∧ c.toNat = at8 s k) := drop_at s k hlt
          have hx5 := at8_lt s k
          generalize at8 s k = x at *
          have hli : (k : Int) < s.size := by omega
          by_cases hd : x < 48 ∨ 57 < x
          · have HN : Hid (refDec s.data.toList = none) := by
              obtain ⟨c, e, hc⟩ := HDR.out
              show _ = _
              rw [HE.out, HG.out, e, refGo, if_pos (by rw [hc]; exact hd)]
            rcases hd with hd | hd
            · have hdi : (x : Int) < 48 := by omega
              go_wp2_with fail
              go_ret2
              rw [HN.out]
              exact ⟨rfl, HB.out⟩
            · have hdi : ¬ (x : Int) < 48 := by omega
              have hdj : (57 : Int) < x := by omega
              go_wp2_with fail
              go_ret2
              rw [HN.out]
              exact ⟨rfl, HB.out⟩
          · have hdi : ¬ (x : Int) < 48 := by omega
            have hdj : ¬ (57 : Int) < x := by omega
            obtain ⟨d, hxd⟩ : ∃ d, x = 48 + d := ⟨x - 48, by omega⟩
            have hd9 : d ≤ 9 := by omega
            have HXD : Hid (x - 48 = d) := by show _ = _; omega
            have r1 := sub_rule48 x d hxd
            obtain ⟨q, hq⟩ : ∃ q, 4611686018427387903 - d = q := ⟨_, rfl⟩
            obtain ⟨q2, hq2⟩ : ∃ q2, q / 10 = q2 := ⟨_, rfl⟩
            have r2 := sub_ruleM q d hq hd9
            have r3 := div_rule10 q q2 hq2
            have r4 := wrap_rule d (by omega)
            have r5 := wrap_rule q (by omega)
            have r6 := wrap_rule q2 (by omega)
            by_cases hbig : q2 < v
            · have hbi : (q2 : Int) < v := by omega
              have HN : Hid (refDec s.data.toList = none) := by
                obtain ⟨c, e, hc⟩ := HDR.out
                show _ = _
                rw [HE.out, HG.out, e, refGo, if_neg (by rw [hc]; exact hd), hc, HXD.out, hq, hq2, if_pos hbig]
              clear hxd hq hq2 hd
              go_wp2_with fail
              go_ret2
              rw [HN.out]
              exact ⟨rfl, HB.out⟩
            · have hbi : ¬ (q2 : Int) < v := by omega
              obtain ⟨y, hy⟩ : ∃ y, 10 * v = y := ⟨_, rfl⟩
              obtain ⟨z, hz⟩ : ∃ z, y + d = z := ⟨_, rfl⟩
              have r7 := mul_rule10 v y hy
              have r8 := add_rule y d z hz
              have r9 := wrap_rule y (by omega)
              have r10 := wrap_rule z (by omega)
              have HZ : Hid (z ≤ 4611686018427387903) := by show _ ≤ _; omega
              have HN : Hid (refGo s.data.toList 0 = refGo (s.data.toList.drop (k + 1)) z) := by
                obtain ⟨c, e, hc⟩ := HDR.out
                show _ = _
                rw [HG.out, e, refGo, if_neg (by rw [hc]; exact hd), hc, HXD.out, hq, hq2, if_neg hbig, hy, hz]
              clear hxd hq hq2 hd hy hz
              go_wp2_with fail
              exact ⟨⟨k + 1, z, by omega, by go_num, by rw [r10 _ rfl], HZ.out, HN.out, HB.out⟩, by simp [intOf]; omega⟩
        · have hli : ¬ (k : Int) < s.size := by omega
          have HN : Hid (refDec s.data.toList = some v) := by
            show _ = _
            rw [HE.out, HG.out, List.drop_of_length_le (by rw [HL.out]; omega), refGo]
          go_wp2_with fail
          go_ret2
          rw [HN.out]
          exact ⟨rfl, HB.out⟩
theorem dec_len63 (n : Nat) (hn : n ≤ 9223372036854775808) : (Lib.decDigits n).length ≤ 21 := by
  have h := dec_length 19 n (by have : (10 : Nat) ^ (19 + 1) = 100000000000000000000 := by decide
                                omega)
  omega
/-- One digit's text. -/
theorem one_text (w : World) (x : Nat) (hx : x < 256) (t : TypeId) : (convert 37 9 (.slice (some ⟨w.heap.size, 0, none⟩) 1 1)).run Tryz.prog (w.alloc (.cells #[.int .u8 (x : Int)] t)) = .ok (.string ⟨#[UInt8.ofNat x]⟩) (w.alloc (.cells #[.int .u8 (x : Int)] t)) := by
  have h := text_run (w.alloc (.cells #[.int .u8 (x : Int)] t)) (some ⟨w.heap.size, 0, none⟩) 1 1 [(x : Int)] (Bytes.lit w w.heap.size rfl [(x : Int)] t (0, 0) 1 rfl (by omega) (by intro y hy; simp at hy; omega))
  rw [h]
  congr 2
theorem div_rule10d (n q : Nat) (h : n / 10 = q) : ∀ n' : Int, n' = (n : Int) → n' / 10 = (q : Int) := fun n' hn => by rw [hn, ← h]; simp
theorem mod_rule10d (n q : Nat) (h : n % 10 = q) : ∀ n' : Int, n' = (n : Int) → n' % 10 = (q : Int) := fun n' hn => by rw [hn, ← h]; simp
theorem add_rule48 (d x : Nat) (h : 48 + d = x) : ∀ d' : Int, d' = (d : Int) → 48 + d' = (x : Int) := fun d' hd => by rw [hd, ← h]; simp
set_option maxRecDepth 100000 in
set_option maxHeartbeats 4000000 in
theorem refDec_nat (n : Nat) (hn : n ≤ 9223372036854775807) (w : World) : Calls Tryz.prog 57 #[.int .i64 (n : Int)] w fun e w' => e = .returned (.string ⟨(Lib.decDigits n).toArray⟩) ∧ Below w.heap.size w w' := by
  have hn0 : ¬ (n : Int) < 0 := by omega
  have hlen := dec_len63 n (by omega)
  have HLEN : Hid ((Lib.decDigits n).length ≤ 21) := hlen
  clear hlen
  obtain ⟨q, hq⟩ : ∃ q, n / 10 = q := ⟨_, rfl⟩
  obtain ⟨d, hd⟩ : ∃ d, n % 10 = d := ⟨_, rfl⟩
  obtain ⟨x, hx⟩ : ∃ x, 48 + d = x := ⟨_, rfl⟩
  have hd10 : d < 10 := by omega
  have r1 := div_rule10d n q hq
  have r2 := mod_rule10d n d hd
  have r3 := add_rule48 d x hx
  have hx8 : x < 256 := by omega
  have ho := fun W t => one_text W x hx8 t
  have HS0 : Hid (if q = 0 then Lib.decDigits n = [UInt8.ofNat x] else Lib.decDigits n = Lib.decDigits q ++ [UInt8.ofNat x]) := by
    show if q = 0 then _ else _
    rw [Lib.decDigits]
    split
    · rw [dif_pos (by omega), show 48 + n = x by omega]
    · rw [dif_neg (by omega), hq, hd, hx]
  have hqb : q ≤ 922337203685477580 := by omega
  have r4 := wrap_rule q (by omega)
  clear hq hd hx
  go_enter Tryz.func57, Tryz.ntmps57
  go_wp2_with fail
  go_loopw [0, 4] (fun v u wr => ∃ (m : Nat) (S : ByteArray), v = .int .i64 (m : Int) ∧ u = .string S ∧ m ≤ 922337203685477580 ∧ (if m = 0 then Lib.decDigits n = S.data.toList else Lib.decDigits n = Lib.decDigits m ++ S.data.toList) ∧ Below w.heap.size w wr) (fun v u wr => (intOf v).toNat)
  case atStart => exact ⟨q, ⟨#[UInt8.ofNat x]⟩, by go_num, rfl, by omega, HS0.out, (Below.refl _ _).alloc (Nat.le_refl _) _⟩
  case round =>
    obtain ⟨m, S, rfl, rfl, hm, hp, hb⟩ := hrel
    have HP : Hid (if m = 0 then Lib.decDigits n = S.data.toList else Lib.decDigits n = Lib.decDigits m ++ S.data.toList) := hp
    have HB : Hid (Below w.heap.size w wr) := hb
    clear hp hb ho r1 r2 r3 r4 HS0
    by_cases h0 : m = 0
    · subst h0
      have HE : Hid ((⟨(Lib.decDigits n).toArray⟩ : ByteArray) = S) := by
        have := HP.out; rw [if_pos rfl] at this
        show _ = _
        rw [this]
      go_wp2_with fail
      go_ret
      rw [HE.out]
      exact ⟨rfl, HB.out⟩
    · have hpos : 0 < m := by omega
      have hposi : (0 : Int) < m := by omega
      have hsz : S.size ≤ 21 := by
        have h1 := HP.out; rw [if_neg h0] at h1
        have h2 := HLEN.out
        rw [h1, List.length_append] at h2
        have : S.data.toList.length = S.size := rfl
        omega
      obtain ⟨q1, hq⟩ : ∃ q, m / 10 = q := ⟨_, rfl⟩
      obtain ⟨d1, hd⟩ : ∃ d, m % 10 = d := ⟨_, rfl⟩
      obtain ⟨x1, hx⟩ : ∃ x, 48 + d1 = x := ⟨_, rfl⟩
      have hd10 : d1 < 10 := by omega
      have r1 := div_rule10d m q1 hq
      have r2 := mod_rule10d m d1 hd
      have r3 := add_rule48 d1 x1 hx
      have hx8 : x1 < 256 := by omega
      have ho := fun W t => one_text W x1 hx8 t
      have hl1 : ¬ 9223372036854775807 < 1 + S.size := by omega
      have hql : q1 < m := by omega
      have HN : Hid (if q1 = 0 then Lib.decDigits n = ((⟨#[UInt8.ofNat x1]⟩ : ByteArray) ++ S).data.toList else Lib.decDigits n = Lib.decDigits q1 ++ ((⟨#[UInt8.ofNat x1]⟩ : ByteArray) ++ S).data.toList) := by
        show if q1 = 0 then _ else _
        have h1 := HP.out; rw [if_neg h0] at h1
        rw [cat_list, h1]
        split
        · have hdm : Lib.decDigits m = [UInt8.ofNat x1] := by rw [Lib.decDigits, dif_pos (by omega), show 48 + m = x1 by omega]
          rw [hdm]; rfl
        · have hdm : Lib.decDigits m = Lib.decDigits q1 ++ [UInt8.ofNat x1] := by rw [Lib.decDigits, dif_neg (by omega), hq, hd, hx]
          rw [hdm, List.append_assoc]; rfl
      have HB2 : Hid (∀ o, Below w.heap.size w (wr.alloc o)) := fun o => HB.out.alloc HB.out.size o
      have hm2 : q1 ≤ 922337203685477580 := by omega
      have r4 := wrap_rule q1 (by omega)
      clear hq hd hx
      go_wp2_with fail
      exact ⟨⟨q1, _, rfl, rfl, hm2, HN.out, HB2.out _⟩, by simp [intOf]; omega⟩
set_option maxRecDepth 100000 in
set_option maxHeartbeats 4000000 in
theorem refDec_neg (M : Nat) (hM : M ≤ 9223372036854775808) (hM0 : 0 < M) (w : World) : Calls Tryz.prog 57 #[.int .i64 (-(M : Int))] w fun e w' => e = .returned (.string ⟨(45 :: Lib.decDigits M).toArray⟩) ∧ Below w.heap.size w w' := by
  obtain ⟨Z, hZ⟩ : ∃ Z : Int, Z = -(M : Int) := ⟨_, rfl⟩
  have HZ : Hid (Z = -(M : Int)) := hZ
  have hZ0 : Z < 0 := by omega
  have HLEN : Hid ((Lib.decDigits M).length ≤ 21) := dec_len63 M hM
  have HMM : Hid (M ≤ 9223372036854775808) := hM
  rw [← hZ]
  clear hZ hM hM0
  go_enter Tryz.func57, Tryz.ntmps57
  go_wp2_with fail
  go_loopw [0, 3] (fun v u wr => ∃ (z : Int) (m : Nat) (S : ByteArray), v = .int .i64 z ∧ z = -(m : Int) ∧ u = .string S ∧ m ≤ 9223372036854775808 ∧ (if m = 0 then Lib.decDigits M = S.data.toList else Lib.decDigits M = Lib.decDigits m ++ S.data.toList) ∧ Below w.heap.size w wr) (fun v u wr => (-(intOf v)).toNat)
  case atStart =>
    refine ⟨Z, M, ⟨#[]⟩, rfl, HZ.out, rfl, HMM.out, ?_, Below.refl _ _⟩
    have := HZ.out
    rw [if_neg (by omega)]
    simp
  case round =>
    obtain ⟨z, m, S, rfl, hz, rfl, hm, hp, hb⟩ := hrel
    have HP : Hid (if m = 0 then Lib.decDigits M = S.data.toList else Lib.decDigits M = Lib.decDigits m ++ S.data.toList) := hp
    have HB : Hid (Below w.heap.size w wr) := hb
    have HZM : Hid (z = -(m : Int)) := hz
    clear hp hb hZ0 HZ HMM
    by_cases h0 : m = 0
    · subst h0
      have hz0 : z = 0 := by omega
      subst hz0
      have h1 : Lib.decDigits M = S.data.toList := by have := HP.out; rwa [if_pos rfl] at this
      have hsz : S.size ≤ 21 := by
        have h2 := HLEN.out
        rw [h1] at h2
        exact h2
      have HE : Hid ((⟨(45 :: Lib.decDigits M).toArray⟩ : ByteArray) = (⟨#[45]⟩ : ByteArray) ++ S) := by
        show _ = _
        exact toList_inj0 _ _ (by rw [cat_list, h1])
      have hl1 : ¬ 9223372036854775807 < 1 + S.size := by omega
      clear h1 hz hm
      go_wp2_with fail
      go_ret
      rw [HE.out]
      exact ⟨rfl, HB.out⟩
    · have hzn : z < 0 := by omega
      have hsz : S.size ≤ 21 := by
        have h1 := HP.out; rw [if_neg h0] at h1
        have h2 := HLEN.out
        rw [h1, List.length_append] at h2
        have : S.data.toList.length = S.size := rfl
        omega
      obtain ⟨q1, hq⟩ : ∃ q, m / 10 = q := ⟨_, rfl⟩
      obtain ⟨d1, hd⟩ : ∃ d, m % 10 = d := ⟨_, rfl⟩
      obtain ⟨x1, hx⟩ : ∃ x, 48 + d1 = x := ⟨_, rfl⟩
      have hd10 : d1 < 10 := by omega
      obtain ⟨zq, hzq⟩ : ∃ zq : Int, zq = -(q1 : Int) := ⟨_, rfl⟩
      obtain ⟨zd, hzd⟩ : ∃ zd : Int, zd = -(d1 : Int) := ⟨_, rfl⟩
      have r1 : ∀ t : Int, t = z → t.tdiv 10 = zq := fun t ht => by rw [ht, hz, hzq, Int.neg_tdiv, ← hq]; congr 1
      have r2 : ∀ t : Int, t = z → t.tmod 10 = zd := fun t ht => by rw [ht, hz, hzd, Int.neg_tmod, ← hd]; congr 1
      have r3 : ∀ t : Int, t = zd → 48 - t = (x1 : Int) := fun t ht => by rw [ht, hzd]; omega
      have r4 : ∀ t : Int, t = zd → wrap64 t = zd := fun t ht => by rw [ht]; unfold wrap64; omega
      have r5 : ∀ t : Int, t = zq → wrap64 t = zq := fun t ht => by rw [ht]; unfold wrap64; omega
      have r6 := wrap_rule x1 (by omega)
      have hx8 : x1 < 256 := by omega
      have ho := fun W t => one_text W x1 hx8 t
      have hl1 : ¬ 9223372036854775807 < 1 + S.size := by omega
      have HQL : Hid (q1 < m) := by show q1 < m; omega
      have HZQ : Hid (zq = -(q1 : Int)) := hzq
      have HN : Hid (if q1 = 0 then Lib.decDigits M = ((⟨#[UInt8.ofNat x1]⟩ : ByteArray) ++ S).data.toList else Lib.decDigits M = Lib.decDigits q1 ++ ((⟨#[UInt8.ofNat x1]⟩ : ByteArray) ++ S).data.toList) := by
        show if q1 = 0 then _ else _
        have h1 := HP.out; rw [if_neg h0] at h1
        rw [cat_list, h1]
        split
        · have hdm : Lib.decDigits m = [UInt8.ofNat x1] := by rw [Lib.decDigits, dif_pos (by omega), show 48 + m = x1 by omega]
          rw [hdm]; rfl
        · have hdm : Lib.decDigits m = Lib.decDigits q1 ++ [UInt8.ofNat x1] := by rw [Lib.decDigits, dif_neg (by omega), hq, hd, hx]
          rw [hdm, List.append_assoc]; rfl
      have HB2 : Hid (∀ o, Below w.heap.size w (wr.alloc o)) := fun o => HB.out.alloc HB.out.size o
      have HM2 : Hid (q1 ≤ 9223372036854775808) := by show q1 ≤ _; omega
      clear hq hd hx hzq hzd hz hm h0 hd10
      go_wp2_with fail
      refine ⟨⟨zq, q1, _, by rw [r5 _ rfl], HZQ.out, rfl, HM2.out, HN.out, HB2.out _⟩, ?_⟩
      have h1 := HZM.out
      have h2 := HZQ.out
      have h3 := HQL.out
      show (-(wrap64 zq)).toNat < (-z).toNat
      rw [r5 _ rfl]
      omega
/-- The document's digits of any number. -/
theorem rdec_any (n : Int) (h0 : -9223372036854775808 ≤ n) (h1 : n ≤ 9223372036854775807) (w : World) : Calls Tryz.prog 57 #[.int .i64 n] w fun e w' => e = .returned (.string (txt (Lib.itoa n))) ∧ Below w.heap.size w w' := by
  by_cases hn : n < 0
  · obtain ⟨M, rfl⟩ : ∃ M : Nat, n = -(M : Int) := ⟨(-n).toNat, by omega⟩
    rw [Lib.itoa_neg M (by omega)]
    exact refDec_neg M (by omega) (by omega) w
  · obtain ⟨M, rfl⟩ : ∃ M : Nat, n = M := ⟨n.toNat, by omega⟩
    rw [itoa_nat]
    exact refDec_nat M (by omega) w
theorem rfrom_any (l : List UInt8) (hs : l.length ≤ 100000) (w : World) :
    Calls Tryz.prog 59 #[.string (txt l)] w fun e w' => (∃ b, e = .returned (.tuple #[.int .i64 ((decF l).1 : Nat), .bool b])) ∧ Below w.heap.size w w' := by
  refine (refFromDec_any (txt l) (by rw [txt_size]; exact hs) w).mono ?_
  rintro e w' ⟨rfl, hb⟩
  refine ⟨⟨(optNum (refDec (txt l).data.toList)).2, ?_⟩, hb⟩
  have h := dec_same l
  rw [txt_list]
  cases hr : refDec l with
  | none => rw [hr] at h; rw [h]; rfl
  | some n => rw [hr] at h; rw [h]; rfl
end Go.Proofs.YtindmggmblmmcaaGreatDoor
