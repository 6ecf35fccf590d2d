/- Texts as numbers: the document's answer, the walk, and that both agree. -/
import Derived.Test.YtomnogbahjcnnaaDoorSigns
import Derived.Test.YtomnogbahjcnnaaDoorOfs2
namespace Go.Proofs.YtomnogbahjcnnaaDoor
open Go.RowKit
set_option linter.unusedVariables false
namespace Plain
/-- The document's reading, digit by digit. -/
def refGo : List UInt8 → Nat → Option Nat
  | [], n => some n
  | c :: r, n => if c.toNat < 48 ∨ 57 < c.toNat then none else if (4611686018427387903 - (c.toNat - 48)) / 10 < n then none else refGo r (10 * n + (c.toNat - 48))
def refBad (l : List UInt8) : Prop := l.length = 0 ∨ 19 < l.length ∨ (1 < l.length ∧ (l[0]?.getD 0).toNat = 48)
instance (l : List UInt8) : Decidable (refBad l) := by unfold refBad; infer_instance
def refDec (l : List UInt8) : Option Nat := if refBad l then none else refGo l 0
end Plain
open Plain
theorem refGo_append : ∀ (l r : List UInt8) (acc v : Nat), refGo l acc = some v → refGo (l ++ r) acc = refGo r v
  | [], r, acc, v, h => by
    simp only [refGo] at h
    injection h with h
    rw [h]; rfl
  | c :: l, r, acc, v, h => by
    rw [List.cons_append]
    simp only [refGo] at h ⊢
    split at h
    · cases h
    · rename_i h1
      rw [if_neg h1]
      split at h
      · cases h
      · rename_i h2
        rw [if_neg h2]
        exact refGo_append l r _ v h
theorem refGo_one (acc d : Nat) (hd : d < 10) (h : acc * 10 + d ≤ 4611686018427387903) : refGo [UInt8.ofNat (48 + d)] acc = some (acc * 10 + d) := by
  simp only [refGo, digit_nat d hd]
  rw [if_neg (by omega), if_neg (by omega)]
  congr 1
  omega
theorem refGo_dec : ∀ (k u : Nat), u ≤ k → u ≤ 4611686018427387903 → refGo (Lib.decDigits u) 0 = some u
  | 0, u, hk, h => by
    have hu : u < 10 := by omega
    rw [Lib.decDigits, dif_pos hu, refGo_one 0 u hu (by omega)]
    simp
  | k + 1, u, hk, h => by
    rw [Lib.decDigits]
    split
    · rename_i hu
      rw [refGo_one 0 u hu (by omega)]
      simp
    · rw [refGo_append _ _ 0 _ (refGo_dec k (u / 10) (by omega) (by omega)), refGo_one _ _ (by omega) (by omega)]
      congr 1
      omega
theorem dec_length : ∀ (k u : Nat), u < 10 ^ (k + 1) → (Lib.decDigits u).length ≤ k + 1
  | 0, u, h => by rw [Lib.decDigits, dif_pos (by omega)]; simp
  | k + 1, u, h => by
    rw [Lib.decDigits]
    split
    · simp
    · rw [List.length_append, List.length_singleton]
      have hp : 10 ^ (k + 1 + 1) = 10 ^ (k + 1) * 10 := Nat.pow_succ ..
      have := dec_length k (u / 10) (by omega)
      omega
theorem refDec_dec (n : Nat) (hn : n ≤ 4611686018427387903) : refDec (Lib.decDigits n) = some n := by
  unfold refDec
  rw [if_neg ?_]
  · exact refGo_dec n n (Nat.le_refl _) hn
  · unfold refBad
    have h1 := dec_length 18 n (by have : (10 : Nat) ^ (18 + 1) = 10000000000000000000 := by decide
                                   omega)
    have h2 := List.length_pos_iff.2 (dec_ne_nil n)
    rintro (h | h | ⟨h, h'⟩)
    · omega
    · omega
    · rcases Nat.eq_zero_or_pos n with rfl | h0
      · rw [Lib.decDigits, dif_pos (by omega)] at h
        simp at h
      · obtain ⟨c, r, h3, h4⟩ := dec_head n n (Nat.le_refl _) (by omega)
        rw [h3] at h'
        exact h4 h'
theorem byte_digit (c : UInt8) (h : ¬ (c.toNat < 48 ∨ 57 < c.toNat)) : UInt8.ofNat (48 + (c.toNat - 48)) = c := by
  rw [show 48 + (c.toNat - 48) = c.toNat by omega]
  exact UInt8.ofNat_toNat
theorem refGo_back : ∀ (l : List UInt8) (acc n : Nat), 1 ≤ acc → acc ≤ 4611686018427387903 → refGo l acc = some n → Lib.decDigits n = Lib.decDigits acc ++ l ∧ n ≤ 4611686018427387903
  | [], acc, n, h1, h2, h => by
    simp only [refGo] at h
    injection h with h
    rw [← h, List.append_nil]; exact ⟨rfl, h2⟩
  | c :: r, acc, n, h1, h2, h => by
    simp only [refGo] at h
    split at h
    · cases h
    · rename_i hd
      split at h
      · cases h
      · rename_i hb
        obtain ⟨e, he⟩ := refGo_back r _ n (by omega) (by omega) h
        refine ⟨?_, he⟩
        rw [e, Lib.decDigits, dif_neg (by omega), show (10 * acc + (c.toNat - 48)) / 10 = acc by omega, show (10 * acc + (c.toNat - 48)) % 10 = c.toNat - 48 by omega, byte_digit c hd]
        simp
theorem refDec_back (l : List UInt8) (n : Nat) (h : refDec l = some n) : Lib.decDigits n = l ∧ n ≤ 4611686018427387903 := by
  unfold refDec at h
  split at h
  · cases h
  · rename_i hb
    unfold refBad at hb
    cases l with
    | nil => exact absurd (.inl rfl) hb
    | cons c r =>
      simp only [refGo] at h
      split at h
      · cases h
      · rename_i hd
        rw [if_neg (by omega)] at h
        cases r with
        | nil =>
          simp only [refGo] at h
          injection h with h
          rw [show n = c.toNat - 48 by omega, Lib.decDigits, dif_pos (by omega), byte_digit c hd]
          exact ⟨rfl, by omega⟩
        | cons c2 r2 =>
          have h48 : c.toNat ≠ 48 := fun e => hb (.inr (.inr ⟨by simp, e⟩))
          obtain ⟨e, he⟩ := refGo_back (c2 :: r2) _ n (by omega) (by omega) h
          refine ⟨?_, he⟩
          rw [e, Lib.decDigits, dif_pos (by omega), show 10 * 0 + (c.toNat - 48) = c.toNat - 48 by omega, byte_digit c hd]
          rfl
theorem dec_same (l : List UInt8) : decF l = match refDec l with | some n => (n, 0) | none => (0, 4) := by
  cases h : refDec l with
  | some n =>
    obtain ⟨e, he⟩ := refDec_back l n h
    rw [← e]; exact decF_dec n he
  | none =>
    refine decF_other fun n hn e => ?_
    rw [← e, refDec_dec n hn] at h
    cases h
def at8 (s : ByteArray) (i : Nat) : Nat := (s.data.toList[i]?.getD 0).toNat
theorem at8_lt (s : ByteArray) (i : Nat) : at8 s i < 256 := UInt8.toNat_lt _
theorem index_text (s : ByteArray) (i : Nat) (h : i < s.size) (x : Int) (hx : x = (i : Int)) (w : World) : (Instr.index 9 (.string s) (.int .i64 x)).run Tryd.prog w = .ok (.int .u8 (at8 s i : Nat)) w := by
  subst hx
  rw [run_index_string w 9 s .i64 _ Tryd.underlying9, dif_pos (by omega)]
  have h1 : i < s.data.toList.length := by simpa using h
  have : at8 s i = (s[i]'h).toNat := by unfold at8; rw [List.getElem?_eq_getElem h1]; rfl
  rw [this]
  rfl
theorem drop_at (s : ByteArray) (i : Nat) (h : i < s.size) : ∃ c, s.data.toList.drop i = c :: s.data.toList.drop (i + 1) ∧ c.toNat = at8 s i := by
  have h1 : i < s.data.toList.length := by simpa using h
  refine ⟨s.data.toList[i], List.drop_eq_getElem_cons h1, ?_⟩
  unfold at8; rw [List.getElem?_eq_getElem h1]; rfl
theorem sub_rule48 (x d : Nat) (h : x = 48 + d) : ∀ x' : Int, x' = (x : Int) → x' - 48 = (d : Int) := fun x' h' => by rw [h', h]; omega
theorem sub_ruleM (q d : Nat) (h : 4611686018427387903 - d = q) (hd : d ≤ 9) : ∀ d' : Int, d' = (d : Int) → 4611686018427387903 - d' = (q : Int) := fun d' h' => by rw [h']; omega
theorem div_rule10 (n q : Nat) (h : n / 10 = q) : ∀ n' : Int, n' = (n : Int) → n' / 10 = (q : Int) := fun n' hn => by rw [hn, ← h]; simp
theorem mul_rule10 (n q : Nat) (h : 10 * n = q) : ∀ n' : Int, n' = (n : Int) → 10 * n' = (q : Int) := fun n' hn => by rw [hn, ← h]; simp
theorem add_rule (n d q : Nat) (h : n + d = q) : ∀ n' d' : Int, n' = (n : Int) → d' = (d : Int) → n' + d' = (q : Int) := fun n' d' hn hd => by rw [hn, hd, ← h]; simp
def optNum : Option Nat → Nat × Bool
  | some n => (n, true)
  | none => (0, false)
set_option maxRecDepth 100000 in
set_option maxHeartbeats 4000000 in
theorem refFromDec_any (s : ByteArray) (hs : s.size ≤ 100) (w : World) :
    Calls Tryd.prog 24 #[.string s] w fun e w' => e = .returned (.tuple #[.int .i64 ((optNum (refDec s.data.toList)).1 : Nat), .bool (optNum (refDec s.data.toList)).2]) ∧ Below w.heap.size w w' := by
  have HR : Hid (∀ o, refDec s.data.toList = o → refDec s.data.toList = o) := fun _ h => h
  have HL : Hid (s.data.toList.length = s.size) := rfl
  go_enter Tryd.func24, Tryd.ntmps24
  by_cases hb : refBad s.data.toList
  · have HE : Hid (refDec s.data.toList = none) := by show _ = _; unfold refDec; rw [if_pos hb]
    have hb' := hb
    unfold refBad at hb'
    rw [HL.out] at hb'
    clear hb
    rcases hb' with hb | hb | ⟨hb, hc⟩
    · have hi : (s.size : Int) = 0 := by omega
      go_wp2_with fail
      go_ret2
      rw [HE.out]
      exact ⟨rfl, Below.refl _ _⟩
    · have hi : (19 : Int) < s.size := by omega
      have hi0 : ¬ s.size = 0 := by omega
      go_wp2_with fail
      go_ret2
      rw [HE.out]
      exact ⟨rfl, Below.refl _ _⟩
    · have hi : (1 : Int) < s.size := by omega
      have hi0 : ¬ s.size = 0 := by omega
      have hx := fun W => index_text s 0 (by omega) 0 rfl W
      rw [show at8 s 0 = 48 from hc] at hx
      clear hc
      go_wp2_with fail
      all_goals (go_ret2; rw [HE.out]; exact ⟨rfl, Below.refl _ _⟩)
  · have HE : Hid (refDec s.data.toList = refGo s.data.toList 0) := by show _ = _; unfold refDec; rw [if_neg hb]
    unfold refBad at hb
    rw [HL.out] at hb
    have hi0 : ((s.size : Int) == 0) = false := beq_eq_false_iff_ne.2 (by omega)
    have hi1 : ¬ (19 : Int) < s.size := by omega
    have hi2 : ¬ 19 < s.size := by omega
    have hx := fun W => index_text s 0 (by omega) 0 rfl W
    have h48 : (1 < s.size ∧ ((at8 s 0 : Int) == 48) = false ∧ True) ∨ (¬ 1 < s.size ∧ ¬ (1 : Int) < s.size ∧ True) := by
      by_cases h1 : 1 < s.size
      · have : ¬ at8 s 0 = 48 := fun e => hb (.inr (.inr ⟨h1, e⟩))
        exact .inl ⟨h1, by simp; omega, trivial⟩
      · exact .inr ⟨h1, by omega, trivial⟩
    clear hb
    generalize at8 s 0 = x0 at *
    rcases h48 with ⟨h1, h2, h3⟩ | ⟨h1, h2, h3⟩
    all_goals
      go_wp2_with fail
      clear hx h1 h2 h3
      go_loopw [4, 5] (fun n i wr => ∃ (k v : Nat), k ≤ s.size ∧ i = .int .i64 k ∧ n = .int .i64 v ∧ v ≤ 4611686018427387903 ∧ refGo s.data.toList 0 = refGo (s.data.toList.drop k) v ∧ Below w.heap.size w wr) (fun n i wr => s.size - (intOf i).toNat)
      case atStart => exact ⟨0, 0, by omega, rfl, rfl, by omega, by rw [List.drop_zero], Below.refl _ _⟩
      case round =>
        obtain ⟨k, v, hk, rfl, rfl, hv, hg, hbw⟩ := hrel
        have HG : Hid (refGo s.data.toList 0 = refGo (s.data.toList.drop k) v) := hg
        have HB : Hid (Below w.heap.size w wr) := hbw
        clear hg hbw
        by_cases hlt : k < s.size
        · have hx := fun W => index_text s k hlt (k : Int) rfl W
          have HDR : Hid (∃ c, s.data.toList.drop k = c :: s.data.toList.drop (k + 1) ∧ c.toNat = at8 s k) := drop_at s k hlt
          have hx5 := at8_lt s k
          generalize at8 s k = x at *
          have hli : (k : Int) < s.size := by omega
          by_cases hd : x < 48 ∨ 57 < x
          · have HN : Hid (refDec s.data.toList = none) := by
              obtain ⟨c, e, hc⟩ := HDR.out
              show _ = _
              rw [HE.out, HG.out, e, refGo, if_pos (by rw [hc]; exact hd)]
            rcases hd with hd | hd
            · have hdi : (x : Int) < 48 := by omega
              go_wp2_with fail
              go_ret2
              rw [HN.out]
              exact ⟨rfl, HB.out⟩
            · have hdi : ¬ (x : Int) < 48 := by omega
              have hdj : (57 : Int) < x := by omega
              go_wp2_with fail
              go_ret2
              rw [HN.out]
              exact ⟨rfl, HB.out⟩
          · have hdi : ¬ (x : Int) < 48 := by omega
            have hdj : ¬ (57 : Int) < x := by omega
            obtain ⟨d, hxd⟩ : ∃ d, x = 48 + d := ⟨x - 48, by omega⟩
            have hd9 : d ≤ 9 := by omega
            have HXD : Hid (x - 48 = d) := by show _ = _; omega
            have r1 := sub_rule48 x d hxd
            obtain ⟨q, hq⟩ : ∃ q, 4611686018427387903 - d = q := ⟨_, rfl⟩
            obtain ⟨q2, hq2⟩ : ∃ q2, q / 10 = q2 := ⟨_, rfl⟩
            have r2 := sub_ruleM q d hq hd9
            have r3 := div_rule10 q q2 hq2
            have r4 := wrap_rule d (by omega)
            have r5 := wrap_rule q (by omega)
            have r6 := wrap_rule q2 (by omega)
            by_cases hbig : q2 < v
            · have hbi : (q2 : Int) < v := by omega
              have HN : Hid (refDec s.data.toList = none) := by
                obtain ⟨c, e, hc⟩ := HDR.out
                show _ = _
                rw [HE.out, HG.out, e, refGo, if_neg (by rw [hc]; exact hd), hc, HXD.out, hq, hq2, if_pos hbig]
              clear hxd hq hq2 hd
              go_wp2_with fail
              go_ret2
              rw [HN.out]
              exact ⟨rfl, HB.out⟩
            · have hbi : ¬ (q2 : Int) < v := by omega
              obtain ⟨y, hy⟩ : ∃ y, 10 * v = y := ⟨_, rfl⟩
              obtain ⟨z, hz⟩ : ∃ z, y + d = z := ⟨_, rfl⟩
              have r7 := mul_rule10 v y hy
              have r8 := add_rule y d z hz
              have r9 := wrap_rule y (by omega)
              have r10 := wrap_rule z (by omega)
              have HZ : Hid (z ≤ 4611686018427387903) := by show _ ≤ _; omega
              have HN : Hid (refGo s.data.toList 0 = refGo (s.data.toList.drop (k + 1)) z) := by
                obtain ⟨c, e, hc⟩ := HDR.out
                show _ = _
                rw [HG.out, e, refGo, if_neg (by rw [hc]; exact hd), hc, HXD.out, hq, hq2, if_neg hbig, hy, hz]
              clear hxd hq hq2 hd hy hz
              go_wp2_with fail
              exact ⟨⟨k + 1, z, by omega, by go_num, by rw [r10 _ rfl], HZ.out, HN.out, HB.out⟩, by simp [intOf]; omega⟩
        · have hli : ¬ (k : Int) < s.size := by omega
          have HN : Hid (refDec s.data.toList = some v) := by
            show _ = _
            rw [HE.out, HG.out, List.drop_of_length_le (by rw [HL.out]; omega), refGo]
          go_wp2_with fail
          go_ret2
          rw [HN.out]
          exact ⟨rfl, HB.out⟩
theorem run_min2 {P : Program} (ts : Array TypeId) (t : TypeId) (k k1 : IntKind) (x y : Int) (w : World) : (Builtin.min_ ts t #[.int k x, .int k1 y]).run P w = .ok (.int k (min x y)) w := by
  have e : ∀ p q : Int, (if q < p then q else p) = min p q := fun p q => by split <;> omega
  simp [Builtin.min_, Builtin.min2, e]
set_option maxRecDepth 100000 in
set_option maxHeartbeats 4000000 in
theorem texts_any (s0 : ByteArray) (w0 : s0.size ≤ maxLen) (w : World) (htab : Lib.TabIs Tryd.prog w "internal/strconv.uint64pow10" .u64 Lib.pow10Tab) (hv : ErrVars w) :
    Calls Tryd.prog 5 #[.string s0] w fun e w' => e = .returned (.bool true) ∧ Below w.heap.size w w' := by
  have HT : Hid (Lib.TabIs Tryd.prog w "internal/strconv.uint64pow10" .u64 Lib.pow10Tab) := htab
  have HV : Hid (ErrVars w) := hv
  clear htab hv
  obtain ⟨q, hq⟩ : ∃ q, min s0.size 100 = q := ⟨_, rfl⟩
  have hqi : min (s0.size : Int) 100 = (q : Int) := by omega
  have hq1 : q ≤ s0.size := by omega
  have hq2 : q ≤ 100 := by omega
  have hmin := fun (ts : Array TypeId) (t : TypeId) (W : World) => run_min2 (P := Tryd.prog) ts t .i64 .i64 (s0.size : Int) 100 W
  rw [hqi] at hmin
  go_enter Tryd.func5, Tryd.ntmps5
  go_wp2_with fail
  have hs1 : (s0.extract 0 q).size ≤ 100 := by
    rw [ByteArray.size_extract]; omega
  generalize s0.extract 0 q = S at *
  clear hmin hqi
  refine (fromDec_any S (by omega) w HT.out HV.out).mono ?_
  rw [dec_same]
  have HS : Hid (S.size ≤ 100) := hs1
  clear hs1
  cases hd : refDec S.data.toList with
  | some n =>
    have HD : Hid (refDec S.data.toList = some n) := hd
    clear hd
    rintro e w1 ⟨rfl, hb1⟩
    have HW1 : Hid (Below w.heap.size w w1) := hb1
    clear hb1
    dsimp only
    go_wp2_with fail
    refine (refFromDec_any S HS.out w1).mono ?_
    rw [HD.out]
    rintro e w2 ⟨rfl, hb2⟩
    have HW2 : Hid (Below w.heap.size w w2) := HW1.out.trans (hb2.mono HW1.out.size)
    clear hb2
    simp only [optNum]
    go_wp2_with fail
    refine (known_any w2).mono ?_
    rintro e w3 ⟨rfl, hb3⟩
    have HW3 : Hid (Below w.heap.size w w3) := HW2.out.trans (hb3.mono HW2.out.size)
    clear hb3
    go_wp2_with fail
    go_ret
    exact ⟨rfl, HW3.out⟩
  | none =>
    have HD : Hid (refDec S.data.toList = none) := hd
    clear hd
    rintro e w1 ⟨rfl, hb1⟩
    have HW1 : Hid (Below w.heap.size w w1) := hb1
    clear hb1
    dsimp only
    go_wp2_with fail
    refine (refFromDec_any S HS.out w1).mono ?_
    rw [HD.out]
    rintro e w2 ⟨rfl, hb2⟩
    have HW2 : Hid (Below w.heap.size w w2) := HW1.out.trans (hb2.mono HW1.out.size)
    clear hb2
    simp only [optNum]
    go_wp2_with fail
    refine (known_any w2).mono ?_
    rintro e w3 ⟨rfl, hb3⟩
    have HW3 : Hid (Below w.heap.size w w3) := HW2.out.trans (hb3.mono HW2.out.size)
    clear hb3
    go_wp2_with fail
    go_ret
    exact ⟨rfl, HW3.out⟩
end Go.Proofs.YtomnogbahjcnnaaDoor
