/- The document's digits of a number: the walks. -/
import Derived.Test.YtomnogbahjcnnaaDoorTexts
namespace Go.Proofs.YtomnogbahjcnnaaDoor
open Go.RowKit Plain
set_option linter.unusedVariables false
theorem dec_len63 (n : Nat) (hn : n ≤ 9223372036854775808) : (Lib.decDigits n).length ≤ 21 := by
  have h := dec_length 19 n (by have : (10 : Nat) ^ (19 + 1) = 100000000000000000000 := by decide
                                omega)
  omega
theorem dec_all (n : Int) (h0 : -9223372036854775808 ≤ n) (h1 : n ≤ 9223372036854775807) (w : World) (htab : Lib.TabIs Tryd.prog w "internal/strconv.uint64pow10" .u64 Lib.pow10Tab) :
    Calls Tryd.prog 17 #[.int .i64 n] w fun e w' => e = .returned (.string ⟨(Lib.itoa n).toArray⟩) ∧ Below w.heap.size w w' := by
  go_enter Tryd.func17, Tryd.ntmps17
  go_wp2_with fail
  refine (Tryd.strconv_Itoa n h0 h1 w htab).mono ?_
  rintro e w2 ⟨rfl, k, os, rfl⟩
  have HB : Hid (Below w.heap.size w (Sort.grow (w.drewN k) os)) := below_grow w k os
  go_wp2_with fail
  go_ret
  exact ⟨rfl, HB.out⟩
/-- One digit's text. -/
theorem one_text (w : World) (x : Nat) (hx : x < 256) (t : TypeId) : (convert 23 9 (.slice (some ⟨w.heap.size, 0, none⟩) 1 1)).run Tryd.prog (w.alloc (.cells #[.int .u8 (x : Int)] t)) = .ok (.string ⟨#[UInt8.ofNat x]⟩) (w.alloc (.cells #[.int .u8 (x : Int)] t)) := by
  have h := text_run (w.alloc (.cells #[.int .u8 (x : Int)] t)) (some ⟨w.heap.size, 0, none⟩) 1 1 [(x : Int)] (Bytes.lit w w.heap.size rfl [(x : Int)] t (0, 0) 1 rfl (by omega) (by intro y hy; simp at hy; omega))
  rw [h]
  congr 2
theorem div_rule10d (n q : Nat) (h : n / 10 = q) : ∀ n' : Int, n' = (n : Int) → n' / 10 = (q : Int) := fun n' hn => by rw [hn, ← h]; simp
theorem mod_rule10d (n q : Nat) (h : n % 10 = q) : ∀ n' : Int, n' = (n : Int) → n' % 10 = (q : Int) := fun n' hn => by rw [hn, ← h]; simp
theorem add_rule48 (d x : Nat) (h : 48 + d = x) : ∀ d' : Int, d' = (d : Int) → 48 + d' = (x : Int) := fun d' hd => by rw [hd, ← h]; simp
set_option maxRecDepth 100000 in
set_option maxHeartbeats 4000000 in
theorem refDec_nat (n : Nat) (hn : n ≤ 9223372036854775807) (w : World) : Calls Tryd.prog 18 #[.int .i64 (n : Int)] w fun e w' => e = .returned (.string ⟨(Lib.decDigits n).toArray⟩) ∧ Below w.heap.size w w' := by
  have hn0 : ¬ (n : Int) < 0 := by omega
  have hlen := dec_len63 n (by omega)
  have HLEN : Hid ((Lib.decDigits n).length ≤ 21) := hlen
  clear hlen
  obtain ⟨q, hq⟩ : ∃ q, n / 10 = q := ⟨_, rfl⟩
  obtain ⟨d, hd⟩ : ∃ d, n % 10 = d := ⟨_, rfl⟩
  obtain ⟨x, hx⟩ : ∃ x, 48 + d = x := ⟨_, rfl⟩
  have hd10 : d < 10 := by omega
  have r1 := div_rule10d n q hq
  have r2 := mod_rule10d n d hd
  have r3 := add_rule48 d x hx
  have hx8 : x < 256 := by omega
  have ho := fun W t => one_text W x hx8 t
  have HS0 : Hid (if q = 0 then Lib.decDigits n = [UInt8.ofNat x] else Lib.decDigits n = Lib.decDigits q ++ [UInt8.ofNat x]) := by
    show if q = 0 then _ else _
    rw [Lib.decDigits]
    split
    · rw [dif_pos (by omega), show 48 + n = x by omega]
    · rw [dif_neg (by omega), hq, hd, hx]
  have hqb : q ≤ 922337203685477580 := by omega
  have r4 := wrap_rule q (by omega)
  clear hq hd hx
  go_enter Tryd.func18, Tryd.ntmps18
  go_wp2_with fail
  go_loopw [0, 4] (fun v u wr => ∃ (m : Nat) (S : ByteArray), v = .int .i64 (m : Int) ∧ u = .string S ∧ m ≤ 922337203685477580 ∧ (if m = 0 then Lib.decDigits n = S.data.toList else Lib.decDigits n = Lib.decDigits m ++ S.data.toList) ∧ Below w.heap.size w wr) (fun v u wr => (intOf v).toNat)
  case atStart => exact ⟨q, ⟨#[UInt8.ofNat x]⟩, by go_num, rfl, by omega, HS0.out, (Below.refl _ _).alloc (Nat.le_refl _) _⟩
  case round =>
    obtain ⟨m, S, rfl, rfl, hm, hp, hb⟩ := hrel
    have HP : Hid (if m = 0 then Lib.decDigits n = S.data.toList else Lib.decDigits n = Lib.decDigits m ++ S.data.toList) := hp
    have HB : Hid (Below w.heap.size w wr) := hb
    clear hp hb ho r1 r2 r3 r4 HS0
    by_cases h0 : m = 0
    · subst h0
      have HE : Hid ((⟨(Lib.decDigits n).toArray⟩ : ByteArray) = S) := by
        have := HP.out; rw [if_pos rfl] at this
        show _ = _
        rw [this]
      go_wp2_with fail
      go_ret
      rw [HE.out]
      exact ⟨rfl, HB.out⟩
    · have hpos : 0 < m := by omega
      have hposi : (0 : Int) < m := by omega
      have hsz : S.size ≤ 21 := by
        have h1 := HP.out; rw [if_neg h0] at h1
        have h2 := HLEN.out
        rw [h1, List.length_append] at h2
        have : S.data.toList.length = S.size := rfl
        omega
      obtain ⟨q1, hq⟩ : ∃ q, m / 10 = q := ⟨_, rfl⟩
      obtain ⟨d1, hd⟩ : ∃ d, m % 10 = d := ⟨_, rfl⟩
      obtain ⟨x1, hx⟩ : ∃ x, 48 + d1 = x := ⟨_, rfl⟩
      have hd10 : d1 < 10 := by omega
      have r1 := div_rule10d m q1 hq
      have r2 := mod_rule10d m d1 hd
      have r3 := add_rule48 d1 x1 hx
      have hx8 : x1 < 256 := by omega
      have ho := fun W t => one_text W x1 hx8 t
      have hl1 : ¬ 9223372036854775807 < 1 + S.size := by omega
      have hql : q1 < m := by omega
      have HN : Hid (if q1 = 0 then Lib.decDigits n = ((⟨#[UInt8.ofNat x1]⟩ : ByteArray) ++ S).data.toList else Lib.decDigits n = Lib.decDigits q1 ++ ((⟨#[UInt8.ofNat x1]⟩ : ByteArray) ++ S).data.toList) := by
        show if q1 = 0 then _ else _
        have h1 := HP.out; rw [if_neg h0] at h1
        rw [cat_list, h1]
        split
        · have hdm : Lib.decDigits m = [UInt8.ofNat x1] := by rw [Lib.decDigits, dif_pos (by omega), show 48 + m = x1 by omega]
          rw [hdm]; rfl
        · have hdm : Lib.decDigits m = Lib.decDigits q1 ++ [UInt8.ofNat x1] := by rw [Lib.decDigits, dif_neg (by omega), hq, hd, hx]
          rw [hdm, List.append_assoc]; rfl
      have HB2 : Hid (∀ o, Below w.heap.size w (wr.alloc o)) := fun o => HB.out.alloc HB.out.size o
      have hm2 : q1 ≤ 922337203685477580 := by omega
      have r4 := wrap_rule q1 (by omega)
      clear hq hd hx
      go_wp2_with fail
      exact ⟨⟨q1, _, rfl, rfl, hm2, HN.out, HB2.out _⟩, by simp [intOf]; omega⟩
set_option maxRecDepth 100000 in
set_option maxHeartbeats 4000000 in
theorem refDec_neg (M : Nat) (hM : M ≤ 9223372036854775808) (hM0 : 0 < M) (w : World) : Calls Tryd.prog 18 #[.int .i64 (-(M : Int))] w fun e w' => e = .returned (.string ⟨(45 :: Lib.decDigits M).toArray⟩) ∧ Below w.heap.size w w' := by
  obtain ⟨Z, hZ⟩ : ∃ Z : Int, Z = -(M : Int) := ⟨_, rfl⟩
  have HZ : Hid (Z = -(M : Int)) := hZ
  have hZ0 : Z < 0 := by omega
  have HLEN : Hid ((Lib.decDigits M).length ≤ 21) := dec_len63 M hM
  have HMM : Hid (M ≤ 9223372036854775808) := hM
  rw [← hZ]
  clear hZ hM hM0
  go_enter Tryd.func18, Tryd.ntmps18
  go_wp2_with fail
  go_loopw [0, 3] (fun v u wr => ∃ (z : Int) (m : Nat) (S : ByteArray), v = .int .i64 z ∧ z = -(m : Int) ∧ u = .string S ∧ m ≤ 9223372036854775808 ∧ (if m = 0 then Lib.decDigits M = S.data.toList else Lib.decDigits M = Lib.decDigits m ++ S.data.toList) ∧ Below w.heap.size w wr) (fun v u wr => (-(intOf v)).toNat)
  case atStart =>
    refine ⟨Z, M, ⟨#[]⟩, rfl, HZ.out, rfl, HMM.out, ?_, Below.refl _ _⟩
    have := HZ.out
    rw [if_neg (by omega)]
    simp
  case round =>
    obtain ⟨z, m, S, rfl, hz, rfl, hm, hp, hb⟩ := hrel
    have HP : Hid (if m = 0 then Lib.decDigits M = S.data.toList else Lib.decDigits M = Lib.decDigits m ++ S.data.toList) := hp
    have HB : Hid (Below w.heap.size w wr) := hb
    have HZM : Hid (z = -(m : Int)) := hz
    clear hp hb hZ0 HZ HMM
    by_cases h0 : m = 0
    · subst h0
      have hz0 : z = 0 := by omega
      subst hz0
      have h1 : Lib.decDigits M = S.data.toList := by have := HP.out; rwa [if_pos rfl] at this
      have hsz : S.size ≤ 21 := by
        have h2 := HLEN.out
        rw [h1] at h2
        exact h2
      have HE : Hid ((⟨(45 :: Lib.decDigits M).toArray⟩ : ByteArray) = (⟨#[45]⟩ : ByteArray) ++ S) := by
        show _ = _
        exact toList_inj0 _ _ (by rw [cat_list, h1])
      have hl1 : ¬ 9223372036854775807 < 1 + S.size := by omega
      clear h1 hz hm
      go_wp2_with fail
      go_ret
      rw [HE.out]
      exact ⟨rfl, HB.out⟩
    · have hzn : z < 0 := by omega
      have hsz : S.size ≤ 21 := by
        have h1 := HP.out; rw [if_neg h0] at h1
        have h2 := HLEN.out
        rw [h1, List.length_append] at h2
        have : S.data.toList.length = S.size := rfl
        omega
      obtain ⟨q1, hq⟩ : ∃ q, m / 10 = q := ⟨_, rfl⟩
      obtain ⟨d1, hd⟩ : ∃ d, m % 10 = d := ⟨_, rfl⟩
      obtain ⟨x1, hx⟩ : ∃ x, 48 + d1 = x := ⟨_, rfl⟩
      have hd10 : d1 < 10 := by omega
      obtain ⟨zq, hzq⟩ : ∃ zq : Int, zq = -(q1 : Int) := ⟨_, rfl⟩
      obtain ⟨zd, hzd⟩ : ∃ zd : Int, zd = -(d1 : Int) := ⟨_, rfl⟩
      have r1 : ∀ t : Int, t = z → t.tdiv 10 = zq := fun t ht => by rw [ht, hz, hzq, Int.neg_tdiv, ← hq]; congr 1
      have r2 : ∀ t : Int, t = z → t.tmod 10 = zd := fun t ht => by rw [ht, hz, hzd, Int.neg_tmod, ← hd]; congr 1
      have r3 : ∀ t : Int, t = zd → 48 - t = (x1 : Int) := fun t ht => by rw [ht, hzd]; omega
      have r4 : ∀ t : Int, t = zd → wrap64 t = zd := fun t ht => by rw [ht]; unfold wrap64; omega
      have r5 : ∀ t : Int, t = zq → wrap64 t = zq := fun t ht => by rw [ht]; unfold wrap64; omega
      have r6 := wrap_rule x1 (by omega)
      have hx8 : x1 < 256 := by omega
      have ho := fun W t => one_text W x1 hx8 t
      have hl1 : ¬ 9223372036854775807 < 1 + S.size := by omega
      have HQL : Hid (q1 < m) := by show q1 < m; omega
      have HZQ : Hid (zq = -(q1 : Int)) := hzq
      have HN : Hid (if q1 = 0 then Lib.decDigits M = ((⟨#[UInt8.ofNat x1]⟩ : ByteArray) ++ S).data.toList else Lib.decDigits M = Lib.decDigits q1 ++ ((⟨#[UInt8.ofNat x1]⟩ : ByteArray) ++ S).data.toList) := by
        show if q1 = 0 then _ else _
        have h1 := HP.out; rw [if_neg h0] at h1
        rw [cat_list, h1]
        split
        · have hdm : Lib.decDigits m = [UInt8.ofNat x1] := by rw [Lib.decDigits, dif_pos (by omega), show 48 + m = x1 by omega]
          rw [hdm]; rfl
        · have hdm : Lib.decDigits m = Lib.decDigits q1 ++ [UInt8.ofNat x1] := by rw [Lib.decDigits, dif_neg (by omega), hq, hd, hx]
          rw [hdm, List.append_assoc]; rfl
      have HB2 : Hid (∀ o, Below w.heap.size w (wr.alloc o)) := fun o => HB.out.alloc HB.out.size o
      have HM2 : Hid (q1 ≤ 9223372036854775808) := by show q1 ≤ _; omega
      clear hq hd hx hzq hzd hz hm h0 hd10
      go_wp2_with fail
      refine ⟨⟨zq, q1, _, by rw [r5 _ rfl], HZQ.out, rfl, HM2.out, HN.out, HB2.out _⟩, ?_⟩
      have h1 := HZM.out
      have h2 := HZQ.out
      have h3 := HQL.out
      show (-(wrap64 zq)).toNat < (-z).toNat
      rw [r5 _ rfl]
      omega
/-- The digits of a number, by both. -/
theorem both_dec (n : Int) (h0 : -9223372036854775808 ≤ n) (h1 : n ≤ 9223372036854775807) : ∃ D : ByteArray,
    (∀ w : World, Lib.TabIs Tryd.prog w "internal/strconv.uint64pow10" .u64 Lib.pow10Tab → Calls Tryd.prog 17 #[.int .i64 n] w fun e w' => e = .returned (.string D) ∧ Below w.heap.size w w') ∧
    (∀ w : World, Calls Tryd.prog 18 #[.int .i64 n] w fun e w' => e = .returned (.string D) ∧ Below w.heap.size w w') := by
  refine ⟨⟨(Lib.itoa n).toArray⟩, fun w ht => dec_all n h0 h1 w ht, fun w => ?_⟩
  by_cases hn : n < 0
  · obtain ⟨M, rfl⟩ : ∃ M : Nat, n = -(M : Int) := ⟨(-n).toNat, by omega⟩
    rw [Lib.itoa_neg M (by omega)]
    exact refDec_neg M (by omega) (by omega) w
  · obtain ⟨M, rfl⟩ : ∃ M : Nat, n = M := ⟨n.toNat, by omega⟩
    rw [itoa_nat]
    exact refDec_nat M (by omega) w
end Go.Proofs.YtomnogbahjcnnaaDoor
