/- The document's value, back and number: the walks. -/
import Derived.Test.YthokcdjmhhlcdaaGreatDoorZNum
namespace Go.Proofs.YthokcdjmhhlcdaaGreatDoor
open Go.RowKit Plain
set_option linter.unusedVariables false
set_option linter.unusedSimpArgs false
theorem nums_cat (a b : List UInt8) : numsOf (txt (a ++ b)) = numsOf (txt a) ++ numsOf (txt b) := by
  unfold numsOf
  rw [txt_list, txt_list, txt_list, List.map_append]
theorem nums_good (l : List UInt8) : ∀ j : Nat, 0 ≤ (numsOf (txt l))[j]?.getD 0 ∧ (numsOf (txt l))[j]?.getD 0 ≤ 255 := fun j => by
  unfold numsOf
  rw [List.getElem?_map]
  cases h : (txt l).data.toList[j]? with
  | none => simp
  | some b => have := b.toNat_lt; simp; omega
set_option maxRecDepth 100000 in
set_option maxHeartbeats 16000000 in
theorem rvalue_any (l : List UInt8) (w : World) (hl : l.length ≤ 1000000) :
    Calls Tryz.prog 23 #[.string (txt l)] w fun e w' => e = .returned (.string (txt (valueL l))) ∧ Below w.heap.size w w' := by
  obtain ⟨n, hn⟩ : ∃ n, (txt l).size = n := ⟨_, rfl⟩
  have HN := Lib.hid hn
  have HNL : Hid (l.length = n) := by rw [← hn, txt_size]; rfl
  have HNB : Hid (n ≤ 1000000) := by rw [← HNL.out]; exact hl
  have hlen : (txt l).size = n := hn
  clear hl hn
  go_enter Tryz.func23, Tryz.ntmps23
  go_wp2_with fail
  go_loopw [3, 4] (fun b i wr => ∃ (m : Nat) (a : Option Addr) (cp vn : Nat), m ≤ n ∧ (valueL (l.take m)).length = vn ∧ i = .int .i64 (m : Int) ∧ b = .slice a vn cp ∧ Mid wr w.heap.size (.slice a vn cp) vn (numsOf (txt (valueL (l.take m)))) ∧ Below w.heap.size w wr) (fun _ i _ => n - (intOf i).toNat)
  case atStart => exact ⟨0, none, 0, 0, Nat.zero_le _, rfl, rfl, rfl, Mid.nil _ _, Below.refl _ _⟩
  case round =>
    obtain ⟨m, a, cp, vn, hm, hvn, rfl, rfl, hmid, hb⟩ := hrel
    have HM := Lib.hid hmid
    have HBW := Lib.hid hb
    have HVN := Lib.hid hvn
    have WM := Lib.hid (next_int m (by have := HNB.out; omega))
    clear hmid hb hvn
    by_cases hms : m < n
    · have hmi : (m : Int) < (n : Int) := by omega
      have HMS := Lib.hid hms
      obtain ⟨q, hq⟩ : ∃ b, l[m]? = some b := ⟨_, List.getElem?_eq_getElem (by rw [HNL.out]; exact hms)⟩
      have hix := fun W => index_text (txt l) m (by rw [HN.out]; exact hms) (m : Int) rfl W
      rw [at8_txt, hq, Option.getD_some] at hix
      have HTV := Lib.hid (valueL_snoc hq)
      obtain ⟨v2, hv2⟩ : ∃ v, (valueL (l.take (m + 1))).length = v := ⟨_, rfl⟩
      have HV2N := Lib.hid hv2
      have HBD : Hid (v2 ≤ 70368744177664) := by
        show _ ≤ _
        have h1 := valueL_len (l.take (m + 1))
        rw [List.length_take, HNL.out, hv2] at h1
        have := HNB.out
        omega
      have HAL : Hid (Below w.heap.size wr (wr.alloc (.cells #[] 5))) := (Below.refl _ _).alloc HBW.out.size _
      clear hq hv2 hms hm
      by_cases hq92 : q = 92
      · subst hq92
        have HZS : Hid (numsOf (txt (valueL (l.take m))) ++ [92, 92] = numsOf (txt (valueL (l.take (m + 1))))) := by show _ = _; rw [HTV.out, nums_cat]; rfl
        have HV2 : Hid (vn + 2 = v2) := by show _ = _; rw [← HV2N.out, ← HVN.out, HTV.out, List.length_append]; rfl
        have HLB : Hid (∀ x ∈ ([92, 92] : List Int), 0 ≤ x ∧ x ≤ 255) := by show ∀ x ∈ _, _; simp
        go_wp2_with (refine wpList_append_to rfl _ _ 33 rfl w.heap.size _ vn (numsOf (txt (valueL (l.take m)))) rfl (HM.out.below ((Below.refl _ _).alloc (Nat.le_refl _) _)) _ 2 [92, 92] rfl (src_bytes (Bytes.lit wr wr.heap.size rfl [92, 92] 5 (0, 0) 2 rfl (by omega) (by first | (simp; done) | simpa using HLB.out))) v2 _ HV2.out HZS.out HBD.out (by have := HBW.out.size; simp; omega) ?_; rintro a' c' w' hm hb; have HM2 := Lib.hid hm; have HB2 := Lib.hid (HBW.out.trans (((Below.refl _ _).alloc HBW.out.size _).trans hb)); clear hm hb)
        exact ⟨⟨m + 1, a', c', v2, HMS.out, HV2N.out, by first | rw [WM.out _ rfl] | rfl, by first | rfl | trivial, HM2.out, HB2.out⟩, by have := HMS.out; (first | rw [WM.out _ rfl] | skip); simp [intOf]; omega⟩
      by_cases hq10 : q = 10
      · subst hq10
        have HZS : Hid (numsOf (txt (valueL (l.take m))) ++ [92, 110] = numsOf (txt (valueL (l.take (m + 1))))) := by show _ = _; rw [HTV.out, nums_cat]; rfl
        have HV2 : Hid (vn + 2 = v2) := by show _ = _; rw [← HV2N.out, ← HVN.out, HTV.out, List.length_append]; rfl
        have HLB : Hid (∀ x ∈ ([92, 110] : List Int), 0 ≤ x ∧ x ≤ 255) := by show ∀ x ∈ _, _; simp
        go_wp2_with (refine wpList_append_to rfl _ _ 33 rfl w.heap.size _ vn (numsOf (txt (valueL (l.take m)))) rfl (HM.out.below ((Below.refl _ _).alloc (Nat.le_refl _) _)) _ 2 [92, 110] rfl (src_bytes (Bytes.lit wr wr.heap.size rfl [92, 110] 5 (0, 0) 2 rfl (by omega) (by first | (simp; done) | simpa using HLB.out))) v2 _ HV2.out HZS.out HBD.out (by have := HBW.out.size; simp; omega) ?_; rintro a' c' w' hm hb; have HM2 := Lib.hid hm; have HB2 := Lib.hid (HBW.out.trans (((Below.refl _ _).alloc HBW.out.size _).trans hb)); clear hm hb)
        exact ⟨⟨m + 1, a', c', v2, HMS.out, HV2N.out, by first | rw [WM.out _ rfl] | rfl, by first | rfl | trivial, HM2.out, HB2.out⟩, by have := HMS.out; (first | rw [WM.out _ rfl] | skip); simp [intOf]; omega⟩
      by_cases hq13 : q = 13
      · subst hq13
        have HZS : Hid (numsOf (txt (valueL (l.take m))) ++ [92, 114] = numsOf (txt (valueL (l.take (m + 1))))) := by show _ = _; rw [HTV.out, nums_cat]; rfl
        have HV2 : Hid (vn + 2 = v2) := by show _ = _; rw [← HV2N.out, ← HVN.out, HTV.out, List.length_append]; rfl
        have HLB : Hid (∀ x ∈ ([92, 114] : List Int), 0 ≤ x ∧ x ≤ 255) := by show ∀ x ∈ _, _; simp
        go_wp2_with (refine wpList_append_to rfl _ _ 33 rfl w.heap.size _ vn (numsOf (txt (valueL (l.take m)))) rfl (HM.out.below ((Below.refl _ _).alloc (Nat.le_refl _) _)) _ 2 [92, 114] rfl (src_bytes (Bytes.lit wr wr.heap.size rfl [92, 114] 5 (0, 0) 2 rfl (by omega) (by first | (simp; done) | simpa using HLB.out))) v2 _ HV2.out HZS.out HBD.out (by have := HBW.out.size; simp; omega) ?_; rintro a' c' w' hm hb; have HM2 := Lib.hid hm; have HB2 := Lib.hid (HBW.out.trans (((Below.refl _ _).alloc HBW.out.size _).trans hb)); clear hm hb)
        exact ⟨⟨m + 1, a', c', v2, HMS.out, HV2N.out, by first | rw [WM.out _ rfl] | rfl, by first | rfl | trivial, HM2.out, HB2.out⟩, by have := HMS.out; (first | rw [WM.out _ rfl] | skip); simp [intOf]; omega⟩
      by_cases hq0 : q = 0
      · subst hq0
        have HZS : Hid (numsOf (txt (valueL (l.take m))) ++ [92, 48] = numsOf (txt (valueL (l.take (m + 1))))) := by show _ = _; rw [HTV.out, nums_cat]; rfl
        have HV2 : Hid (vn + 2 = v2) := by show _ = _; rw [← HV2N.out, ← HVN.out, HTV.out, List.length_append]; rfl
        have HLB : Hid (∀ x ∈ ([92, 48] : List Int), 0 ≤ x ∧ x ≤ 255) := by show ∀ x ∈ _, _; simp
        go_wp2_with (refine wpList_append_to rfl _ _ 33 rfl w.heap.size _ vn (numsOf (txt (valueL (l.take m)))) rfl (HM.out.below ((Below.refl _ _).alloc (Nat.le_refl _) _)) _ 2 [92, 48] rfl (src_bytes (Bytes.lit wr wr.heap.size rfl [92, 48] 5 (0, 0) 2 rfl (by omega) (by first | (simp; done) | simpa using HLB.out))) v2 _ HV2.out HZS.out HBD.out (by have := HBW.out.size; simp; omega) ?_; rintro a' c' w' hm hb; have HM2 := Lib.hid hm; have HB2 := Lib.hid (HBW.out.trans (((Below.refl _ _).alloc HBW.out.size _).trans hb)); clear hm hb)
        exact ⟨⟨m + 1, a', c', v2, HMS.out, HV2N.out, by first | rw [WM.out _ rfl] | rfl, by first | rfl | trivial, HM2.out, HB2.out⟩, by have := HMS.out; (first | rw [WM.out _ rfl] | skip); simp [intOf]; omega⟩
      have HZS : Hid (numsOf (txt (valueL (l.take m))) ++ [(q.toNat : Int)] = numsOf (txt (valueL (l.take (m + 1))))) := by
        show _ = _
        rw [HTV.out, nums_cat, show esc q = [q] by unfold esc; rw [if_neg hq92, if_neg hq10, if_neg hq13, if_neg hq0]]
        rfl
      have HV2 : Hid (vn + 1 = v2) := by
        show _ = _
        rw [← HV2N.out, ← HVN.out, HTV.out, List.length_append, show esc q = [q] by unfold esc; rw [if_neg hq92, if_neg hq10, if_neg hq13, if_neg hq0]]
        rfl
      have hi92 : ¬ ((q.toNat : Nat) : Int) = 92 := fun h => hq92 (UInt8.toNat_inj.1 (by show q.toNat = 92; omega))
      have hb92 : (((q.toNat : Nat) : Int) == 92) = false := beq_eq_false_iff_ne.2 hi92
      have hi10 : ¬ ((q.toNat : Nat) : Int) = 10 := fun h => hq10 (UInt8.toNat_inj.1 (by show q.toNat = 10; omega))
      have hb10 : (((q.toNat : Nat) : Int) == 10) = false := beq_eq_false_iff_ne.2 hi10
      have hi13 : ¬ ((q.toNat : Nat) : Int) = 13 := fun h => hq13 (UInt8.toNat_inj.1 (by show q.toNat = 13; omega))
      have hb13 : (((q.toNat : Nat) : Int) == 13) = false := beq_eq_false_iff_ne.2 hi13
      have hi0 : ¬ ((q.toNat : Nat) : Int) = 0 := fun h => hq0 (UInt8.toNat_inj.1 (by show q.toNat = 0; omega))
      have hb0 : (((q.toNat : Nat) : Int) == 0) = false := beq_eq_false_iff_ne.2 hi0
      have HLB : Hid (0 ≤ (q.toNat : Int) ∧ (q.toNat : Int) ≤ 255) := by have := q.toNat_lt; show _ ∧ _; omega
      clear hq92 hq10 hq13 hq0
      generalize ((q.toNat : Nat) : Int) = qi at *
      go_wp2_with (refine wpList_append_to rfl _ _ 33 rfl w.heap.size _ vn (numsOf (txt (valueL (l.take m)))) rfl (HM.out.below ((Below.refl _ _).alloc (Nat.le_refl _) _)) _ 1 [qi] rfl (src_bytes (Bytes.lit wr wr.heap.size rfl [qi] 5 (0, 0) 1 rfl (by omega) (by first | (simp; done) | simpa using HLB.out))) v2 _ HV2.out HZS.out HBD.out (by have := HBW.out.size; simp; omega) ?_; rintro a' c' w' hm hb; have HM2 := Lib.hid hm; have HB2 := Lib.hid (HBW.out.trans (((Below.refl _ _).alloc HBW.out.size _).trans hb)); clear hm hb)
      exact ⟨⟨m + 1, a', c', v2, HMS.out, HV2N.out, by first | rw [WM.out _ rfl] | rfl, by first | rfl | trivial, HM2.out, HB2.out⟩, by have := HMS.out; (first | rw [WM.out _ rfl] | skip); simp [intOf]; omega⟩
    · have hmi : ¬ (m : Int) < (n : Int) := by omega
      have hmn : m = n := by omega
      have HE : Hid (l.take m = l) := by show _ = _; rw [List.take_of_length_le (by rw [HNL.out]; omega)]
      rw [HE.out] at HM
      have ht := text_run wr a vn cp _ (HM.out.bytes (nums_good _))
      rw [str_nums] at ht
      clear hmn hms hm
      go_wp2_with fail
      go_ret
      exact ⟨rfl, HBW.out⟩
set_option maxRecDepth 100000 in
set_option maxHeartbeats 16000000 in
theorem rback_any (l : List UInt8) (w : World) (hl : l.length ≤ 1000000) :
    Calls Tryz.prog 31 #[.string (txt l)] w fun e w' => e = .returned (.string (txt (unval l))) ∧ Below w.heap.size w w' := by
  obtain ⟨n, hn⟩ : ∃ n, (txt l).size = n := ⟨_, rfl⟩
  have HN := Lib.hid hn
  have HNL : Hid (l.length = n) := by rw [← hn, txt_size]; rfl
  have HNB : Hid (n ≤ 1000000) := by rw [← HNL.out]; exact hl
  have hlen : (txt l).size = n := hn
  clear hl hn
  go_enter Tryz.func31, Tryz.ntmps31
  go_wp2_with fail
  go_loopw [3, 4] (fun b i wr => ∃ (k : Nat) (V : List UInt8) (a : Option Addr) (cp vn : Nat), k ≤ n ∧ V.length = vn ∧ vn ≤ k ∧ i = .int .i64 (k : Int) ∧ b = .slice a vn cp ∧ unval l = V ++ unval (l.drop k) ∧ Mid wr w.heap.size (.slice a vn cp) vn (numsOf (txt V)) ∧ Below w.heap.size w wr) (fun _ i _ => n - (intOf i).toNat)
  case atStart => exact ⟨0, [], none, 0, 0, Nat.zero_le _, rfl, Nat.zero_le _, rfl, rfl, rfl, Mid.nil _ _, Below.refl _ _⟩
  case round =>
    obtain ⟨k, V, a, cp, vn, hk, hvn, hvk, rfl, rfl, hinv, hmid, hb⟩ := hrel
    have HM := Lib.hid hmid
    have HBW := Lib.hid hb
    have HVN := Lib.hid hvn
    have HVB := Lib.hid hvk
    have HINV := Lib.hid hinv
    have W1 := Lib.hid (next_int k (by have := HNB.out; omega))
    clear hmid hb hvn hvk hinv
    by_cases hkn : k < n
    · have hki : (k : Int) < (n : Int) := by omega
      have HKN := Lib.hid hkn
      obtain ⟨q, hq⟩ : ∃ b, l[k]? = some b := ⟨_, List.getElem?_eq_getElem (by rw [HNL.out]; exact hkn)⟩
      have hix := fun W => index_text (txt l) k (by rw [HN.out]; exact hkn) (k : Int) rfl W
      rw [at8_txt, hq, Option.getD_some] at hix
      have HD1 : Hid (l.drop k = q :: l.drop (k + 1)) := by
        obtain ⟨h, hg⟩ := List.getElem?_eq_some_iff.1 hq
        show _ = _
        rw [← hg, ← List.drop_eq_getElem_cons h]
      have HAL : Hid (Below w.heap.size wr (wr.alloc (.cells #[] 5))) := (Below.refl _ _).alloc HBW.out.size _
      obtain ⟨v2, hv2⟩ : ∃ n, vn + 1 = n := ⟨_, rfl⟩
      have HV2 := Lib.hid hv2
      have HBD : Hid (v2 ≤ 70368744177664) := by show _ ≤ _; have := HVB.out; have := HNB.out; omega
      clear hv2
      clear hq
      have hw1 : wrap64 ((k : Int) + 1) = ((k + 1 : Nat) : Int) := W1.out _ rfl
      by_cases h92 : q = 92
      · subst h92
        have hqb : (((92 : UInt8).toNat : Int) == 92) = true := rfl
        by_cases hk1 : k + 1 < n
        · have hk1i : ((k + 1 : Nat) : Int) < (n : Int) := by omega
          obtain ⟨k1, hk1e⟩ : ∃ x, k + 1 = x := ⟨_, rfl⟩
          rw [hk1e] at hw1 hk1i
          have HK1 := Lib.hid hk1e
          have WM2 : Hid (∀ x : Int, x = (k1 : Int) + 1 → wrap64 x = ((k + 2 : Nat) : Int)) := fun x hx => by
            have := next_int k1 (by have := HNB.out; omega) x hx
            rw [this]; omega
          have HKS : Hid (k + 2 ≤ n) := by show _ ≤ _; omega
          obtain ⟨d, hd⟩ : ∃ b, l[k + 1]? = some b := ⟨_, List.getElem?_eq_getElem (by rw [HNL.out]; exact hk1)⟩
          have hix2 := fun W => index_text (txt l) (k + 1) (by rw [HN.out]; exact hk1) (k1 : Int) (by omega) W
          rw [at8_txt, hd, Option.getD_some] at hix2
          have HD2 : Hid (l.drop k = 92 :: d :: l.drop (k + 2)) := by
            obtain ⟨h, hg⟩ := List.getElem?_eq_some_iff.1 hd
            show _ = _
            rw [HD1.out, ← hg, ← List.drop_eq_getElem_cons h]
          clear hd hk1 hk1e hkn hk HD1
          by_cases hd110 : d = 110
          · subst hd110
            have HCS : Hid (unval (l.drop k) = 10 :: unval (l.drop (k + 2))) := by show _ = _; rw [HD2.out, unval, if_pos rfl]; rfl
            have HST : Hid (unval l = (V ++ [10]) ++ unval (l.drop (k + 2))) := by show _ = _; rw [HINV.out, HCS.out, List.append_assoc]; rfl
            have HZS : Hid (numsOf (txt V) ++ [10] = numsOf (txt (V ++ [10]))) := by show _ = _; rw [nums_cat]; rfl
            have HVN2 : Hid ((V ++ [10]).length = v2 ∧ v2 ≤ k + 2) := by show _ ∧ _; rw [List.length_append, HVN.out]; have := HV2.out; have := HVB.out; exact ⟨HV2.out, by omega⟩
            have HLB : Hid (∀ x ∈ ([10] : List Int), 0 ≤ x ∧ x ≤ 255) := by show ∀ x ∈ _, _; simp
            go_wp2_with (refine wpList_append_to rfl _ _ 33 rfl w.heap.size _ vn (numsOf (txt (V))) rfl (HM.out.below ((Below.refl _ _).alloc (Nat.le_refl _) _)) _ 1 [10] rfl (src_bytes (Bytes.lit wr wr.heap.size rfl [10] 5 (0, 0) 1 rfl (by omega) (by first | (simp; done) | simpa using HLB.out))) v2 _ HV2.out HZS.out HBD.out (by have := HBW.out.size; simp; omega) ?_; rintro a' c' w' hm hb; have HM2 := Lib.hid hm; have HB2 := Lib.hid (HBW.out.trans (((Below.refl _ _).alloc HBW.out.size _).trans hb)); clear hm hb)
            exact ⟨⟨k + 2, V ++ [10], a', c', v2, HKS.out, HVN2.out.1, HVN2.out.2, by first | rw [WM2.out _ rfl] | rfl, by first | rfl | trivial, HST.out, HM2.out, HB2.out⟩, by have := HKS.out; (first | rw [WM2.out _ rfl] | skip); simp [intOf]; omega⟩
          by_cases hd114 : d = 114
          · subst hd114
            have HCS : Hid (unval (l.drop k) = 13 :: unval (l.drop (k + 2))) := by show _ = _; rw [HD2.out, unval, if_pos rfl]; rfl
            have HST : Hid (unval l = (V ++ [13]) ++ unval (l.drop (k + 2))) := by show _ = _; rw [HINV.out, HCS.out, List.append_assoc]; rfl
            have HZS : Hid (numsOf (txt V) ++ [13] = numsOf (txt (V ++ [13]))) := by show _ = _; rw [nums_cat]; rfl
            have HVN2 : Hid ((V ++ [13]).length = v2 ∧ v2 ≤ k + 2) := by show _ ∧ _; rw [List.length_append, HVN.out]; have := HV2.out; have := HVB.out; exact ⟨HV2.out, by omega⟩
            have HLB : Hid (∀ x ∈ ([13] : List Int), 0 ≤ x ∧ x ≤ 255) := by show ∀ x ∈ _, _; simp
            go_wp2_with (refine wpList_append_to rfl _ _ 33 rfl w.heap.size _ vn (numsOf (txt (V))) rfl (HM.out.below ((Below.refl _ _).alloc (Nat.le_refl _) _)) _ 1 [13] rfl (src_bytes (Bytes.lit wr wr.heap.size rfl [13] 5 (0, 0) 1 rfl (by omega) (by first | (simp; done) | simpa using HLB.out))) v2 _ HV2.out HZS.out HBD.out (by have := HBW.out.size; simp; omega) ?_; rintro a' c' w' hm hb; have HM2 := Lib.hid hm; have HB2 := Lib.hid (HBW.out.trans (((Below.refl _ _).alloc HBW.out.size _).trans hb)); clear hm hb)
            exact ⟨⟨k + 2, V ++ [13], a', c', v2, HKS.out, HVN2.out.1, HVN2.out.2, by first | rw [WM2.out _ rfl] | rfl, by first | rfl | trivial, HST.out, HM2.out, HB2.out⟩, by have := HKS.out; (first | rw [WM2.out _ rfl] | skip); simp [intOf]; omega⟩
          by_cases hd48 : d = 48
          · subst hd48
            have HCS : Hid (unval (l.drop k) = 0 :: unval (l.drop (k + 2))) := by show _ = _; rw [HD2.out, unval, if_pos rfl]; rfl
            have HST : Hid (unval l = (V ++ [0]) ++ unval (l.drop (k + 2))) := by show _ = _; rw [HINV.out, HCS.out, List.append_assoc]; rfl
            have HZS : Hid (numsOf (txt V) ++ [0] = numsOf (txt (V ++ [0]))) := by show _ = _; rw [nums_cat]; rfl
            have HVN2 : Hid ((V ++ [0]).length = v2 ∧ v2 ≤ k + 2) := by show _ ∧ _; rw [List.length_append, HVN.out]; have := HV2.out; have := HVB.out; exact ⟨HV2.out, by omega⟩
            have HLB : Hid (∀ x ∈ ([0] : List Int), 0 ≤ x ∧ x ≤ 255) := by show ∀ x ∈ _, _; simp
            go_wp2_with (refine wpList_append_to rfl _ _ 33 rfl w.heap.size _ vn (numsOf (txt (V))) rfl (HM.out.below ((Below.refl _ _).alloc (Nat.le_refl _) _)) _ 1 [0] rfl (src_bytes (Bytes.lit wr wr.heap.size rfl [0] 5 (0, 0) 1 rfl (by omega) (by first | (simp; done) | simpa using HLB.out))) v2 _ HV2.out HZS.out HBD.out (by have := HBW.out.size; simp; omega) ?_; rintro a' c' w' hm hb; have HM2 := Lib.hid hm; have HB2 := Lib.hid (HBW.out.trans (((Below.refl _ _).alloc HBW.out.size _).trans hb)); clear hm hb)
            exact ⟨⟨k + 2, V ++ [0], a', c', v2, HKS.out, HVN2.out.1, HVN2.out.2, by first | rw [WM2.out _ rfl] | rfl, by first | rfl | trivial, HST.out, HM2.out, HB2.out⟩, by have := HKS.out; (first | rw [WM2.out _ rfl] | skip); simp [intOf]; omega⟩
          have HCS : Hid (unval (l.drop k) = d :: unval (l.drop (k + 2))) := by
            show _ = _
            rw [HD2.out, unval, if_pos rfl]
            unfold meantB
            rw [if_neg hd110, if_neg hd114, if_neg hd48]
          have HST : Hid (unval l = (V ++ [d]) ++ unval (l.drop (k + 2))) := by show _ = _; rw [HINV.out, HCS.out, List.append_assoc]; rfl
          have HZS : Hid (numsOf (txt V) ++ [(d.toNat : Int)] = numsOf (txt (V ++ [d]))) := by show _ = _; rw [nums_cat]; rfl
          have HVN2 : Hid ((V ++ [d]).length = v2 ∧ v2 ≤ k + 2) := by show _ ∧ _; rw [List.length_append, HVN.out]; have := HV2.out; have := HVB.out; exact ⟨HV2.out, by omega⟩
          have HLB : Hid (0 ≤ (d.toNat : Int) ∧ (d.toNat : Int) ≤ 255) := by have := d.toNat_lt; show _ ∧ _; omega
          have hi110 : ¬ ((d.toNat : Nat) : Int) = 110 := fun h => hd110 (UInt8.toNat_inj.1 (by show d.toNat = 110; omega))
          have hb110 : (((d.toNat : Nat) : Int) == 110) = false := beq_eq_false_iff_ne.2 hi110
          have hi114 : ¬ ((d.toNat : Nat) : Int) = 114 := fun h => hd114 (UInt8.toNat_inj.1 (by show d.toNat = 114; omega))
          have hb114 : (((d.toNat : Nat) : Int) == 114) = false := beq_eq_false_iff_ne.2 hi114
          have hi48 : ¬ ((d.toNat : Nat) : Int) = 48 := fun h => hd48 (UInt8.toNat_inj.1 (by show d.toNat = 48; omega))
          have hb48 : (((d.toNat : Nat) : Int) == 48) = false := beq_eq_false_iff_ne.2 hi48
          clear hd110 hd114 hd48
          generalize ((d.toNat : Nat) : Int) = qi at *
          go_wp2_with (refine wpList_append_to rfl _ _ 33 rfl w.heap.size _ vn (numsOf (txt (V))) rfl (HM.out.below ((Below.refl _ _).alloc (Nat.le_refl _) _)) _ 1 [qi] rfl (src_bytes (Bytes.lit wr wr.heap.size rfl [qi] 5 (0, 0) 1 rfl (by omega) (by first | (simp; done) | simpa using HLB.out))) v2 _ HV2.out HZS.out HBD.out (by have := HBW.out.size; simp; omega) ?_; rintro a' c' w' hm hb; have HM2 := Lib.hid hm; have HB2 := Lib.hid (HBW.out.trans (((Below.refl _ _).alloc HBW.out.size _).trans hb)); clear hm hb)
          exact ⟨⟨k + 2, V ++ [d], a', c', v2, HKS.out, HVN2.out.1, HVN2.out.2, by first | rw [WM2.out _ rfl] | rfl, by first | rfl | trivial, HST.out, HM2.out, HB2.out⟩, by have := HKS.out; (first | rw [WM2.out _ rfl] | skip); simp [intOf]; omega⟩
        · have hk1i : ¬ ((k + 1 : Nat) : Int) < (n : Int) := by omega
          have HCS : Hid (unval (l.drop k) = 92 :: unval (l.drop (k + 1))) := by
            have e : l.drop (k + 1) = [] := List.drop_of_length_le (by rw [HNL.out]; omega)
            show _ = _
            rw [HD1.out, e]; rfl
          have HKS : Hid (k + 1 ≤ n) := HKN.out
          obtain ⟨k1, hk1e⟩ : ∃ x, k + 1 = x := ⟨_, rfl⟩
          rw [hk1e] at hw1 hk1i
          have WM2 : Hid (∀ x : Int, x = (k : Int) + 1 → wrap64 x = ((k + 1 : Nat) : Int)) := W1.out
          clear hk1 hk1e hkn hk HD1
          have HST : Hid (unval l = (V ++ [92]) ++ unval (l.drop (k + 1))) := by show _ = _; rw [HINV.out, HCS.out, List.append_assoc]; rfl
          have HZS : Hid (numsOf (txt V) ++ [92] = numsOf (txt (V ++ [92]))) := by show _ = _; rw [nums_cat]; rfl
          have HVN2 : Hid ((V ++ [92]).length = v2 ∧ v2 ≤ k + 1) := by show _ ∧ _; rw [List.length_append, HVN.out]; have := HV2.out; have := HVB.out; exact ⟨HV2.out, by omega⟩
          have HLB : Hid (∀ x ∈ ([92] : List Int), 0 ≤ x ∧ x ≤ 255) := by show ∀ x ∈ _, _; simp
          go_wp2_with (refine wpList_append_to rfl _ _ 33 rfl w.heap.size _ vn (numsOf (txt (V))) rfl (HM.out.below ((Below.refl _ _).alloc (Nat.le_refl _) _)) _ 1 [92] rfl (src_bytes (Bytes.lit wr wr.heap.size rfl [92] 5 (0, 0) 1 rfl (by omega) (by first | (simp; done) | simpa using HLB.out))) v2 _ HV2.out HZS.out HBD.out (by have := HBW.out.size; simp; omega) ?_; rintro a' c' w' hm hb; have HM2 := Lib.hid hm; have HB2 := Lib.hid (HBW.out.trans (((Below.refl _ _).alloc HBW.out.size _).trans hb)); clear hm hb)
          exact ⟨⟨k + 1, V ++ [92], a', c', v2, HKS.out, HVN2.out.1, HVN2.out.2, by first | rw [WM2.out _ rfl] | rfl, by first | rfl | trivial, HST.out, HM2.out, HB2.out⟩, by have := HKS.out; (first | rw [WM2.out _ rfl] | skip); simp [intOf]; omega⟩
      · have hi92 : ¬ ((q.toNat : Nat) : Int) = 92 := fun h => h92 (UInt8.toNat_inj.1 (by show q.toNat = 92; omega))
        have hb92 : (((q.toNat : Nat) : Int) == 92) = false := beq_eq_false_iff_ne.2 hi92
        have HCS : Hid (unval (l.drop k) = q :: unval (l.drop (k + 1))) := by
          show _ = _
          rw [HD1.out]
          cases hr : l.drop (k + 1) with
          | nil => rfl
          | cons d r => rw [unval, if_neg h92]
        have HKS : Hid (k + 1 ≤ n) := HKN.out
        have WM2 : Hid (∀ x : Int, x = (k : Int) + 1 → wrap64 x = ((k + 1 : Nat) : Int)) := W1.out
        clear hkn hk HD1 hw1 h92
        have HST : Hid (unval l = (V ++ [q]) ++ unval (l.drop (k + 1))) := by show _ = _; rw [HINV.out, HCS.out, List.append_assoc]; rfl
        have HZS : Hid (numsOf (txt V) ++ [(q.toNat : Int)] = numsOf (txt (V ++ [q]))) := by show _ = _; rw [nums_cat]; rfl
        have HVN2 : Hid ((V ++ [q]).length = v2 ∧ v2 ≤ k + 1) := by show _ ∧ _; rw [List.length_append, HVN.out]; have := HV2.out; have := HVB.out; exact ⟨HV2.out, by omega⟩
        have HLB : Hid (0 ≤ (q.toNat : Int) ∧ (q.toNat : Int) ≤ 255) := by have := q.toNat_lt; show _ ∧ _; omega
        generalize ((q.toNat : Nat) : Int) = qi at *
        go_wp2_with (refine wpList_append_to rfl _ _ 33 rfl w.heap.size _ vn (numsOf (txt (V))) rfl (HM.out.below ((Below.refl _ _).alloc (Nat.le_refl _) _)) _ 1 [qi] rfl (src_bytes (Bytes.lit wr wr.heap.size rfl [qi] 5 (0, 0) 1 rfl (by omega) (by first | (simp; done) | simpa using HLB.out))) v2 _ HV2.out HZS.out HBD.out (by have := HBW.out.size; simp; omega) ?_; rintro a' c' w' hm hb; have HM2 := Lib.hid hm; have HB2 := Lib.hid (HBW.out.trans (((Below.refl _ _).alloc HBW.out.size _).trans hb)); clear hm hb)
        exact ⟨⟨k + 1, V ++ [q], a', c', v2, HKS.out, HVN2.out.1, HVN2.out.2, by first | rw [WM2.out _ rfl] | rfl, by first | rfl | trivial, HST.out, HM2.out, HB2.out⟩, by have := HKS.out; (first | rw [WM2.out _ rfl] | skip); simp [intOf]; omega⟩
    · have hki : ¬ (k : Int) < (n : Int) := by omega
      have HE : Hid (V = unval l) := by
        have h1 := HINV.out
        rw [List.drop_of_length_le (by rw [HNL.out]; omega)] at h1
        show _ = _
        rw [h1]
        show V = V ++ []
        rw [List.append_nil]
      rw [HE.out] at HM
      have ht := text_run wr a vn cp _ (HM.out.bytes (nums_good _))
      rw [str_nums] at ht
      clear hkn hk
      go_wp2_with fail
      go_ret
      exact ⟨rfl, HBW.out⟩
set_option maxRecDepth 100000 in
set_option maxHeartbeats 4000000 in
theorem rnumber_any (l : List UInt8) (w : World) (hl : l.length ≤ 100000) :
    Calls Tryz.prog 30 #[.string (txt l)] w fun e w' => e = .returned (.int .i64 (numP l)) ∧ Below w.heap.size w w' := by
  by_cases h45 : ∃ r, l = 45 :: r
  · obtain ⟨r, rfl⟩ := h45
    obtain ⟨n, hn⟩ : ∃ n, (txt (45 :: r)).size = n := ⟨_, rfl⟩
    have hn1 : n = r.length + 1 := by rw [← hn, txt_size]; rfl
    have hlen : (txt (45 :: r)).size = n := hn
    have hpos : (0 : Int) < (n : Int) := by omega
    have hpos2 : 0 < n := by omega
    have hix := fun W => index_text (txt (45 :: r)) 0 (by omega) 0 rfl W
    have h8 : at8 (txt (45 :: r)) 0 = 45 := by rw [at8_txt]; rfl
    rw [h8] at hix
    have hsl := fun W => slice_tail (txt (45 :: r)) 1 (by omega) 1 rfl W
    have h1 : (45 :: r).drop 1 = r := rfl
    rw [tail_txt, h1] at hsl
    have HRL : Hid (r.length ≤ 100000) := by show _ ≤ _; rw [List.length_cons] at hl; omega
    obtain ⟨v, hv⟩ : ∃ v, (decF r).1 = v := ⟨_, rfl⟩
    have hvb := decF_le r
    rw [hv] at hvb
    have HNEG : Hid (Ending.returned (.int .i64 (wrap64 (-(v : Int)))) = .returned (.int .i64 (-(v : Int)))) := by show _ = _; rw [IntWalk.wrap64_in _ (by omega)]
    have HV := Lib.hid hv
    have HP : Hid (numP (45 :: r) = -(v : Int)) := by show numP (45 :: r) = _; rw [show numP (45 :: r) = -((decF r).1 : Int) from rfl, HV.out]
    clear hv hvb hl hn1 hn h8 h1
    go_enter Tryz.func30, Tryz.ntmps30
    go_wp2_with fail
    refine (rfrom_any r HRL.out w).mono ?_
    rintro e w2 ⟨⟨b, rfl⟩, hb⟩
    rw [HV.out]
    have HB := Lib.hid hb
    clear hb
    go_wp2_with fail
    go_ret
    rw [HP.out]
    exact ⟨HNEG.out, HB.out⟩
  · have HP : Hid (numP l = ((decF l).1 : Int)) := by
      show _ = _
      unfold numP
      split
      · exact absurd ⟨_, rfl⟩ h45
      · rfl
    have HLB := Lib.hid hl
    obtain ⟨n, hn⟩ : ∃ n, (txt l).size = n := ⟨_, rfl⟩
    have hn1 : n = l.length := by rw [← hn, txt_size]
    have hlen : (txt l).size = n := hn
    by_cases h0 : n = 0
    · have hpos : ¬ (0 : Int) < (n : Int) := by omega
      have hpos2 : ¬ 0 < n := by omega
      clear h0 hn1 hn h45
      go_enter Tryz.func30, Tryz.ntmps30
      go_wp2_with fail
      refine (rfrom_any l HLB.out w).mono ?_
      rintro e w2 ⟨⟨b, rfl⟩, hb⟩
      have HB := Lib.hid hb
      clear hb
      go_wp2_with fail
      go_ret
      rw [HP.out]
      exact ⟨rfl, HB.out⟩
    · have hpos : (0 : Int) < (n : Int) := by omega
      have hpos2 : 0 < n := by omega
      have hix := fun W => index_text (txt l) 0 (by omega) 0 rfl W
      rw [at8_txt] at hix
      obtain ⟨q, r, hqr⟩ : ∃ q r, l = q :: r := by
        cases hl' : l with
        | nil => rw [hl'] at hn1; simp at hn1; omega
        | cons q r => exact ⟨q, r, rfl⟩
      rw [show (l[0]?.getD 0) = q by rw [hqr]; rfl] at hix
      have hq : ¬ q = 45 := fun e => h45 ⟨r, by rw [hqr, e]⟩
      have hi45 : ¬ ((q.toNat : Nat) : Int) = 45 := fun h => hq (UInt8.toNat_inj.1 (by show q.toNat = 45; omega))
      have hb45 : (((q.toNat : Nat) : Int) == 45) = false := beq_eq_false_iff_ne.2 hi45
      clear h0 hn1 hn h45 hqr hq
      go_enter Tryz.func30, Tryz.ntmps30
      go_wp2_with fail
      refine (rfrom_any l HLB.out w).mono ?_
      rintro e w2 ⟨⟨b, rfl⟩, hb⟩
      have HB := Lib.hid hb
      clear hb
      go_wp2_with fail
      go_ret
      rw [HP.out]
      exact ⟨rfl, HB.out⟩
end Go.Proofs.YthokcdjmhhlcdaaGreatDoor
