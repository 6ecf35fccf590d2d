/- Persons there and back, plainly: what is printed is read as it was, by both readings. -/
import Derived.Test.YtindmggmblmmcaaDoorCoBack
import Derived.Test.YtindmggmblmmcaaDoorCutMath
namespace Go.Proofs.YtindmggmblmmcaaDoor
open Go.RowKit Plain
set_option linter.unusedVariables false
theorem cut2_at (A B : List UInt8) (c d : UInt8) (hA : d ∉ A) (hcd : c ≠ d) : Lib.cut (A ++ [c, d] ++ B) [c, d] = (A, B, true) := by
  have hi : Lib.index (A ++ [c, d] ++ B) [c, d] = (A.length : Int) := by
    refine Lib.index_first (by simp) ?_ ?_
    · unfold Lib.occAt
      rw [List.append_assoc, List.drop_left]
      simp
    · intro j hj
      unfold Lib.occAt
      rw [Bool.eq_false_iff]
      intro h
      obtain ⟨t, ht⟩ := List.isPrefixOf_iff_prefix.1 h
      have h3 := congrArg (·[1]?) ht
      simp only [List.cons_append, List.nil_append, List.getElem?_cons_succ, List.getElem?_cons_zero, List.getElem?_drop, List.append_assoc] at h3
      by_cases hl : j + 1 < A.length
      · rw [List.getElem?_append_left hl] at h3
        exact hA (List.mem_of_getElem? h3.symm)
      · rw [show j + 1 = A.length by omega, List.getElem?_append_right (Nat.le_refl _), Nat.sub_self] at h3
        simp only [List.getElem?_cons_zero, Option.some.injEq] at h3
        exact hcd h3.symm
  unfold Lib.cut
  rw [hi, if_pos (by omega), Int.toNat_natCast, List.append_assoc, List.take_left, ← List.drop_drop, List.drop_left]
  rfl
theorem not_any {cs l : List UInt8} (h : noAny cs l = true) {c : UInt8} (hc : c ∈ cs) : c ∉ l := fun hm => by
  unfold noAny at h
  rw [Bool.not_eq_true', List.any_eq_false] at h
  exact h c hm (by simpa using hc)
theorem whoB_parts {x : WX} (h : whoB x = true) : noAny badW x.n.data.toList = true ∧ noAny badW x.m.data.toList = true ∧ 0 ≤ x.t ∧ x.t ≤ 4611686018427387903 ∧ zoneB x.z.data.toList = true := by
  unfold whoB at h
  simp only [Bool.and_eq_true, decide_eq_true_eq] at h
  obtain ⟨⟨⟨h1, h2⟩, h3⟩, h4⟩ := h
  unfold noAny at h1 ⊢
  rw [List.any_append, Bool.not_or, Bool.and_eq_true] at h1
  exact ⟨h1.1, h1.2, h2, h3, h4⟩
theorem itoa_digit {t : Int} (h : 0 ≤ t) : ∀ c ∈ Lib.itoa t, 48 ≤ c.toNat ∧ c.toNat ≤ 57 := by
  obtain ⟨n, rfl⟩ : ∃ n : Nat, t = n := ⟨t.toNat, by omega⟩
  rw [itoa_nat]
  exact dec_digit n n (Nat.le_refl _)
theorem decF_itoa {t : Int} (h : 0 ≤ t) (h1 : t ≤ 4611686018427387903) : decF (Lib.itoa t) = (t.toNat, 0) := by
  obtain ⟨n, rfl⟩ : ∃ n : Nat, t = n := ⟨t.toNat, by omega⟩
  rw [itoa_nat, decF_dec n (by omega)]
  simp
theorem person_yes {x : WX} (h : whoB x = true) : personR (whoT x) = some x := by
  obtain ⟨hn, hm, h0, h1, hz⟩ := whoB_parts h
  have e1 : Lib.cut (whoT x) [32, 60] = (x.n.data.toList, x.m.data.toList ++ [62, 32] ++ (Lib.itoa x.t ++ 32 :: x.z.data.toList), true) := by
    rw [show whoT x = x.n.data.toList ++ [32, 60] ++ (x.m.data.toList ++ [62, 32] ++ (Lib.itoa x.t ++ 32 :: x.z.data.toList)) by unfold whoT; simp]
    exact cut2_at _ _ 32 60 (not_any hn (by decide)) (by decide)
  have e2 : Lib.cut (x.m.data.toList ++ [62, 32] ++ (Lib.itoa x.t ++ 32 :: x.z.data.toList)) [62, 32] = (x.m.data.toList, Lib.itoa x.t ++ 32 :: x.z.data.toList, true) := by
    have hi : Lib.index (x.m.data.toList ++ [62, 32] ++ (Lib.itoa x.t ++ 32 :: x.z.data.toList)) [62, 32] = (x.m.data.toList.length : Int) := by
      refine Lib.index_first (by simp) ?_ ?_
      · unfold Lib.occAt
        rw [List.append_assoc, List.drop_left]
        simp
      · intro j hj
        unfold Lib.occAt
        rw [Bool.eq_false_iff]
        intro h
        obtain ⟨t, ht⟩ := List.isPrefixOf_iff_prefix.1 h
        have h3 := congrArg (·[0]?) ht
        simp only [List.cons_append, List.nil_append, List.getElem?_cons_zero, List.getElem?_drop, List.append_assoc, Nat.add_zero] at h3
        rw [List.getElem?_append_left hj] at h3
        exact not_any hm (c := 62) (by decide) (List.mem_of_getElem? h3.symm)
    unfold Lib.cut
    rw [hi, if_pos (by omega), Int.toNat_natCast, List.append_assoc, List.take_left, ← List.drop_drop, List.drop_left]
    rfl
  have e3 : Lib.cut (Lib.itoa x.t ++ 32 :: x.z.data.toList) [32] = (Lib.itoa x.t, x.z.data.toList, true) := cut_at _ _ 32 (fun hc => by have := itoa_digit h0 32 hc; revert this; decide)
  unfold personR
  simp only [e1, e2, e3, decF_itoa h0 h1, and_self, if_true, txt_of]
  rw [Int.toNat_of_nonneg h0]
theorem personE_yes {x : WX} (h : whoB x = true) : personE (whoT x) = (x, 0) := by
  unfold personE
  rw [person_yes h]
  exact if_pos h
end Go.Proofs.YtindmggmblmmcaaDoor
