/- Where a text is cut at a byte. -/
import Derived.Test.YtcbjadecocggjaaDoorRows
import Derived.Lib.IndexMore
namespace Go.Proofs.YtcbjadecocggjaaDoor
set_option linter.unusedVariables false
theorem index_at (A B : List UInt8) (c : UInt8) (hA : c ∉ A) : Lib.index (A ++ c :: B) [c] = (A.length : Int) := by
  refine Lib.index_first (by simp) ?_ ?_
  · unfold Lib.occAt
    rw [List.drop_left]
    simp
  · intro j hj
    unfold Lib.occAt
    rw [Bool.eq_false_iff]
    intro h
    obtain ⟨t, ht⟩ := List.isPrefixOf_iff_prefix.1 h
    have h3 := congrArg (·[0]?) ht
    simp only [List.cons_append, List.nil_append, List.getElem?_cons_zero, List.getElem?_drop, Nat.add_zero] at h3
    rw [List.getElem?_append_left hj] at h3
    exact hA (List.mem_of_getElem? h3.symm)
theorem index_not (l : List UInt8) (c : UInt8) (h : c ∉ l) : Lib.index l [c] = -1 := by
  refine Lib.index_none fun j hj => ?_
  unfold Lib.occAt
  rw [Bool.eq_false_iff]
  intro h2
  obtain ⟨t, ht⟩ := List.isPrefixOf_iff_prefix.1 h2
  exact h (List.mem_of_mem_drop (ht ▸ (by simp : c ∈ [c] ++ t)))
theorem cut_at (A B : List UInt8) (c : UInt8) (hA : c ∉ A) : Lib.cut (A ++ c :: B) [c] = (A, B, true) := by
  unfold Lib.cut
  rw [index_at A B c hA, if_pos (by omega), Int.toNat_natCast, List.take_left]
  rw [← List.drop_drop, List.drop_left]
  rfl
theorem cut_not (l : List UInt8) (c : UInt8) (h : c ∉ l) : Lib.cut l [c] = (l, [], false) := by
  unfold Lib.cut
  rw [index_not l c h, if_neg (by omega)]
theorem cut_or (c : UInt8) : ∀ l : List UInt8, c ∉ l ∨ ∃ A B, l = A ++ c :: B ∧ c ∉ A
  | [] => .inl (by simp)
  | x :: l => by
    by_cases hx : x = c
    · exact .inr ⟨[], l, by rw [hx]; rfl, by simp⟩
    · rcases cut_or c l with h | ⟨A, B, rfl, h⟩
      · exact .inl (by simp [h, Ne.symm hx])
      · exact .inr ⟨x :: A, B, rfl, by simp [h, Ne.symm hx]⟩
theorem cut_true {l : List UInt8} {c : UInt8} (h : (Lib.cut l [c]).2.2 = true) : l = (Lib.cut l [c]).1 ++ c :: (Lib.cut l [c]).2.1 ∧ c ∉ (Lib.cut l [c]).1 := by
  rcases cut_or c l with hn | ⟨A, B, rfl, hA⟩
  · rw [cut_not l c hn] at h; cases h
  · rw [cut_at A B c hA]; exact ⟨rfl, hA⟩
theorem cut_len (l : List UInt8) (c : UInt8) : (Lib.cut l [c]).1.length ≤ l.length ∧ (Lib.cut l [c]).2.1.length ≤ l.length := by
  rcases cut_or c l with hn | ⟨A, B, rfl, hA⟩
  · rw [cut_not l c hn]; simp
  · rw [cut_at A B c hA]; simp; omega
end Go.Proofs.YtcbjadecocggjaaDoor
