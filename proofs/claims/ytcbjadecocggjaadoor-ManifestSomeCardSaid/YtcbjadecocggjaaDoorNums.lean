/- A text's bytes as numbers. -/
import Derived.Test.YtcbjadecocggjaaDoorBackText
import Derived.Test.YtcbjadecocggjaaDoorCutMath
import Derived.Lib.AppendZeros
namespace Go.Proofs.YtcbjadecocggjaaDoor
open Go.RowKit Plain
set_option linter.unusedVariables false
/-- A text's bytes in a new row. -/
def numsOf (s : ByteArray) : List Int := s.data.toList.map fun c => (c.toNat : Int)
theorem numsOf_bytes (s : ByteArray) : ∀ x ∈ numsOf s, 0 ≤ x ∧ x ≤ 255 := by
  intro x hx
  obtain ⟨c, -, rfl⟩ := List.mem_map.1 hx
  have := c.toNat_lt
  omega
theorem range_of_mem {xs : List Int} (h : ∀ x ∈ xs, 0 ≤ x ∧ x ≤ 255) (j : Nat) : 0 ≤ xs[j]?.getD 0 ∧ xs[j]?.getD 0 ≤ 255 := by
  by_cases hj : j < xs.length
  · rw [List.getElem?_eq_getElem hj]; exact h _ (List.getElem_mem hj)
  · rw [List.getElem?_eq_none (by omega)]; simp
theorem numsOf_length (s : ByteArray) : (numsOf s).length = s.size := by unfold numsOf; rw [List.length_map]; rfl
theorem bytes_new (w : World) (s : ByteArray) (hs : s.size ≤ 9223372036854775807) : Bytes (Lib.bytesWorld w 5 s) (some ⟨w.heap.size, 0, none⟩) s.size (numsOf s) := by
  refine ⟨numsOf_length s, hs, range_of_mem (numsOf_bytes s), .inr ⟨_, _, rfl, fun j hj => ?_⟩⟩
  rw [Nat.zero_add, Lib.bytesWorld_cell w 5 s j hj]
  unfold numsOf
  have hj' : j < s.data.toList.length := by simpa using hj
  rw [List.getElem?_map, List.getElem?_eq_getElem hj', List.getD_eq_getElem?_getD, List.getElem?_eq_getElem hj']
  rfl
theorem conv_bytes (w : World) (s : ByteArray) : ∃ c, s.size ≤ c ∧ (convert 9 38 (.string s)).run Tryd.prog w = .ok (.slice (some ⟨w.heap.size, 0, none⟩) s.size c) (Lib.bytesWorld w 5 s) := by
  have hge := grownCap_ge w s.size 0 5
  exact ⟨_, hge, Lib.run_convert_string_bytes w 9 38 5 s Tryd.underlying9 Tryd.underlying38 Tryd.underlying5⟩
theorem nums_str (xs : List Int) (h : ∀ x ∈ xs, 0 ≤ x ∧ x ≤ 255) : numsOf (strOfNums xs) = xs := by
  unfold numsOf
  rw [strOfNums_data, List.map_map]
  conv => rhs; rw [← List.map_id xs]
  apply List.map_congr_left
  intro x hx
  have := h x hx
  simp
  omega
theorem str_nums (s : ByteArray) : strOfNums (numsOf s) = s := by
  have h : (strOfNums (numsOf s)).data.toList = s.data.toList := by
    rw [strOfNums_data]
    unfold numsOf
    rw [List.map_map]
    conv => rhs; rw [← List.map_id s.data.toList]
    apply List.map_congr_left
    intro x hx
    simp
  have h2 : (strOfNums (numsOf s)).data = s.data := Array.toList_inj.1 h
  cases s
  cases hs : strOfNums (numsOf _)
  rw [hs] at h2
  simp only at h2
  rw [h2]
end Go.Proofs.YtcbjadecocggjaaDoor
