/- The document's cut: the walk. -/
import Derived.Test.YtindmggmblmmcaaDoorCoKnown
namespace Go.Proofs.YtindmggmblmmcaaDoor
open Go.RowKit Plain
set_option linter.unusedVariables false
set_option linter.unusedSimpArgs false
theorem slice_front (s : ByteArray) (m : Nat) (h2 : m ≤ s.size) (x : Int) (hx : x = (m : Int)) (w : World) : (Instr.slice 9 (.string s) none (some (.int .i64 x)) none).run Tryd.prog w = .ok (.string (s.extract 0 m)) w := by
  subst hx
  have ht := Tryd.underlying9
  simp [Instr.slice, run_underlying ht, Instr.sliceBounds, run_sliceBound, h2]
theorem take_snoc {α : Type} {xs : List α} {k : Nat} {x : α} (h : xs[k]? = some x) : xs.take (k + 1) = xs.take k ++ [x] := by rw [List.take_add_one, h]; rfl
theorem front_txt (l : List UInt8) (k : Nat) : (txt l).extract 0 k = txt (l.take k) := by
  apply bytes_ext
  rw [extract_list, txt_list, txt_list]
theorem tail_txt (l : List UInt8) (k : Nat) : (txt l).extract k (txt l).size = txt (l.drop k) := by
  apply bytes_ext
  rw [ByteArray.data_extract, Array.toList_extract, txt_list, txt_list, txt_size]
  rw [List.extract_eq_take_drop, List.take_of_length_le (by rw [List.length_drop]; exact Nat.le_refl _)]
end Go.Proofs.YtindmggmblmmcaaDoor
