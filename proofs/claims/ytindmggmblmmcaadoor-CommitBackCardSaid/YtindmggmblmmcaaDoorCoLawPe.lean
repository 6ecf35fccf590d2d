/- The law CommitPersons. -/
import Derived.Test.YtindmggmblmmcaaDoorCoWhoIn
namespace Go.Proofs.YtindmggmblmmcaaDoor
open Go.RowKit Plain Go.ChangeShapes Go.WideShapes Go.ChangeAt
set_option linter.unusedVariables false
set_option linter.unusedSimpArgs false
theorem info_rwhoL (x : WX) : (Tryd.prog.info? 25).map (·.size) = some (whoL x).length := by show _ = some 4; kernel_rfl
theorem who_range {w : World} {b : Nat} {x : WX} {t : TypeId} {fr : Nat × Nat} (h : w.heap[b]? = some (.cells (whoA x) t fr)) : w.rangeAt b 0 (whoL x) := fun j v hj => by
  rw [Nat.zero_add, cell_of_row _ _ _ _ _ _ h]
  have : (whoA x)[j]? = (whoL x)[j]? := List.getElem?_toArray
  rw [this]
  exact hj
theorem few_text {x : WX} (h : InWho x) : (whoT (fewW x)).length ≤ 1000 := by
  have h1 := cutB_size 200 x.n
  have h2 := cutB_size 200 x.m
  have h3 := cutB_size 200 x.z
  have h4 := itoa_len x.t h.t64
  unfold whoT
  simp only [List.length_append, List.length_cons, List.length_nil]
  rw [← Lib.size_eq, ← Lib.size_eq, ← Lib.size_eq]
  show (cutB 200 x.n).size + _ + (cutB 200 x.m).size + _ + (Lib.itoa x.t).length + _ + (cutB 200 x.z).size ≤ _
  omega
end Go.Proofs.YtindmggmblmmcaaDoor
