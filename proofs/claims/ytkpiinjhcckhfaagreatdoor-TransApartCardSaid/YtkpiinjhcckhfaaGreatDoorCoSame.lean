/- The document's Same, of the same data twice: the walk. -/
import Derived.Test.YtkpiinjhcckhfaaGreatDoorCoTo
import Derived.Test.YtkpiinjhcckhfaaGreatDoorChMake
import Derived.Test.YtkpiinjhcckhfaaGreatDoorChSame
namespace Go.Proofs.YtkpiinjhcckhfaaGreatDoor
open Go.RowKit Plain Go.ChangeShapes Go.WideShapes Go.ChangeAt Go.Great
set_option linter.unusedVariables false
set_option linter.unusedSimpArgs false
theorem fields_rcext : ∃ f1 f2, (Tryz.prog.fieldsOf 65).toList = [f1, f2] ∧ f1.name ≠ "_" ∧ f2.name ≠ "_" ∧ (f1.type = 9 ∧ f1.offset = 0) ∧ f2.type = 9 ∧ f2.offset = 1 := by
  have h : (Tryz.prog.fieldsOf 65).toList.map (fun f => (f.name == "_", f.type, f.offset)) = [(false, 9, 0), (false, 9, 1)] := by kernel_rfl
  generalize (Tryz.prog.fieldsOf 65).toList = l at *
  match l, h with
  | [], h => cases h
  | [_], h => simp at h
  | _ :: _ :: _ :: _, h => simp at h
  | [f1, f2], h =>
    simp only [List.map_cons, List.map_nil, List.cons.injEq, Prod.mk.injEq, and_true, beq_eq_false_iff_ne] at h
    exact ⟨f1, f2, rfl, h.1.1, h.2.1, h.1.2, h.2.2⟩
end Go.Proofs.YtkpiinjhcckhfaaGreatDoor
