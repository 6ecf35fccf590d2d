/- An entry whose mode or name is set. -/
import Derived.Test.YthemolkmciofaaaDoorTrPrint
namespace Go.Proofs.YthemolkmciofaaaDoor
open Go.RowKit Plain
set_option linter.unusedVariables false
theorem entA_set0 (k k' : Int) (p : ByteArray) (n : List Int) : (entA ⟨k, p, n⟩).setIfInBounds 0 (.int .i64 k') = entA ⟨k', p, n⟩ := by
  simp [entA, entL]
theorem entA_set1 (k : Int) (p p' : ByteArray) (n : List Int) : (entA ⟨k, p, n⟩).setIfInBounds 1 (.string p') = entA ⟨k, p', n⟩ := by
  simp [entA, entL]
theorem build_noEnt (W : World) : (Instr.build 30 #[]).run Tryd.prog W = .ok (.agg (entA noEnt)) W := by kernel_rfl
end Go.Proofs.YthemolkmciofaaaDoor
