/- The document's person as a struct. -/
import Derived.Test.YtkpiinjhcckhfaaGreatDoorCoParse
namespace Go.Proofs.YtkpiinjhcckhfaaGreatDoor
open Go.RowKit Plain
set_option linter.unusedVariables false
theorem info_rwho (x : WX) : (Tryz.prog.info? 25).map (·.size) = some (whoA x).size := by show _ = some 4; kernel_rfl
theorem build_rwho (n m z : ByteArray) (t : Int) (W : World) : (Instr.build 25 #[(0, .string n), (1, .string m), (2, .int .i64 t), (3, .string z)]).run Tryz.prog W = .ok (.agg (whoA ⟨n, m, t, z⟩)) W := run_build W _ _ _ (by kernel_rfl)
end Go.Proofs.YtkpiinjhcckhfaaGreatDoor
