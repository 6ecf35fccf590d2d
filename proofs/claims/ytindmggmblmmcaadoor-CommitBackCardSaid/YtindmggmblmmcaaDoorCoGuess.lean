/- The document's guess of a person: the walk. -/
import Derived.Test.YtindmggmblmmcaaDoorCoCut
namespace Go.Proofs.YtindmggmblmmcaaDoor
open Go.RowKit Plain
set_option linter.unusedVariables false
set_option linter.unusedSimpArgs false
theorem info_rwho (x : WX) : (Tryd.prog.info? 25).map (·.size) = some (whoA x).size := by show _ = some 4; kernel_rfl
theorem build_rwho (n m z : ByteArray) (t : Int) (W : World) : (Instr.build 25 #[(0, .string n), (1, .string m), (2, .int .i64 t), (3, .string z)]).run Tryd.prog W = .ok (.agg (whoA ⟨n, m, t, z⟩)) W := run_build W _ _ _ (by kernel_rfl)
end Go.Proofs.YtindmggmblmmcaaDoor
