/- Numbers to the base 8 as text; a mode's digits: the walks. -/
import Derived.Test.YthemolkmciofaaaDoorTrMath
namespace Go.Proofs.YthemolkmciofaaaDoor
open Go.RowKit Plain
set_option linter.unusedVariables false
set_option linter.unusedSimpArgs false
set_option maxRecDepth 100000 in
theorem tz64_8 (w : World) (hE : Env w) : Calls Tryd.prog 58 #[.int .u64 8] w fun e w' => e = .returned (.int .i64 3) ∧ w' = w := by
  have htz := hE.tz
  have h1 : IntKind.u64.wrap (-8) = 18446744073709551608 := by decide +kernel
  have h2 : bits .and .u64 8 18446744073709551608 = 8 := by decide +kernel
  have h3 : IntKind.u64.wrap (8 * 285870213051353865) = 2286961704410830920 := by decide +kernel
  have h4 : IntKind.u64.wrap 2286961704410830920 = 2286961704410830920 := by decide +kernel
  have h5 : ((2286961704410830920 : Int) / 288230376151711744).toNat = 7 := by decide +kernel
  go_enter Tryd.func58, Tryd.ntmps58
  go_wp2_with fail
  go_ret
  exact ⟨rfl, rfl⟩
set_option maxRecDepth 100000 in
theorem tz_8 (w : World) (hE : Env w) : Calls Tryd.prog 55 #[.int .u64 8] w fun e w' => e = .returned (.int .i64 3) ∧ w' = w := by
  have HE := Lib.hid hE
  clear hE
  go_enter Tryd.func55, Tryd.ntmps55
  go_wp2_with fail
  refine (tz64_8 w HE.out).mono ?_
  rintro e w' ⟨rfl, rfl⟩
  go_wp2_with fail
  go_ret
  exact ⟨rfl, rfl⟩
set_option maxRecDepth 100000 in
theorem pow2_8 (w : World) : Calls Tryd.prog 54 #[.int .i64 8] w fun e w' => e = .returned (.bool true) ∧ w' = w := by
  go_enter Tryd.func54, Tryd.ntmps54
  go_wp2_with fail
  go_ret
  exact ⟨rfl, rfl⟩
end Go.Proofs.YthemolkmciofaaaDoor
