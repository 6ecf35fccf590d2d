/- The document's text of a sum: the walk. -/
import Derived.Test.YtcbjadecocggjaaDoorCases
import Derived.StillTailTactics
import Derived.StillTactics
import Derived.Deep.RegionHeld3
import Derived.Deep.AppendLies
import Derived.Deep.RegionWith
namespace Go.Proofs.YtcbjadecocggjaaDoor
open Go.RowKit Plain
set_option linter.unusedVariables false
theorem ret_u8 {a b : Int} (h : a = b) : Ending.returned (.int .u8 a) = .returned (.int .u8 b) := by rw [h]
theorem hexN_take (ids : List Int) (k : Nat) (h : k < ids.length) : hexN (ids.take (k + 1)) = hexN (ids.take k) ++ [(hexD ((ids[k]?.getD 0).toNat / 16) : Int), (hexD ((ids[k]?.getD 0).toNat % 16) : Int)] := by
  unfold hexN; rw [List.take_succ_eq_append_getElem h, List.flatMap_append, List.getElem?_eq_getElem h]; simp
end Go.Proofs.YtcbjadecocggjaaDoor
