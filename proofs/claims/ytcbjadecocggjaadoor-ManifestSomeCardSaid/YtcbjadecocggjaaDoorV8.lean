/- Arrays of bytes. -/
import Derived.Test.YtcbjadecocggjaaDoorBytes
import Derived.Test.YtcbjadecocggjaaDoorMid
import Derived.BigQuiet
import Derived.Deep.QuietTactic
import Derived.Deep.RegionWith
import Derived.StillTailTactics
import Derived.WalkSmall
import Derived.IntWalk
import Derived.Laws.Tables
import Derived.Laws.CopyOwn
import Derived.Lib.Hide
namespace Go.Proofs.YtcbjadecocggjaaDoor
open Go.RowKit
set_option linter.unusedVariables false
def V8 (bs : List Int) : Array Value := (U8 bs).toArray
theorem V8_size (bs : List Int) : (V8 bs).size = bs.length := by simp [V8, U8]
theorem V8_get (bs : List Int) (k : Nat) (h : k < bs.length) : (V8 bs)[k]? = some (.int .u8 (bs[k]?.getD 0)) := by
  simp [V8, U8, h]
theorem V8_list (bs : List Int) : (V8 bs).toList = U8 bs := by simp [V8]
theorem V8_one (bs : List Int) : (V8 bs).all (·.oneCell') = true := by
  rw [Array.all_eq_true_iff_forall_mem]; intro v hv; exact U8_one bs v (by rw [← V8_list]; simpa using hv)
namespace Plain
theorem plain : True := trivial
end Plain
end Go.Proofs.YtcbjadecocggjaaDoor
