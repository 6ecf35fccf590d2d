/- Arrays of bytes. -/
import Derived.Test.YtmkhnlfhbiabcaaDoorBytes
import Derived.Test.YtmkhnlfhbiabcaaDoorMid
import Derived.BigQuiet
import Derived.Deep.QuietTactic
import Derived.Deep.RegionWith
import Derived.StillTailTactics
import Derived.WalkSmall
import Derived.IntWalk
import Derived.Laws.Tables
import Derived.Laws.CopyOwn
import Derived.Lib.Hide
namespace Go.Proofs.YtmkhnlfhbiabcaaDoor
open Go.RowKit
set_option linter.unusedVariables false
def V8 (bs : List Int) : Array Value := (bs.map (Value.int .u8)).toArray
theorem V8_get (bs : List Int) (k : Nat) (h : k < bs.length) : (V8 bs)[k]? = some (.int .u8 (bs[k]?.getD 0)) := by
  simp [V8, h]
theorem V8_size (bs : List Int) : (V8 bs).size = bs.length := by simp [V8]
namespace Plain
theorem plain : True := trivial
end Plain
end Go.Proofs.YtmkhnlfhbiabcaaDoor
