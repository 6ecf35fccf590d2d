/-
  No cell of these rows narrows 'for every input' (looked for: loops, veiled, ifaces, maps, wideKeys, modest, calm, conditions, laid).
  DERIVED. THE GIVEN ROWS OF THIS SEAT. 5 by the template 'for every input the law returns true; each argument reads behind the call as it read before'; 0 by the template 'total and deterministic' (their statements: YtaghilpcnoekeaaTotals.lean).
  GIVEN WITH THE SEED: the statements are not yours to turn. If you find one false, say at which input.
  Laid BY PROGRAM, IN A SANDBOX (cutbox-rows.mjs): the forced cells as the released guide's own fill.sh prints them over the translation 60bf2d69d5003646… (all of the seat's roots in one cut). By AI agents, Wed Nov 11 2026. No macro, syntax, notation, axiom, sorry.
-/
import Derived.Test.YtaghilpcnoekeaaChecked
import GoSem.Claim
import GoSem.ClaimJoined
import GoSem.ClaimMapViews
import Derived.JoinedTies
import Derived.KernelRfl
namespace Go.Proofs.Ytaghilpcnoekeaa
/- THE CELL 'sum', in the pinned program and in every row, IS THE sha256 OF THE DUMP (.gsa) THAT YtaghilpcnoekeaaProg.lean LOADS. Nothing in Lean hashes anything: it is a label: what it is worth is what the hold of that sum in a sandbox is worth. -/
noncomputable def Try.pinned : Pinned := { name := "ytaghilpcnoekeaa", sum := "60bf2d69d50036461e155fca176dc6f2708444c8d3d5a27006afbef09c4cd2ab", checked := Try.checked }
namespace Rows
def none {H : Type} : Left H := { results := [], args := [] }

/-- 'tramwaylaw05.ZlibOpens': WHATEVER THE INPUT: true; the input reads as it did. -/
def zlibOpensSpec : ChangeSpec := { name := "zlibOpens", fn := fun _ => fun
  | [d1, d2] => { results := [.lit (.bool true)], args := [d1, d2] }
  | _ => none }
def zlibOpensRow : OpenClaim := { program := "ytaghilpcnoekeaa", sum := "60bf2d69d50036461e155fca176dc6f2708444c8d3d5a27006afbef09c4cd2ab", func := "tramway/tramwaylaw05.ZlibOpens", spec := "zlibOpens", unfollowed := true, recurses := true, plainKeys := false, apart := false }
def ZlibOpensSaid : Prop := zlibOpensRow.holds Try.pinned (OpenSpec.ofChange zlibOpensSpec)

/-- ITS FALSE NEIGHBOUR: 'it returns false'. Refute it at one input. -/
def zlibOpensWrong : ChangeSpec := { name := "zlibOpens", fn := fun _ => fun
  | [d1, d2] => { results := [.lit (.bool false)], args := [d1, d2] }
  | _ => none }
def ZlibOpensWrongFalsely : Prop := zlibOpensRow.holds Try.pinned (OpenSpec.ofChange zlibOpensWrong)

/-- 'tramwaylaw05.ZlibWraps': WHATEVER THE INPUT: true; the input reads as it did. -/
def zlibWrapsSpec : ChangeSpec := { name := "zlibWraps", fn := fun _ => fun
  | [d] => { results := [.lit (.bool true)], args := [d] }
  | _ => none }
def zlibWrapsRow : OpenClaim := { program := "ytaghilpcnoekeaa", sum := "60bf2d69d50036461e155fca176dc6f2708444c8d3d5a27006afbef09c4cd2ab", func := "tramway/tramwaylaw05.ZlibWraps", spec := "zlibWraps", unfollowed := true, recurses := true, plainKeys := false, apart := false }
def ZlibWrapsSaid : Prop := zlibWrapsRow.holds Try.pinned (OpenSpec.ofChange zlibWrapsSpec)

/-- ITS FALSE NEIGHBOUR: 'it returns false'. Refute it at one input. -/
def zlibWrapsWrong : ChangeSpec := { name := "zlibWraps", fn := fun _ => fun
  | [d] => { results := [.lit (.bool false)], args := [d] }
  | _ => none }
def ZlibWrapsWrongFalsely : Prop := zlibWrapsRow.holds Try.pinned (OpenSpec.ofChange zlibWrapsWrong)

/-- 'tramwaylaw05.ZlibBack': WHATEVER THE INPUT: true; the input reads as it did. -/
def zlibBackSpec : ChangeSpec := { name := "zlibBack", fn := fun _ => fun
  | [d1, d2, d3, d4] => { results := [.lit (.bool true)], args := [d1, d2, d3, d4] }
  | _ => none }
def zlibBackRow : OpenClaim := { program := "ytaghilpcnoekeaa", sum := "60bf2d69d50036461e155fca176dc6f2708444c8d3d5a27006afbef09c4cd2ab", func := "tramway/tramwaylaw05.ZlibBack", spec := "zlibBack", unfollowed := true, recurses := true, plainKeys := false, apart := false }
def ZlibBackSaid : Prop := zlibBackRow.holds Try.pinned (OpenSpec.ofChange zlibBackSpec)

/-- ITS FALSE NEIGHBOUR: 'it returns false'. Refute it at one input. -/
def zlibBackWrong : ChangeSpec := { name := "zlibBack", fn := fun _ => fun
  | [d1, d2, d3, d4] => { results := [.lit (.bool false)], args := [d1, d2, d3, d4] }
  | _ => none }
def ZlibBackWrongFalsely : Prop := zlibBackRow.holds Try.pinned (OpenSpec.ofChange zlibBackWrong)

/-- 'tramwaylaw05.ZlibHeads': WHATEVER THE INPUT: true; the input reads as it did. -/
def zlibHeadsSpec : ChangeSpec := { name := "zlibHeads", fn := fun _ => fun
  | [d1, d2, d3] => { results := [.lit (.bool true)], args := [d1, d2, d3] }
  | _ => none }
def zlibHeadsRow : OpenClaim := { program := "ytaghilpcnoekeaa", sum := "60bf2d69d50036461e155fca176dc6f2708444c8d3d5a27006afbef09c4cd2ab", func := "tramway/tramwaylaw05.ZlibHeads", spec := "zlibHeads", unfollowed := true, recurses := true, plainKeys := false, apart := false }
def ZlibHeadsSaid : Prop := zlibHeadsRow.holds Try.pinned (OpenSpec.ofChange zlibHeadsSpec)

/-- ITS FALSE NEIGHBOUR: 'it returns false'. Refute it at one input. -/
def zlibHeadsWrong : ChangeSpec := { name := "zlibHeads", fn := fun _ => fun
  | [d1, d2, d3] => { results := [.lit (.bool false)], args := [d1, d2, d3] }
  | _ => none }
def ZlibHeadsWrongFalsely : Prop := zlibHeadsRow.holds Try.pinned (OpenSpec.ofChange zlibHeadsWrong)

/-- 'tramwaylaw05.ZlibAny': WHATEVER THE INPUT: true; the input reads as it did. -/
def zlibAnySpec : ChangeSpec := { name := "zlibAny", fn := fun _ => fun
  | [d1, d2] => { results := [.lit (.bool true)], args := [d1, d2] }
  | _ => none }
def zlibAnyRow : OpenClaim := { program := "ytaghilpcnoekeaa", sum := "60bf2d69d50036461e155fca176dc6f2708444c8d3d5a27006afbef09c4cd2ab", func := "tramway/tramwaylaw05.ZlibAny", spec := "zlibAny", unfollowed := true, recurses := true, plainKeys := false, apart := false }
def ZlibAnySaid : Prop := zlibAnyRow.holds Try.pinned (OpenSpec.ofChange zlibAnySpec)

/-- ITS FALSE NEIGHBOUR: 'it returns false'. Refute it at one input. -/
def zlibAnyWrong : ChangeSpec := { name := "zlibAny", fn := fun _ => fun
  | [d1, d2] => { results := [.lit (.bool false)], args := [d1, d2] }
  | _ => none }
def ZlibAnyWrongFalsely : Prop := zlibAnyRow.holds Try.pinned (OpenSpec.ofChange zlibAnyWrong)

/- THE SECOND FORM. 'bulk': how many values and letters a reading holds, each counted each time it is reached (what is shared counts as often as it is met; a slice's spare places count too). A statement '..UptoSaid' is the law's where the arguments, and the package variables that the reading takes, are together of bulk at most 1048576: NARROWER than '..Said'. Prove '..Said' where nothing that the law and all that it calls make is longer than what came in: it says more and counts as full. Else prove '..UptoSaid'. A law counts once. -/
mutual
def uptoBulk {H : Type} : DataW H → Nat
  | .lit (.string bytes) => bytes.length + 1
  | .lit _ => 1
  | .nil => 1
  | .ptr d => uptoBulk d + 1
  | .slice elems spare => uptoBulkAll elems + uptoBulkAll spare + 1
  | .agg parts => uptoBulkAll parts + 1
  | .iface _ d => uptoBulk d + 1
  | .map entries => uptoBulkEntries entries + 1
  | .held _ => 1
def uptoBulkAll {H : Type} : List (DataW H) → Nat
  | [] => 0
  | d :: r => uptoBulk d + uptoBulkAll r
def uptoBulkEntries {H : Type} : List (Lit × DataW H) → Nat
  | [] => 0
  | x :: r => uptoBulkEntry x + uptoBulkEntries r
def uptoBulkEntry {H : Type} : Lit × DataW H → Nat
  | (.string bytes, d) => bytes.length + uptoBulk d + 1
  | (_, d) => uptoBulk d + 1
 end
def uptoSmall : (H : Type) → List (DataW H) → Bool := fun _ ds => decide (uptoBulkAll ds ≤ 1048576)
def OpenSpec.upto (s : _root_.Go.ChangeSpec) : _root_.Go.OpenSpec := { _root_.Go.OpenSpec.ofChange s with cond := some uptoSmall }

/-- 'tramwaylaw05.ZlibOpens', WHERE WHAT IT READS IS OF BULK AT MOST 1048576: true; the input reads as it did. -/
def zlibOpensUptoRow : OpenClaim := { program := "ytaghilpcnoekeaa", sum := "60bf2d69d50036461e155fca176dc6f2708444c8d3d5a27006afbef09c4cd2ab", func := "tramway/tramwaylaw05.ZlibOpens", spec := "zlibOpens", unfollowed := true, recurses := true, plainKeys := false, apart := false, narrowed := true }
def ZlibOpensUptoSaid : Prop := zlibOpensUptoRow.holds Try.pinned (OpenSpec.upto zlibOpensSpec)

/-- 'tramwaylaw05.ZlibWraps', WHERE WHAT IT READS IS OF BULK AT MOST 1048576: true; the input reads as it did. -/
def zlibWrapsUptoRow : OpenClaim := { program := "ytaghilpcnoekeaa", sum := "60bf2d69d50036461e155fca176dc6f2708444c8d3d5a27006afbef09c4cd2ab", func := "tramway/tramwaylaw05.ZlibWraps", spec := "zlibWraps", unfollowed := true, recurses := true, plainKeys := false, apart := false, narrowed := true }
def ZlibWrapsUptoSaid : Prop := zlibWrapsUptoRow.holds Try.pinned (OpenSpec.upto zlibWrapsSpec)

/-- 'tramwaylaw05.ZlibBack', WHERE WHAT IT READS IS OF BULK AT MOST 1048576: true; the input reads as it did. -/
def zlibBackUptoRow : OpenClaim := { program := "ytaghilpcnoekeaa", sum := "60bf2d69d50036461e155fca176dc6f2708444c8d3d5a27006afbef09c4cd2ab", func := "tramway/tramwaylaw05.ZlibBack", spec := "zlibBack", unfollowed := true, recurses := true, plainKeys := false, apart := false, narrowed := true }
def ZlibBackUptoSaid : Prop := zlibBackUptoRow.holds Try.pinned (OpenSpec.upto zlibBackSpec)

/-- 'tramwaylaw05.ZlibHeads', WHERE WHAT IT READS IS OF BULK AT MOST 1048576: true; the input reads as it did. -/
def zlibHeadsUptoRow : OpenClaim := { program := "ytaghilpcnoekeaa", sum := "60bf2d69d50036461e155fca176dc6f2708444c8d3d5a27006afbef09c4cd2ab", func := "tramway/tramwaylaw05.ZlibHeads", spec := "zlibHeads", unfollowed := true, recurses := true, plainKeys := false, apart := false, narrowed := true }
def ZlibHeadsUptoSaid : Prop := zlibHeadsUptoRow.holds Try.pinned (OpenSpec.upto zlibHeadsSpec)

/-- 'tramwaylaw05.ZlibAny', WHERE WHAT IT READS IS OF BULK AT MOST 1048576: true; the input reads as it did. -/
def zlibAnyUptoRow : OpenClaim := { program := "ytaghilpcnoekeaa", sum := "60bf2d69d50036461e155fca176dc6f2708444c8d3d5a27006afbef09c4cd2ab", func := "tramway/tramwaylaw05.ZlibAny", spec := "zlibAny", unfollowed := true, recurses := true, plainKeys := false, apart := false, narrowed := true }
def ZlibAnyUptoSaid : Prop := zlibAnyUptoRow.holds Try.pinned (OpenSpec.upto zlibAnySpec)

end Rows
end Go.Proofs.Ytaghilpcnoekeaa
