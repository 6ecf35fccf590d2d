/-
  No cell of these rows narrows 'for every input' (looked for: loops, veiled, ifaces, maps, wideKeys, modest, calm, conditions, laid).
  DERIVED. THE GIVEN ROWS OF THIS SEAT. 5 by the template 'for every input the law returns true; each argument reads behind the call as it read before'; 0 by the template 'total and deterministic' (their statements: YteaaoigeopekiaaTotals.lean).
  GIVEN WITH THE SEED: the statements are not yours to turn. If you find one false, say at which input.
  Laid BY PROGRAM, IN A SANDBOX (cutbox-rows.mjs): the forced cells as the released guide's own fill.sh prints them over the translation c2d30518d1b6c16b… (all of the seat's roots in one cut). By AI agents, Wed Nov 11 2026. No macro, syntax, notation, axiom, sorry.
-/
import Derived.Test.YteaaoigeopekiaaChecked
import GoSem.Claim
import GoSem.ClaimJoined
import GoSem.ClaimMapViews
import Derived.JoinedTies
import Derived.KernelRfl
namespace Go.Proofs.Yteaaoigeopekiaa
/- THE CELL 'sum', in the pinned program and in every row, IS THE sha256 OF THE DUMP (.gsa) THAT YteaaoigeopekiaaProg.lean LOADS. Nothing in Lean hashes anything: it is a label: what it is worth is what the hold of that sum in a sandbox is worth. -/
noncomputable def Try.pinned : Pinned := { name := "yteaaoigeopekiaa", sum := "c2d30518d1b6c16b81862c42350a3c6cc0e868c4cb9675df70b34d5aa2ceab7b", checked := Try.checked }
namespace Rows
def none {H : Type} : Left H := { results := [], args := [] }

/-- 'tramwaylaw04.DeflateBack': WHATEVER THE INPUT: true; the input reads as it did. -/
def deflateBackSpec : ChangeSpec := { name := "deflateBack", fn := fun _ => fun
  | [d1, d2] => { results := [.lit (.bool true)], args := [d1, d2] }
  | _ => none }
def deflateBackRow : OpenClaim := { program := "yteaaoigeopekiaa", sum := "c2d30518d1b6c16b81862c42350a3c6cc0e868c4cb9675df70b34d5aa2ceab7b", func := "tramway/tramwaylaw04.DeflateBack", spec := "deflateBack", unfollowed := true, recurses := true, plainKeys := false, apart := false }
def DeflateBackSaid : Prop := deflateBackRow.holds Try.pinned (OpenSpec.ofChange deflateBackSpec)

/-- ITS FALSE NEIGHBOUR: 'it returns false'. Refute it at one input. -/
def deflateBackWrong : ChangeSpec := { name := "deflateBack", fn := fun _ => fun
  | [d1, d2] => { results := [.lit (.bool false)], args := [d1, d2] }
  | _ => none }
def DeflateBackWrongFalsely : Prop := deflateBackRow.holds Try.pinned (OpenSpec.ofChange deflateBackWrong)

/-- 'tramwaylaw04.DeflateStored': WHATEVER THE INPUT: true; the input reads as it did. -/
def deflateStoredSpec : ChangeSpec := { name := "deflateStored", fn := fun _ => fun
  | [d1, d2, d3] => { results := [.lit (.bool true)], args := [d1, d2, d3] }
  | _ => none }
def deflateStoredRow : OpenClaim := { program := "yteaaoigeopekiaa", sum := "c2d30518d1b6c16b81862c42350a3c6cc0e868c4cb9675df70b34d5aa2ceab7b", func := "tramway/tramwaylaw04.DeflateStored", spec := "deflateStored", unfollowed := true, recurses := true, plainKeys := false, apart := false }
def DeflateStoredSaid : Prop := deflateStoredRow.holds Try.pinned (OpenSpec.ofChange deflateStoredSpec)

/-- ITS FALSE NEIGHBOUR: 'it returns false'. Refute it at one input. -/
def deflateStoredWrong : ChangeSpec := { name := "deflateStored", fn := fun _ => fun
  | [d1, d2, d3] => { results := [.lit (.bool false)], args := [d1, d2, d3] }
  | _ => none }
def DeflateStoredWrongFalsely : Prop := deflateStoredRow.holds Try.pinned (OpenSpec.ofChange deflateStoredWrong)

/-- 'tramwaylaw04.DeflateShort': WHATEVER THE INPUT: true; the input reads as it did. -/
def deflateShortSpec : ChangeSpec := { name := "deflateShort", fn := fun _ => fun
  | [d1, d2] => { results := [.lit (.bool true)], args := [d1, d2] }
  | _ => none }
def deflateShortRow : OpenClaim := { program := "yteaaoigeopekiaa", sum := "c2d30518d1b6c16b81862c42350a3c6cc0e868c4cb9675df70b34d5aa2ceab7b", func := "tramway/tramwaylaw04.DeflateShort", spec := "deflateShort", plainKeys := false, apart := false }
def DeflateShortSaid : Prop := deflateShortRow.holds Try.pinned (OpenSpec.ofChange deflateShortSpec)

/-- ITS FALSE NEIGHBOUR: 'it returns false'. Refute it at one input. -/
def deflateShortWrong : ChangeSpec := { name := "deflateShort", fn := fun _ => fun
  | [d1, d2] => { results := [.lit (.bool false)], args := [d1, d2] }
  | _ => none }
def DeflateShortWrongFalsely : Prop := deflateShortRow.holds Try.pinned (OpenSpec.ofChange deflateShortWrong)

/-- 'tramwaylaw04.DeflateRuns': WHATEVER THE INPUT: true; the input reads as it did. -/
def deflateRunsSpec : ChangeSpec := { name := "deflateRuns", fn := fun _ => fun
  | [d1, d2] => { results := [.lit (.bool true)], args := [d1, d2] }
  | _ => none }
def deflateRunsRow : OpenClaim := { program := "yteaaoigeopekiaa", sum := "c2d30518d1b6c16b81862c42350a3c6cc0e868c4cb9675df70b34d5aa2ceab7b", func := "tramway/tramwaylaw04.DeflateRuns", spec := "deflateRuns", unfollowed := true, recurses := true, plainKeys := false, apart := false }
def DeflateRunsSaid : Prop := deflateRunsRow.holds Try.pinned (OpenSpec.ofChange deflateRunsSpec)

/-- ITS FALSE NEIGHBOUR: 'it returns false'. Refute it at one input. -/
def deflateRunsWrong : ChangeSpec := { name := "deflateRuns", fn := fun _ => fun
  | [d1, d2] => { results := [.lit (.bool false)], args := [d1, d2] }
  | _ => none }
def DeflateRunsWrongFalsely : Prop := deflateRunsRow.holds Try.pinned (OpenSpec.ofChange deflateRunsWrong)

/-- 'tramwaylaw04.DeflateSizes': WHATEVER THE INPUT: true; the input reads as it did. -/
def deflateSizesSpec : ChangeSpec := { name := "deflateSizes", fn := fun _ => fun
  | [d1, d2] => { results := [.lit (.bool true)], args := [d1, d2] }
  | _ => none }
def deflateSizesRow : OpenClaim := { program := "yteaaoigeopekiaa", sum := "c2d30518d1b6c16b81862c42350a3c6cc0e868c4cb9675df70b34d5aa2ceab7b", func := "tramway/tramwaylaw04.DeflateSizes", spec := "deflateSizes", plainKeys := false, apart := false }
def DeflateSizesSaid : Prop := deflateSizesRow.holds Try.pinned (OpenSpec.ofChange deflateSizesSpec)

/-- ITS FALSE NEIGHBOUR: 'it returns false'. Refute it at one input. -/
def deflateSizesWrong : ChangeSpec := { name := "deflateSizes", fn := fun _ => fun
  | [d1, d2] => { results := [.lit (.bool false)], args := [d1, d2] }
  | _ => none }
def DeflateSizesWrongFalsely : Prop := deflateSizesRow.holds Try.pinned (OpenSpec.ofChange deflateSizesWrong)

/- THE SECOND FORM. 'bulk': how many values and letters a reading holds, each counted each time it is reached (what is shared counts as often as it is met; a slice's spare places count too). A statement '..UptoSaid' is the law's where the arguments, and the package variables that the reading takes, are together of bulk at most 1048576: NARROWER than '..Said'. Prove '..Said' where nothing that the law and all that it calls make is longer than what came in: it says more and counts as full. Else prove '..UptoSaid'. A law counts once. -/
mutual
def uptoBulk {H : Type} : DataW H → Nat
  | .lit (.string bytes) => bytes.length + 1
  | .lit _ => 1
  | .nil => 1
  | .ptr d => uptoBulk d + 1
  | .slice elems spare => uptoBulkAll elems + uptoBulkAll spare + 1
  | .agg parts => uptoBulkAll parts + 1
  | .iface _ d => uptoBulk d + 1
  | .map entries => uptoBulkEntries entries + 1
  | .held _ => 1
def uptoBulkAll {H : Type} : List (DataW H) → Nat
  | [] => 0
  | d :: r => uptoBulk d + uptoBulkAll r
def uptoBulkEntries {H : Type} : List (Lit × DataW H) → Nat
  | [] => 0
  | x :: r => uptoBulkEntry x + uptoBulkEntries r
def uptoBulkEntry {H : Type} : Lit × DataW H → Nat
  | (.string bytes, d) => bytes.length + uptoBulk d + 1
  | (_, d) => uptoBulk d + 1
 end
def uptoSmall : (H : Type) → List (DataW H) → Bool := fun _ ds => decide (uptoBulkAll ds ≤ 1048576)
def OpenSpec.upto (s : _root_.Go.ChangeSpec) : _root_.Go.OpenSpec := { _root_.Go.OpenSpec.ofChange s with cond := some uptoSmall }

/-- 'tramwaylaw04.DeflateBack', WHERE WHAT IT READS IS OF BULK AT MOST 1048576: true; the input reads as it did. -/
def deflateBackUptoRow : OpenClaim := { program := "yteaaoigeopekiaa", sum := "c2d30518d1b6c16b81862c42350a3c6cc0e868c4cb9675df70b34d5aa2ceab7b", func := "tramway/tramwaylaw04.DeflateBack", spec := "deflateBack", unfollowed := true, recurses := true, plainKeys := false, apart := false, narrowed := true }
def DeflateBackUptoSaid : Prop := deflateBackUptoRow.holds Try.pinned (OpenSpec.upto deflateBackSpec)

/-- 'tramwaylaw04.DeflateStored', WHERE WHAT IT READS IS OF BULK AT MOST 1048576: true; the input reads as it did. -/
def deflateStoredUptoRow : OpenClaim := { program := "yteaaoigeopekiaa", sum := "c2d30518d1b6c16b81862c42350a3c6cc0e868c4cb9675df70b34d5aa2ceab7b", func := "tramway/tramwaylaw04.DeflateStored", spec := "deflateStored", unfollowed := true, recurses := true, plainKeys := false, apart := false, narrowed := true }
def DeflateStoredUptoSaid : Prop := deflateStoredUptoRow.holds Try.pinned (OpenSpec.upto deflateStoredSpec)

/-- 'tramwaylaw04.DeflateShort', WHERE WHAT IT READS IS OF BULK AT MOST 1048576: true; the input reads as it did. -/
def deflateShortUptoRow : OpenClaim := { program := "yteaaoigeopekiaa", sum := "c2d30518d1b6c16b81862c42350a3c6cc0e868c4cb9675df70b34d5aa2ceab7b", func := "tramway/tramwaylaw04.DeflateShort", spec := "deflateShort", plainKeys := false, apart := false, narrowed := true }
def DeflateShortUptoSaid : Prop := deflateShortUptoRow.holds Try.pinned (OpenSpec.upto deflateShortSpec)

/-- 'tramwaylaw04.DeflateRuns', WHERE WHAT IT READS IS OF BULK AT MOST 1048576: true; the input reads as it did. -/
def deflateRunsUptoRow : OpenClaim := { program := "yteaaoigeopekiaa", sum := "c2d30518d1b6c16b81862c42350a3c6cc0e868c4cb9675df70b34d5aa2ceab7b", func := "tramway/tramwaylaw04.DeflateRuns", spec := "deflateRuns", unfollowed := true, recurses := true, plainKeys := false, apart := false, narrowed := true }
def DeflateRunsUptoSaid : Prop := deflateRunsUptoRow.holds Try.pinned (OpenSpec.upto deflateRunsSpec)

/-- 'tramwaylaw04.DeflateSizes', WHERE WHAT IT READS IS OF BULK AT MOST 1048576: true; the input reads as it did. -/
def deflateSizesUptoRow : OpenClaim := { program := "yteaaoigeopekiaa", sum := "c2d30518d1b6c16b81862c42350a3c6cc0e868c4cb9675df70b34d5aa2ceab7b", func := "tramway/tramwaylaw04.DeflateSizes", spec := "deflateSizes", plainKeys := false, apart := false, narrowed := true }
def DeflateSizesUptoSaid : Prop := deflateSizesUptoRow.holds Try.pinned (OpenSpec.upto deflateSizesSpec)

end Rows
end Go.Proofs.Yteaaoigeopekiaa
