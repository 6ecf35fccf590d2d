/-
  No cell of these rows narrows 'for every input' (looked for: loops, veiled, ifaces, maps, wideKeys, modest, calm, conditions, laid).
  DERIVED. THE GIVEN ROWS OF THIS SEAT. 5 by the template 'for every input the law returns true; each argument reads behind the call as it read before'; 0 by the template 'total and deterministic' (their statements: YtkminkeaeclanaaTotals.lean).
  GIVEN WITH THE SEED: the statements are not yours to turn. If you find one false, say at which input.
  Laid BY PROGRAM, IN A SANDBOX (cutbox-rows.mjs): the forced cells as the released guide's own fill.sh prints them over the translation fbfaaa5fccb8848c… (all of the seat's roots in one cut). By AI agents, Wed Nov 11 2026. No macro, syntax, notation, axiom, sorry.
-/
import Derived.Test.YtkminkeaeclanaaChecked
import GoSem.Claim
import GoSem.ClaimJoined
import GoSem.ClaimMapViews
import Derived.JoinedTies
import Derived.KernelRfl
namespace Go.Proofs.Ytkminkeaeclanaa
/- THE CELL 'sum', in the pinned program and in every row, IS THE sha256 OF THE DUMP (.gsa) THAT YtkminkeaeclanaaProg.lean LOADS. Nothing in Lean hashes anything: it is a label: what it is worth is what the hold of that sum in a sandbox is worth. -/
noncomputable def Try.pinned : Pinned := { name := "ytkminkeaeclanaa", sum := "fbfaaa5fccb8848c9a22696e4c954851b461f1c21681ebe8e82797edf81129e3", checked := Try.checked }
namespace Rows
def none {H : Type} : Left H := { results := [], args := [] }

/-- 'tramwaylaw03.InflateRaw': WHATEVER THE INPUT: true; the input reads as it did. -/
def inflateRawSpec : ChangeSpec := { name := "inflateRaw", fn := fun _ => fun
  | [d1, d2] => { results := [.lit (.bool true)], args := [d1, d2] }
  | _ => none }
def inflateRawRow : OpenClaim := { program := "ytkminkeaeclanaa", sum := "fbfaaa5fccb8848c9a22696e4c954851b461f1c21681ebe8e82797edf81129e3", func := "tramway/tramwaylaw03.InflateRaw", spec := "inflateRaw", unfollowed := true, recurses := true, apart := false }
def InflateRawSaid : Prop := inflateRawRow.holds Try.pinned (OpenSpec.ofChange inflateRawSpec)

/-- ITS FALSE NEIGHBOUR: 'it returns false'. Refute it at one input. -/
def inflateRawWrong : ChangeSpec := { name := "inflateRaw", fn := fun _ => fun
  | [d1, d2] => { results := [.lit (.bool false)], args := [d1, d2] }
  | _ => none }
def InflateRawWrongFalsely : Prop := inflateRawRow.holds Try.pinned (OpenSpec.ofChange inflateRawWrong)

/-- 'tramwaylaw03.InflateMore': WHATEVER THE INPUT: true; the input reads as it did. -/
def inflateMoreSpec : ChangeSpec := { name := "inflateMore", fn := fun _ => fun
  | [d1, d2, d3] => { results := [.lit (.bool true)], args := [d1, d2, d3] }
  | _ => none }
def inflateMoreRow : OpenClaim := { program := "ytkminkeaeclanaa", sum := "fbfaaa5fccb8848c9a22696e4c954851b461f1c21681ebe8e82797edf81129e3", func := "tramway/tramwaylaw03.InflateMore", spec := "inflateMore", unfollowed := true, recurses := true, apart := false }
def InflateMoreSaid : Prop := inflateMoreRow.holds Try.pinned (OpenSpec.ofChange inflateMoreSpec)

/-- ITS FALSE NEIGHBOUR: 'it returns false'. Refute it at one input. -/
def inflateMoreWrong : ChangeSpec := { name := "inflateMore", fn := fun _ => fun
  | [d1, d2, d3] => { results := [.lit (.bool false)], args := [d1, d2, d3] }
  | _ => none }
def InflateMoreWrongFalsely : Prop := inflateMoreRow.holds Try.pinned (OpenSpec.ofChange inflateMoreWrong)

/-- 'tramwaylaw03.InflateStored': WHATEVER THE INPUT: true; the input reads as it did. -/
def inflateStoredSpec : ChangeSpec := { name := "inflateStored", fn := fun _ => fun
  | [d1, d2] => { results := [.lit (.bool true)], args := [d1, d2] }
  | _ => none }
def inflateStoredRow : OpenClaim := { program := "ytkminkeaeclanaa", sum := "fbfaaa5fccb8848c9a22696e4c954851b461f1c21681ebe8e82797edf81129e3", func := "tramway/tramwaylaw03.InflateStored", spec := "inflateStored", unfollowed := true, recurses := true, apart := false }
def InflateStoredSaid : Prop := inflateStoredRow.holds Try.pinned (OpenSpec.ofChange inflateStoredSpec)

/-- ITS FALSE NEIGHBOUR: 'it returns false'. Refute it at one input. -/
def inflateStoredWrong : ChangeSpec := { name := "inflateStored", fn := fun _ => fun
  | [d1, d2] => { results := [.lit (.bool false)], args := [d1, d2] }
  | _ => none }
def InflateStoredWrongFalsely : Prop := inflateStoredRow.holds Try.pinned (OpenSpec.ofChange inflateStoredWrong)

/-- 'tramwaylaw03.InflateFixed': WHATEVER THE INPUT: true; the input reads as it did. -/
def inflateFixedSpec : ChangeSpec := { name := "inflateFixed", fn := fun _ => fun
  | [d1, d2] => { results := [.lit (.bool true)], args := [d1, d2] }
  | _ => none }
def inflateFixedRow : OpenClaim := { program := "ytkminkeaeclanaa", sum := "fbfaaa5fccb8848c9a22696e4c954851b461f1c21681ebe8e82797edf81129e3", func := "tramway/tramwaylaw03.InflateFixed", spec := "inflateFixed", unfollowed := true, recurses := true, apart := false }
def InflateFixedSaid : Prop := inflateFixedRow.holds Try.pinned (OpenSpec.ofChange inflateFixedSpec)

/-- ITS FALSE NEIGHBOUR: 'it returns false'. Refute it at one input. -/
def inflateFixedWrong : ChangeSpec := { name := "inflateFixed", fn := fun _ => fun
  | [d1, d2] => { results := [.lit (.bool false)], args := [d1, d2] }
  | _ => none }
def InflateFixedWrongFalsely : Prop := inflateFixedRow.holds Try.pinned (OpenSpec.ofChange inflateFixedWrong)

/-- 'tramwaylaw03.InflateAhead': WHATEVER THE INPUT: true; the input reads as it did. -/
def inflateAheadSpec : ChangeSpec := { name := "inflateAhead", fn := fun _ => fun
  | [d1, d2] => { results := [.lit (.bool true)], args := [d1, d2] }
  | _ => none }
def inflateAheadRow : OpenClaim := { program := "ytkminkeaeclanaa", sum := "fbfaaa5fccb8848c9a22696e4c954851b461f1c21681ebe8e82797edf81129e3", func := "tramway/tramwaylaw03.InflateAhead", spec := "inflateAhead", unfollowed := true, recurses := true, apart := false }
def InflateAheadSaid : Prop := inflateAheadRow.holds Try.pinned (OpenSpec.ofChange inflateAheadSpec)

/-- ITS FALSE NEIGHBOUR: 'it returns false'. Refute it at one input. -/
def inflateAheadWrong : ChangeSpec := { name := "inflateAhead", fn := fun _ => fun
  | [d1, d2] => { results := [.lit (.bool false)], args := [d1, d2] }
  | _ => none }
def InflateAheadWrongFalsely : Prop := inflateAheadRow.holds Try.pinned (OpenSpec.ofChange inflateAheadWrong)

/- THE SECOND FORM. 'bulk': how many values and letters a reading holds, each counted each time it is reached (what is shared counts as often as it is met; a slice's spare places count too). A statement '..UptoSaid' is the law's where the arguments, and the package variables that the reading takes, are together of bulk at most 1048576: NARROWER than '..Said'. Prove '..Said' where nothing that the law and all that it calls make is longer than what came in: it says more and counts as full. Else prove '..UptoSaid'. A law counts once. -/
mutual
def uptoBulk {H : Type} : DataW H → Nat
  | .lit (.string bytes) => bytes.length + 1
  | .lit _ => 1
  | .nil => 1
  | .ptr d => uptoBulk d + 1
  | .slice elems spare => uptoBulkAll elems + uptoBulkAll spare + 1
  | .agg parts => uptoBulkAll parts + 1
  | .iface _ d => uptoBulk d + 1
  | .map entries => uptoBulkEntries entries + 1
  | .held _ => 1
def uptoBulkAll {H : Type} : List (DataW H) → Nat
  | [] => 0
  | d :: r => uptoBulk d + uptoBulkAll r
def uptoBulkEntries {H : Type} : List (Lit × DataW H) → Nat
  | [] => 0
  | x :: r => uptoBulkEntry x + uptoBulkEntries r
def uptoBulkEntry {H : Type} : Lit × DataW H → Nat
  | (.string bytes, d) => bytes.length + uptoBulk d + 1
  | (_, d) => uptoBulk d + 1
 end
def uptoSmall : (H : Type) → List (DataW H) → Bool := fun _ ds => decide (uptoBulkAll ds ≤ 1048576)
def OpenSpec.upto (s : _root_.Go.ChangeSpec) : _root_.Go.OpenSpec := { _root_.Go.OpenSpec.ofChange s with cond := some uptoSmall }

/-- 'tramwaylaw03.InflateRaw', WHERE WHAT IT READS IS OF BULK AT MOST 1048576: true; the input reads as it did. -/
def inflateRawUptoRow : OpenClaim := { program := "ytkminkeaeclanaa", sum := "fbfaaa5fccb8848c9a22696e4c954851b461f1c21681ebe8e82797edf81129e3", func := "tramway/tramwaylaw03.InflateRaw", spec := "inflateRaw", unfollowed := true, recurses := true, apart := false, narrowed := true }
def InflateRawUptoSaid : Prop := inflateRawUptoRow.holds Try.pinned (OpenSpec.upto inflateRawSpec)

/-- 'tramwaylaw03.InflateMore', WHERE WHAT IT READS IS OF BULK AT MOST 1048576: true; the input reads as it did. -/
def inflateMoreUptoRow : OpenClaim := { program := "ytkminkeaeclanaa", sum := "fbfaaa5fccb8848c9a22696e4c954851b461f1c21681ebe8e82797edf81129e3", func := "tramway/tramwaylaw03.InflateMore", spec := "inflateMore", unfollowed := true, recurses := true, apart := false, narrowed := true }
def InflateMoreUptoSaid : Prop := inflateMoreUptoRow.holds Try.pinned (OpenSpec.upto inflateMoreSpec)

/-- 'tramwaylaw03.InflateStored', WHERE WHAT IT READS IS OF BULK AT MOST 1048576: true; the input reads as it did. -/
def inflateStoredUptoRow : OpenClaim := { program := "ytkminkeaeclanaa", sum := "fbfaaa5fccb8848c9a22696e4c954851b461f1c21681ebe8e82797edf81129e3", func := "tramway/tramwaylaw03.InflateStored", spec := "inflateStored", unfollowed := true, recurses := true, apart := false, narrowed := true }
def InflateStoredUptoSaid : Prop := inflateStoredUptoRow.holds Try.pinned (OpenSpec.upto inflateStoredSpec)

/-- 'tramwaylaw03.InflateFixed', WHERE WHAT IT READS IS OF BULK AT MOST 1048576: true; the input reads as it did. -/
def inflateFixedUptoRow : OpenClaim := { program := "ytkminkeaeclanaa", sum := "fbfaaa5fccb8848c9a22696e4c954851b461f1c21681ebe8e82797edf81129e3", func := "tramway/tramwaylaw03.InflateFixed", spec := "inflateFixed", unfollowed := true, recurses := true, apart := false, narrowed := true }
def InflateFixedUptoSaid : Prop := inflateFixedUptoRow.holds Try.pinned (OpenSpec.upto inflateFixedSpec)

/-- 'tramwaylaw03.InflateAhead', WHERE WHAT IT READS IS OF BULK AT MOST 1048576: true; the input reads as it did. -/
def inflateAheadUptoRow : OpenClaim := { program := "ytkminkeaeclanaa", sum := "fbfaaa5fccb8848c9a22696e4c954851b461f1c21681ebe8e82797edf81129e3", func := "tramway/tramwaylaw03.InflateAhead", spec := "inflateAhead", unfollowed := true, recurses := true, apart := false, narrowed := true }
def InflateAheadUptoSaid : Prop := inflateAheadUptoRow.holds Try.pinned (OpenSpec.upto inflateAheadSpec)

end Rows
end Go.Proofs.Ytkminkeaeclanaa
