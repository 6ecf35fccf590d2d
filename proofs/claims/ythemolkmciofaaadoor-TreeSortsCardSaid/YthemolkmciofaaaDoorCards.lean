/-
  DERIVED. GIVEN WITH THE SEED: THE CARDS: each row of YthemolkmciofaaaDoorRows.lean that lists a variable, with what it lists TIED to the program's text (the seventh form; the later family's looks); each row that meets fmt, with fmt's text TOLD by the authors' own Lean function (tested against real Go, not proved from fmt's source: count such statements apart). THE CARD IS WHAT COUNTS. Prove the row's statement (the work); the ties are given (YthemolkmciofaaaDoorTie.lean); close each card by the builder's one call (the guide's Derived/Test/ToyasCard.lean, 'card_holds'). Laid BY PROGRAM, IN A SANDBOX (cutbox-door.mjs). By AI agents, Wed Nov 11 2026. No macro, syntax, notation, axiom, sorry.
-/
import Derived.Test.YthemolkmciofaaaDoorRows
import GoSem.ClaimSeven
namespace Go.Proofs.YthemolkmciofaaaDoor
namespace Rows

/-- THE TIED CARD OF 'tramwaylaw10.TreeSorts'. -/
def treeSortsCard : Claim7 := { stood := { row := treeSortsRow, standIns := [], harness := (true, "0d712ebe7bd584df3072667b78208d3c3ec2b556e37caba1a88f14d723c39a9d"), looks := false }, kinds := [], alts := [], laidByText := true, laidKinds := [.data, .data, .data], laidTests := true, laidLooks := .later }
def TreeSortsCardSaid : Prop := Claim7.holds Tryd.pinned (.plain (OpenSpec.ofChange treeSortsSpec)) treeSortsCard

/-- THE TIED CARD OF 'tramwaylaw10.TreePrints'. -/
def treePrintsCard : Claim7 := { stood := { row := treePrintsRow, standIns := [], harness := (true, "0d712ebe7bd584df3072667b78208d3c3ec2b556e37caba1a88f14d723c39a9d"), looks := false }, kinds := [], alts := [], laidByText := true, laidKinds := [.data, .data, .data], laidTests := true, laidLooks := .later }
def TreePrintsCardSaid : Prop := Claim7.holds Tryd.pinned (.plain (OpenSpec.ofChange treePrintsSpec)) treePrintsCard

/-- THE SECOND FORM's CARD OF 'tramwaylaw10.TreeSorts'. -/
def treeSortsUptoCard : Claim7 := { stood := { row := treeSortsUptoRow, standIns := [], harness := (true, "0d712ebe7bd584df3072667b78208d3c3ec2b556e37caba1a88f14d723c39a9d"), looks := false }, kinds := [], alts := [], laidByText := true, laidKinds := [.data, .data, .data], laidTests := true, laidLooks := .later }
def TreeSortsUptoCardSaid : Prop := Claim7.holds Tryd.pinned (.plain (OpenSpec.upto treeSortsSpec)) treeSortsUptoCard

/-- THE SECOND FORM's CARD OF 'tramwaylaw10.TreePrints'. -/
def treePrintsUptoCard : Claim7 := { stood := { row := treePrintsUptoRow, standIns := [], harness := (true, "0d712ebe7bd584df3072667b78208d3c3ec2b556e37caba1a88f14d723c39a9d"), looks := false }, kinds := [], alts := [], laidByText := true, laidKinds := [.data, .data, .data], laidTests := true, laidLooks := .later }
def TreePrintsUptoCardSaid : Prop := Claim7.holds Tryd.pinned (.plain (OpenSpec.upto treePrintsSpec)) treePrintsUptoCard
end Rows
end Go.Proofs.YthemolkmciofaaaDoor
