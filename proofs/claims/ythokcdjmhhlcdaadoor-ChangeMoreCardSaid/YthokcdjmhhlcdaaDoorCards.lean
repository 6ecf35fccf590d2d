/-
  DERIVED. GIVEN WITH THE SEED: THE CARDS: each row of YthokcdjmhhlcdaaDoorRows.lean that lists a variable, with what it lists TIED to the program's text (the seventh form; the later family's looks); each row that meets fmt, with fmt's text TOLD by the authors' own Lean function (tested against real Go, not proved from fmt's source: count such statements apart). THE CARD IS WHAT COUNTS. Prove the row's statement (the work); the ties are given (YthokcdjmhhlcdaaDoorTie.lean); close each card by the builder's one call (the guide's Derived/Test/ToyasCard.lean, 'card_holds'). Laid BY PROGRAM, IN A SANDBOX (cutbox-door.mjs). By AI agents, Wed Nov 11 2026. No macro, syntax, notation, axiom, sorry.
-/
import Derived.Test.YthokcdjmhhlcdaaDoorRows
import GoSem.ClaimSeven
namespace Go.Proofs.YthokcdjmhhlcdaaDoor
namespace Rows

/-- THE TIED CARD OF 'tramwaylaw19.ChangeBack'. -/
def changeBackCard : Claim7 := { stood := { row := changeBackRow, standIns := [], harness := (true, "07d7bfee0cdce6d102e096f9d3986be5981f81768803bbfab8b385a4b8766fb7"), looks := true }, kinds := [], alts := [], laidByText := true, laidKinds := [.data, .data, .data, .data, .sentinel, .sentinel, .pinned], laidTests := true, laidLooks := .later }
def ChangeBackCardSaid : Prop := Claim7.holds Tryd.pinned (.plain (OpenSpec.ofChange changeBackSpec)) changeBackCard

/-- THE TIED CARD OF 'tramwaylaw19.ChangeValues'. -/
def changeValuesCard : Claim7 := { stood := { row := changeValuesRow, standIns := [], harness := (true, "07d7bfee0cdce6d102e096f9d3986be5981f81768803bbfab8b385a4b8766fb7"), looks := true }, kinds := [], alts := [], laidByText := true, laidKinds := [.data, .data, .data, .data, .sentinel, .sentinel, .pinned], laidTests := true, laidLooks := .later }
def ChangeValuesCardSaid : Prop := Claim7.holds Tryd.pinned (.plain (OpenSpec.ofChange changeValuesSpec)) changeValuesCard

/-- THE TIED CARD OF 'tramwaylaw19.ChangeMore'. -/
def changeMoreCard : Claim7 := { stood := { row := changeMoreRow, standIns := [], harness := (true, "07d7bfee0cdce6d102e096f9d3986be5981f81768803bbfab8b385a4b8766fb7"), looks := true }, kinds := [], alts := [], laidByText := true, laidKinds := [.data, .data, .data, .data, .sentinel, .sentinel, .pinned], laidTests := true, laidLooks := .later }
def ChangeMoreCardSaid : Prop := Claim7.holds Tryd.pinned (.plain (OpenSpec.ofChange changeMoreSpec)) changeMoreCard

/-- THE SECOND FORM's CARD OF 'tramwaylaw19.ChangeBack'. -/
def changeBackUptoCard : Claim7 := { stood := { row := changeBackUptoRow, standIns := [], harness := (true, "07d7bfee0cdce6d102e096f9d3986be5981f81768803bbfab8b385a4b8766fb7"), looks := true }, kinds := [], alts := [], laidByText := true, laidKinds := [.data, .data, .data, .data, .sentinel, .sentinel, .pinned], laidTests := true, laidLooks := .later }
def ChangeBackUptoCardSaid : Prop := Claim7.holds Tryd.pinned (.plain (OpenSpec.upto changeBackSpec)) changeBackUptoCard

/-- THE SECOND FORM's CARD OF 'tramwaylaw19.ChangeValues'. -/
def changeValuesUptoCard : Claim7 := { stood := { row := changeValuesUptoRow, standIns := [], harness := (true, "07d7bfee0cdce6d102e096f9d3986be5981f81768803bbfab8b385a4b8766fb7"), looks := true }, kinds := [], alts := [], laidByText := true, laidKinds := [.data, .data, .data, .data, .sentinel, .sentinel, .pinned], laidTests := true, laidLooks := .later }
def ChangeValuesUptoCardSaid : Prop := Claim7.holds Tryd.pinned (.plain (OpenSpec.upto changeValuesSpec)) changeValuesUptoCard

/-- THE SECOND FORM's CARD OF 'tramwaylaw19.ChangeMore'. -/
def changeMoreUptoCard : Claim7 := { stood := { row := changeMoreUptoRow, standIns := [], harness := (true, "07d7bfee0cdce6d102e096f9d3986be5981f81768803bbfab8b385a4b8766fb7"), looks := true }, kinds := [], alts := [], laidByText := true, laidKinds := [.data, .data, .data, .data, .sentinel, .sentinel, .pinned], laidTests := true, laidLooks := .later }
def ChangeMoreUptoCardSaid : Prop := Claim7.holds Tryd.pinned (.plain (OpenSpec.upto changeMoreSpec)) changeMoreUptoCard
end Rows
end Go.Proofs.YthokcdjmhhlcdaaDoor
