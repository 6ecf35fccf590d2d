/-
  DERIVED. GIVEN WITH THE SEED: THE CARDS: each row of YtglgchjkonjpiaaGreatDoorRows.lean that lists a variable, with what it lists TIED to the program's text (the seventh form; the later family's looks); each row that meets fmt, with fmt's text TOLD by the authors' own Lean function (tested against real Go, not proved from fmt's source: count such statements apart). THE CARD IS WHAT COUNTS. Prove the row's statement (the work); the ties are given (YtglgchjkonjpiaaGreatDoorTie.lean); close each card by the builder's one call (the guide's Derived/Test/ToyasCard.lean, 'card_holds'). Laid BY PROGRAM, IN A SANDBOX (cutbox-door.mjs). By AI agents, Wed Nov 11 2026. No macro, syntax, notation, axiom, sorry.
-/
import Derived.Test.YtglgchjkonjpiaaGreatDoorRows
import GoSem.ClaimSeven
namespace Go.Proofs.YtglgchjkonjpiaaGreatDoor
namespace Rows

/-- THE TIED CARD OF 'tramwaylaw09.ObjectLoose'. -/
def objectLooseCard : Claim7 := { stood := { row := objectLooseRow, standIns := [], harness := (true, "b95025a5ac34b7adccb8c9fa495b33d5fc5bd1cfed78c40ba2be93632e88b4b6"), looks := true }, kinds := [], alts := [], laidByText := true, laidKinds := [.data, .data, .data, .sentinel, .sentinel], laidTests := true, laidLooks := .later }
def ObjectLooseCardSaid : Prop := Claim7.holds Tryz.pinned (.plain (OpenSpec.ofChange objectLooseSpec)) objectLooseCard

/-- THE TIED CARD OF 'tramwaylaw09.ObjectOpens'. -/
def objectOpensCard : Claim7 := { stood := { row := objectOpensRow, standIns := [], harness := (true, "b95025a5ac34b7adccb8c9fa495b33d5fc5bd1cfed78c40ba2be93632e88b4b6"), looks := true }, kinds := [], alts := [], laidByText := true, laidKinds := [.data, .data, .data, .sentinel, .sentinel], laidTests := true, laidLooks := .later }
def ObjectOpensCardSaid : Prop := Claim7.holds Tryz.pinned (.plain (OpenSpec.ofChange objectOpensSpec)) objectOpensCard

/-- THE TIED CARD OF 'tramwaylaw09.ObjectFronts'. -/
def objectFrontsCard : Claim7 := { stood := { row := objectFrontsRow, standIns := [], harness := (true, "b95025a5ac34b7adccb8c9fa495b33d5fc5bd1cfed78c40ba2be93632e88b4b6"), looks := true }, kinds := [], alts := [], laidByText := true, laidKinds := [.data, .data, .data, .sentinel, .sentinel], laidTests := true, laidLooks := .later }
def ObjectFrontsCardSaid : Prop := Claim7.holds Tryz.pinned (.plain (OpenSpec.ofChange objectFrontsSpec)) objectFrontsCard

/-- THE TIED CARD OF 'tramwaylaw09.ObjectCuts'. -/
def objectCutsCard : Claim7 := { stood := { row := objectCutsRow, standIns := [], harness := (true, "b95025a5ac34b7adccb8c9fa495b33d5fc5bd1cfed78c40ba2be93632e88b4b6"), looks := true }, kinds := [], alts := [], laidByText := true, laidKinds := [.data, .data, .data, .sentinel, .sentinel], laidTests := true, laidLooks := .later }
def ObjectCutsCardSaid : Prop := Claim7.holds Tryz.pinned (.plain (OpenSpec.ofChange objectCutsSpec)) objectCutsCard

/-- THE SECOND FORM's CARD OF 'tramwaylaw09.ObjectLoose'. -/
def objectLooseUptoCard : Claim7 := { stood := { row := objectLooseUptoRow, standIns := [], harness := (true, "b95025a5ac34b7adccb8c9fa495b33d5fc5bd1cfed78c40ba2be93632e88b4b6"), looks := true }, kinds := [], alts := [], laidByText := true, laidKinds := [.data, .data, .data, .sentinel, .sentinel], laidTests := true, laidLooks := .later }
def ObjectLooseUptoCardSaid : Prop := Claim7.holds Tryz.pinned (.plain (OpenSpec.upto objectLooseSpec)) objectLooseUptoCard

/-- THE SECOND FORM's CARD OF 'tramwaylaw09.ObjectOpens'. -/
def objectOpensUptoCard : Claim7 := { stood := { row := objectOpensUptoRow, standIns := [], harness := (true, "b95025a5ac34b7adccb8c9fa495b33d5fc5bd1cfed78c40ba2be93632e88b4b6"), looks := true }, kinds := [], alts := [], laidByText := true, laidKinds := [.data, .data, .data, .sentinel, .sentinel], laidTests := true, laidLooks := .later }
def ObjectOpensUptoCardSaid : Prop := Claim7.holds Tryz.pinned (.plain (OpenSpec.upto objectOpensSpec)) objectOpensUptoCard

/-- THE SECOND FORM's CARD OF 'tramwaylaw09.ObjectFronts'. -/
def objectFrontsUptoCard : Claim7 := { stood := { row := objectFrontsUptoRow, standIns := [], harness := (true, "b95025a5ac34b7adccb8c9fa495b33d5fc5bd1cfed78c40ba2be93632e88b4b6"), looks := true }, kinds := [], alts := [], laidByText := true, laidKinds := [.data, .data, .data, .sentinel, .sentinel], laidTests := true, laidLooks := .later }
def ObjectFrontsUptoCardSaid : Prop := Claim7.holds Tryz.pinned (.plain (OpenSpec.upto objectFrontsSpec)) objectFrontsUptoCard

/-- THE SECOND FORM's CARD OF 'tramwaylaw09.ObjectCuts'. -/
def objectCutsUptoCard : Claim7 := { stood := { row := objectCutsUptoRow, standIns := [], harness := (true, "b95025a5ac34b7adccb8c9fa495b33d5fc5bd1cfed78c40ba2be93632e88b4b6"), looks := true }, kinds := [], alts := [], laidByText := true, laidKinds := [.data, .data, .data, .sentinel, .sentinel], laidTests := true, laidLooks := .later }
def ObjectCutsUptoCardSaid : Prop := Claim7.holds Tryz.pinned (.plain (OpenSpec.upto objectCutsSpec)) objectCutsUptoCard
end Rows
end Go.Proofs.YtglgchjkonjpiaaGreatDoor
