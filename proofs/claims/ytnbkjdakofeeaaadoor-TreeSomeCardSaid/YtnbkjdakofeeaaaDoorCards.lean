/-
  DERIVED. GIVEN WITH THE SEED: THE CARDS: each row of YtnbkjdakofeeaaaDoorRows.lean that lists a variable, with what it lists TIED to the program's text (the seventh form; the later family's looks); each row that meets fmt, with fmt's text TOLD by the authors' own Lean function (tested against real Go, not proved from fmt's source: count such statements apart). THE CARD IS WHAT COUNTS. Prove the row's statement (the work); the ties are given (YtnbkjdakofeeaaaDoorTie.lean); close each card by the builder's one call (the guide's Derived/Test/ToyasCard.lean, 'card_holds'). Laid BY PROGRAM, IN A SANDBOX (cutbox-door.mjs). By AI agents, Wed Nov 11 2026. No macro, syntax, notation, axiom, sorry.
-/
import Derived.Test.YtnbkjdakofeeaaaDoorRows
import GoSem.ClaimSeven
namespace Go.Proofs.YtnbkjdakofeeaaaDoor
namespace Rows

/-- THE TIED CARD OF 'tramwaylaw10.TreeParses'. -/
def treeParsesCard : Claim7 := { stood := { row := treeParsesRow, standIns := [], harness := (true, "8ffa50acb85c7060b90d3aa7135be3d9c43f814dfd1f8202b18caf0b069c3ce9"), looks := false }, kinds := [], alts := [], laidByText := true, laidKinds := [.data, .data, .data], laidTests := true, laidLooks := .later }
def TreeParsesCardSaid : Prop := Claim7.holds Tryd.pinned (.plain (OpenSpec.ofChange treeParsesSpec)) treeParsesCard

/-- THE TIED CARD OF 'tramwaylaw10.TreeBack'. -/
def treeBackCard : Claim7 := { stood := { row := treeBackRow, standIns := [], harness := (true, "8ffa50acb85c7060b90d3aa7135be3d9c43f814dfd1f8202b18caf0b069c3ce9"), looks := false }, kinds := [], alts := [], laidByText := true, laidKinds := [.data, .data, .data], laidTests := true, laidLooks := .later }
def TreeBackCardSaid : Prop := Claim7.holds Tryd.pinned (.plain (OpenSpec.ofChange treeBackSpec)) treeBackCard

/-- THE TIED CARD OF 'tramwaylaw10.TreeSome'. -/
def treeSomeCard : Claim7 := { stood := { row := treeSomeRow, standIns := [], harness := (true, "8ffa50acb85c7060b90d3aa7135be3d9c43f814dfd1f8202b18caf0b069c3ce9"), looks := false }, kinds := [], alts := [], laidByText := true, laidKinds := [.data, .data, .data], laidTests := true, laidLooks := .later }
def TreeSomeCardSaid : Prop := Claim7.holds Tryd.pinned (.plain (OpenSpec.ofChange treeSomeSpec)) treeSomeCard

/-- THE SECOND FORM's CARD OF 'tramwaylaw10.TreeParses'. -/
def treeParsesUptoCard : Claim7 := { stood := { row := treeParsesUptoRow, standIns := [], harness := (true, "8ffa50acb85c7060b90d3aa7135be3d9c43f814dfd1f8202b18caf0b069c3ce9"), looks := false }, kinds := [], alts := [], laidByText := true, laidKinds := [.data, .data, .data], laidTests := true, laidLooks := .later }
def TreeParsesUptoCardSaid : Prop := Claim7.holds Tryd.pinned (.plain (OpenSpec.upto treeParsesSpec)) treeParsesUptoCard

/-- THE SECOND FORM's CARD OF 'tramwaylaw10.TreeBack'. -/
def treeBackUptoCard : Claim7 := { stood := { row := treeBackUptoRow, standIns := [], harness := (true, "8ffa50acb85c7060b90d3aa7135be3d9c43f814dfd1f8202b18caf0b069c3ce9"), looks := false }, kinds := [], alts := [], laidByText := true, laidKinds := [.data, .data, .data], laidTests := true, laidLooks := .later }
def TreeBackUptoCardSaid : Prop := Claim7.holds Tryd.pinned (.plain (OpenSpec.upto treeBackSpec)) treeBackUptoCard

/-- THE SECOND FORM's CARD OF 'tramwaylaw10.TreeSome'. -/
def treeSomeUptoCard : Claim7 := { stood := { row := treeSomeUptoRow, standIns := [], harness := (true, "8ffa50acb85c7060b90d3aa7135be3d9c43f814dfd1f8202b18caf0b069c3ce9"), looks := false }, kinds := [], alts := [], laidByText := true, laidKinds := [.data, .data, .data], laidTests := true, laidLooks := .later }
def TreeSomeUptoCardSaid : Prop := Claim7.holds Tryd.pinned (.plain (OpenSpec.upto treeSomeSpec)) treeSomeUptoCard
end Rows
end Go.Proofs.YtnbkjdakofeeaaaDoor
