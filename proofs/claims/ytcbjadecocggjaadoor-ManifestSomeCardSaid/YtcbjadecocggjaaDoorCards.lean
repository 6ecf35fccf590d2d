/-
  DERIVED. GIVEN WITH THE SEED: THE CARDS: each row of YtcbjadecocggjaaDoorRows.lean that lists a variable, with what it lists TIED to the program's text (the seventh form; the later family's looks); each row that meets fmt, with fmt's text TOLD by the authors' own Lean function (tested against real Go, not proved from fmt's source: count such statements apart). THE CARD IS WHAT COUNTS. Prove the row's statement (the work); the ties are given (YtcbjadecocggjaaDoorTie.lean); close each card by the builder's one call (the guide's Derived/Test/ToyasCard.lean, 'card_holds'). Laid BY PROGRAM, IN A SANDBOX (cutbox-door.mjs). By AI agents, Wed Nov 11 2026. No macro, syntax, notation, axiom, sorry.
-/
import Derived.Test.YtcbjadecocggjaaDoorRows
import GoSem.ClaimSeven
namespace Go.Proofs.YtcbjadecocggjaaDoor
namespace Rows

/-- THE TIED CARD OF 'tramwaylaw18.ManifestDiffs'. -/
def manifestDiffsCard : Claim7 := { stood := { row := manifestDiffsRow, standIns := [], harness := (true, "df09c2f3835106dceca3f047f8e975803da96da10611670f497c867d582e4bc2"), looks := false }, kinds := [], alts := [], laidByText := true, laidKinds := [.data, .sentinel, .pinned], laidTests := true, laidLooks := .later }
def ManifestDiffsCardSaid : Prop := Claim7.holds Tryd.pinned (.plain (OpenSpec.ofChange manifestDiffsSpec)) manifestDiffsCard

/-- THE TIED CARD OF 'tramwaylaw18.ManifestSome'. -/
def manifestSomeCard : Claim7 := { stood := { row := manifestSomeRow, standIns := [], harness := (true, "df09c2f3835106dceca3f047f8e975803da96da10611670f497c867d582e4bc2"), looks := false }, kinds := [], alts := [], laidByText := true, laidKinds := [.data, .sentinel, .pinned], laidTests := true, laidLooks := .later }
def ManifestSomeCardSaid : Prop := Claim7.holds Tryd.pinned (.plain (OpenSpec.ofChange manifestSomeSpec)) manifestSomeCard

/-- THE SECOND FORM's CARD OF 'tramwaylaw18.ManifestDiffs'. -/
def manifestDiffsUptoCard : Claim7 := { stood := { row := manifestDiffsUptoRow, standIns := [], harness := (true, "df09c2f3835106dceca3f047f8e975803da96da10611670f497c867d582e4bc2"), looks := false }, kinds := [], alts := [], laidByText := true, laidKinds := [.data, .sentinel, .pinned], laidTests := true, laidLooks := .later }
def ManifestDiffsUptoCardSaid : Prop := Claim7.holds Tryd.pinned (.plain (OpenSpec.upto manifestDiffsSpec)) manifestDiffsUptoCard

/-- THE SECOND FORM's CARD OF 'tramwaylaw18.ManifestSome'. -/
def manifestSomeUptoCard : Claim7 := { stood := { row := manifestSomeUptoRow, standIns := [], harness := (true, "df09c2f3835106dceca3f047f8e975803da96da10611670f497c867d582e4bc2"), looks := false }, kinds := [], alts := [], laidByText := true, laidKinds := [.data, .sentinel, .pinned], laidTests := true, laidLooks := .later }
def ManifestSomeUptoCardSaid : Prop := Claim7.holds Tryd.pinned (.plain (OpenSpec.upto manifestSomeSpec)) manifestSomeUptoCard
end Rows
end Go.Proofs.YtcbjadecocggjaaDoor
