/-
  DERIVED. GIVEN WITH THE SEED: THE CARDS: each row of YtjokbdhineilcaaGreatDoorRows.lean that lists a variable, with what it lists TIED to the program's text (the seventh form; the later family's looks); each row that meets fmt, with fmt's text TOLD by the authors' own Lean function (tested against real Go, not proved from fmt's source: count such statements apart). THE CARD IS WHAT COUNTS. Prove the row's statement (the work); the ties are given (YtjokbdhineilcaaGreatDoorTie.lean); close each card by the builder's one call (the guide's Derived/Test/ToyasCard.lean, 'card_holds'). Laid BY PROGRAM, IN A SANDBOX (cutbox-door.mjs). By AI agents, Wed Nov 11 2026. No macro, syntax, notation, axiom, sorry.
-/
import Derived.Test.YtjokbdhineilcaaGreatDoorRows
import GoSem.ClaimSeven
namespace Go.Proofs.YtjokbdhineilcaaGreatDoor
namespace Rows

/-- THE TIED CARD OF 'skipgraphlaw10.SpliceInserts'. -/
def spliceInsertsCard : Claim7 := { stood := { row := spliceInsertsRow, standIns := [], harness := (true, "c6bdc06990963e7e7311f85124f3c918171ab12ef60a7f5c72bec1022052f1d9"), looks := false }, kinds := [], alts := [], laidByText := true, laidKinds := [.data], laidTests := true, laidLooks := .later }
def SpliceInsertsCardSaid : Prop := Claim7.holds Tryz.pinned (.plain (OpenSpec.ofChange spliceInsertsSpec)) spliceInsertsCard

/-- THE TIED CARD OF 'skipgraphlaw10.SpliceRemoves'. -/
def spliceRemovesCard : Claim7 := { stood := { row := spliceRemovesRow, standIns := [], harness := (true, "c6bdc06990963e7e7311f85124f3c918171ab12ef60a7f5c72bec1022052f1d9"), looks := false }, kinds := [], alts := [], laidByText := true, laidKinds := [.data], laidTests := true, laidLooks := .later }
def SpliceRemovesCardSaid : Prop := Claim7.holds Tryz.pinned (.plain (OpenSpec.ofChange spliceRemovesSpec)) spliceRemovesCard

/-- THE SECOND FORM's CARD OF 'skipgraphlaw10.SpliceInserts'. -/
def spliceInsertsUptoCard : Claim7 := { stood := { row := spliceInsertsUptoRow, standIns := [], harness := (true, "c6bdc06990963e7e7311f85124f3c918171ab12ef60a7f5c72bec1022052f1d9"), looks := false }, kinds := [], alts := [], laidByText := true, laidKinds := [.data], laidTests := true, laidLooks := .later }
def SpliceInsertsUptoCardSaid : Prop := Claim7.holds Tryz.pinned (.plain (OpenSpec.upto spliceInsertsSpec)) spliceInsertsUptoCard

/-- THE SECOND FORM's CARD OF 'skipgraphlaw10.SpliceRemoves'. -/
def spliceRemovesUptoCard : Claim7 := { stood := { row := spliceRemovesUptoRow, standIns := [], harness := (true, "c6bdc06990963e7e7311f85124f3c918171ab12ef60a7f5c72bec1022052f1d9"), looks := false }, kinds := [], alts := [], laidByText := true, laidKinds := [.data], laidTests := true, laidLooks := .later }
def SpliceRemovesUptoCardSaid : Prop := Claim7.holds Tryz.pinned (.plain (OpenSpec.upto spliceRemovesSpec)) spliceRemovesUptoCard
end Rows
end Go.Proofs.YtjokbdhineilcaaGreatDoor
