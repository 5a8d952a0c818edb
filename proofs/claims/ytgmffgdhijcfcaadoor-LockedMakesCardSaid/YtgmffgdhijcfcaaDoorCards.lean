/-
  DERIVED. GIVEN WITH THE SEED: THE CARDS: each row of YtgmffgdhijcfcaaDoorRows.lean that lists a variable, with what it lists TIED to the program's text (the seventh form; the later family's looks); each row that meets fmt, with fmt's text TOLD by the authors' own Lean function (tested against real Go, not proved from fmt's source: count such statements apart). THE CARD IS WHAT COUNTS. Prove the row's statement (the work); the ties are given (YtgmffgdhijcfcaaDoorTie.lean); close each card by the builder's one call (the guide's Derived/Test/ToyasCard.lean, 'card_holds'). Laid BY PROGRAM, IN A SANDBOX (cutbox-door.mjs). By AI agents, Wed Nov 11 2026. No macro, syntax, notation, axiom, sorry.
-/
import Derived.Test.YtgmffgdhijcfcaaDoorRows
import GoSem.ClaimSeven
namespace Go.Proofs.YtgmffgdhijcfcaaDoor
namespace Rows

/-- THE TIED CARD OF 'skipgraphlaw11.LockedMakes'. -/
def lockedMakesCard : Claim7 := { stood := { row := lockedMakesRow, standIns := [], harness := (true, "a1d6e2fe8842c35360b546f9c526c8da18a7d9d946478bdd37b6bd635bea8437"), looks := false }, kinds := [], alts := [], laidByText := true, laidKinds := [.data], laidTests := true, laidLooks := .later }
def LockedMakesCardSaid : Prop := Claim7.holds Tryd.pinned (.plain (OpenSpec.ofChange lockedMakesSpec)) lockedMakesCard

/-- THE TIED CARD OF 'skipgraphlaw11.LockedKeeps'. -/
def lockedKeepsCard : Claim7 := { stood := { row := lockedKeepsRow, standIns := [], harness := (true, "a1d6e2fe8842c35360b546f9c526c8da18a7d9d946478bdd37b6bd635bea8437"), looks := false }, kinds := [], alts := [], laidByText := true, laidKinds := [.data], laidTests := true, laidLooks := .later }
def LockedKeepsCardSaid : Prop := Claim7.holds Tryd.pinned (.plain (OpenSpec.ofChange lockedKeepsSpec)) lockedKeepsCard

/-- THE TIED CARD OF 'skipgraphlaw11.LockedChanges'. -/
def lockedChangesCard : Claim7 := { stood := { row := lockedChangesRow, standIns := [], harness := (true, "a1d6e2fe8842c35360b546f9c526c8da18a7d9d946478bdd37b6bd635bea8437"), looks := false }, kinds := [], alts := [], laidByText := true, laidKinds := [.data], laidTests := true, laidLooks := .later }
def LockedChangesCardSaid : Prop := Claim7.holds Tryd.pinned (.plain (OpenSpec.ofChange lockedChangesSpec)) lockedChangesCard

/-- THE TIED CARD OF 'skipgraphlaw11.LockedMoments'. -/
def lockedMomentsCard : Claim7 := { stood := { row := lockedMomentsRow, standIns := [], harness := (true, "a1d6e2fe8842c35360b546f9c526c8da18a7d9d946478bdd37b6bd635bea8437"), looks := false }, kinds := [], alts := [], laidByText := true, laidKinds := [.data], laidTests := true, laidLooks := .later }
def LockedMomentsCardSaid : Prop := Claim7.holds Tryd.pinned (.plain (OpenSpec.ofChange lockedMomentsSpec)) lockedMomentsCard

/-- THE TIED CARD OF 'skipgraphlaw11.LockedEnds'. -/
def lockedEndsCard : Claim7 := { stood := { row := lockedEndsRow, standIns := [], harness := (true, "a1d6e2fe8842c35360b546f9c526c8da18a7d9d946478bdd37b6bd635bea8437"), looks := false }, kinds := [], alts := [], laidByText := true, laidKinds := [.data], laidTests := true, laidLooks := .later }
def LockedEndsCardSaid : Prop := Claim7.holds Tryd.pinned (.plain (OpenSpec.ofChange lockedEndsSpec)) lockedEndsCard

/-- THE TIED CARD OF 'skipgraphlaw11.LockedSerial'. -/
def lockedSerialCard : Claim7 := { stood := { row := lockedSerialRow, standIns := [], harness := (true, "a1d6e2fe8842c35360b546f9c526c8da18a7d9d946478bdd37b6bd635bea8437"), looks := false }, kinds := [], alts := [], laidByText := true, laidKinds := [.data], laidTests := true, laidLooks := .later }
def LockedSerialCardSaid : Prop := Claim7.holds Tryd.pinned (.plain (OpenSpec.ofChange lockedSerialSpec)) lockedSerialCard

/-- THE SECOND FORM's CARD OF 'skipgraphlaw11.LockedMakes'. -/
def lockedMakesUptoCard : Claim7 := { stood := { row := lockedMakesUptoRow, standIns := [], harness := (true, "a1d6e2fe8842c35360b546f9c526c8da18a7d9d946478bdd37b6bd635bea8437"), looks := false }, kinds := [], alts := [], laidByText := true, laidKinds := [.data], laidTests := true, laidLooks := .later }
def LockedMakesUptoCardSaid : Prop := Claim7.holds Tryd.pinned (.plain (OpenSpec.upto lockedMakesSpec)) lockedMakesUptoCard

/-- THE SECOND FORM's CARD OF 'skipgraphlaw11.LockedKeeps'. -/
def lockedKeepsUptoCard : Claim7 := { stood := { row := lockedKeepsUptoRow, standIns := [], harness := (true, "a1d6e2fe8842c35360b546f9c526c8da18a7d9d946478bdd37b6bd635bea8437"), looks := false }, kinds := [], alts := [], laidByText := true, laidKinds := [.data], laidTests := true, laidLooks := .later }
def LockedKeepsUptoCardSaid : Prop := Claim7.holds Tryd.pinned (.plain (OpenSpec.upto lockedKeepsSpec)) lockedKeepsUptoCard

/-- THE SECOND FORM's CARD OF 'skipgraphlaw11.LockedChanges'. -/
def lockedChangesUptoCard : Claim7 := { stood := { row := lockedChangesUptoRow, standIns := [], harness := (true, "a1d6e2fe8842c35360b546f9c526c8da18a7d9d946478bdd37b6bd635bea8437"), looks := false }, kinds := [], alts := [], laidByText := true, laidKinds := [.data], laidTests := true, laidLooks := .later }
def LockedChangesUptoCardSaid : Prop := Claim7.holds Tryd.pinned (.plain (OpenSpec.upto lockedChangesSpec)) lockedChangesUptoCard

/-- THE SECOND FORM's CARD OF 'skipgraphlaw11.LockedMoments'. -/
def lockedMomentsUptoCard : Claim7 := { stood := { row := lockedMomentsUptoRow, standIns := [], harness := (true, "a1d6e2fe8842c35360b546f9c526c8da18a7d9d946478bdd37b6bd635bea8437"), looks := false }, kinds := [], alts := [], laidByText := true, laidKinds := [.data], laidTests := true, laidLooks := .later }
def LockedMomentsUptoCardSaid : Prop := Claim7.holds Tryd.pinned (.plain (OpenSpec.upto lockedMomentsSpec)) lockedMomentsUptoCard

/-- THE SECOND FORM's CARD OF 'skipgraphlaw11.LockedEnds'. -/
def lockedEndsUptoCard : Claim7 := { stood := { row := lockedEndsUptoRow, standIns := [], harness := (true, "a1d6e2fe8842c35360b546f9c526c8da18a7d9d946478bdd37b6bd635bea8437"), looks := false }, kinds := [], alts := [], laidByText := true, laidKinds := [.data], laidTests := true, laidLooks := .later }
def LockedEndsUptoCardSaid : Prop := Claim7.holds Tryd.pinned (.plain (OpenSpec.upto lockedEndsSpec)) lockedEndsUptoCard

/-- THE SECOND FORM's CARD OF 'skipgraphlaw11.LockedSerial'. -/
def lockedSerialUptoCard : Claim7 := { stood := { row := lockedSerialUptoRow, standIns := [], harness := (true, "a1d6e2fe8842c35360b546f9c526c8da18a7d9d946478bdd37b6bd635bea8437"), looks := false }, kinds := [], alts := [], laidByText := true, laidKinds := [.data], laidTests := true, laidLooks := .later }
def LockedSerialUptoCardSaid : Prop := Claim7.holds Tryd.pinned (.plain (OpenSpec.upto lockedSerialSpec)) lockedSerialUptoCard
end Rows
end Go.Proofs.YtgmffgdhijcfcaaDoor
