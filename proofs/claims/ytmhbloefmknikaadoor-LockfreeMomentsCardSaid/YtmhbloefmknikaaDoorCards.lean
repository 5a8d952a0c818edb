/-
  DERIVED. GIVEN WITH THE SEED: THE CARDS: each row of YtmhbloefmknikaaDoorRows.lean that lists a variable, with what it lists TIED to the program's text (the seventh form; the later family's looks); each row that meets fmt, with fmt's text TOLD by the authors' own Lean function (tested against real Go, not proved from fmt's source: count such statements apart). THE CARD IS WHAT COUNTS. Prove the row's statement (the work); the ties are given (YtmhbloefmknikaaDoorTie.lean); close each card by the builder's one call (the guide's Derived/Test/ToyasCard.lean, 'card_holds'). Laid BY PROGRAM, IN A SANDBOX (cutbox-door.mjs). By AI agents, Wed Nov 11 2026. No macro, syntax, notation, axiom, sorry.
-/
import Derived.Test.YtmhbloefmknikaaDoorRows
import GoSem.ClaimSeven
namespace Go.Proofs.YtmhbloefmknikaaDoor
namespace Rows

/-- THE TIED CARD OF 'skipgraphlaw11.LockedMoments'. -/
def lockedMomentsCard : Claim7 := { stood := { row := lockedMomentsRow, standIns := [], harness := (true, "cfb1a454fba17c42689121ae5f3cd6d21bb14148a847050bedd95f6685c64933"), looks := false }, kinds := [], alts := [], laidByText := true, laidKinds := [.data], laidTests := true, laidLooks := .later }
def LockedMomentsCardSaid : Prop := Claim7.holds Tryd.pinned (.plain (OpenSpec.ofChange lockedMomentsSpec)) lockedMomentsCard

/-- THE TIED CARD OF 'skipgraphlaw12.LockfreeMakes'. -/
def lockfreeMakesCard : Claim7 := { stood := { row := lockfreeMakesRow, standIns := [], harness := (true, "cfb1a454fba17c42689121ae5f3cd6d21bb14148a847050bedd95f6685c64933"), looks := false }, kinds := [], alts := [], laidByText := true, laidKinds := [.data], laidTests := true, laidLooks := .later }
def LockfreeMakesCardSaid : Prop := Claim7.holds Tryd.pinned (.plain (OpenSpec.ofChange lockfreeMakesSpec)) lockfreeMakesCard

/-- THE TIED CARD OF 'skipgraphlaw12.LockfreeKeeps'. -/
def lockfreeKeepsCard : Claim7 := { stood := { row := lockfreeKeepsRow, standIns := [], harness := (true, "cfb1a454fba17c42689121ae5f3cd6d21bb14148a847050bedd95f6685c64933"), looks := false }, kinds := [], alts := [], laidByText := true, laidKinds := [.data], laidTests := true, laidLooks := .later }
def LockfreeKeepsCardSaid : Prop := Claim7.holds Tryd.pinned (.plain (OpenSpec.ofChange lockfreeKeepsSpec)) lockfreeKeepsCard

/-- THE TIED CARD OF 'skipgraphlaw12.LockfreeChanges'. -/
def lockfreeChangesCard : Claim7 := { stood := { row := lockfreeChangesRow, standIns := [], harness := (true, "cfb1a454fba17c42689121ae5f3cd6d21bb14148a847050bedd95f6685c64933"), looks := false }, kinds := [], alts := [], laidByText := true, laidKinds := [.data], laidTests := true, laidLooks := .later }
def LockfreeChangesCardSaid : Prop := Claim7.holds Tryd.pinned (.plain (OpenSpec.ofChange lockfreeChangesSpec)) lockfreeChangesCard

/-- THE TIED CARD OF 'skipgraphlaw12.LockfreeMoments'. -/
def lockfreeMomentsCard : Claim7 := { stood := { row := lockfreeMomentsRow, standIns := [], harness := (true, "cfb1a454fba17c42689121ae5f3cd6d21bb14148a847050bedd95f6685c64933"), looks := false }, kinds := [], alts := [], laidByText := true, laidKinds := [.data], laidTests := true, laidLooks := .later }
def LockfreeMomentsCardSaid : Prop := Claim7.holds Tryd.pinned (.plain (OpenSpec.ofChange lockfreeMomentsSpec)) lockfreeMomentsCard

/-- THE TIED CARD OF 'skipgraphlaw12.LockfreeEnds'. -/
def lockfreeEndsCard : Claim7 := { stood := { row := lockfreeEndsRow, standIns := [], harness := (true, "cfb1a454fba17c42689121ae5f3cd6d21bb14148a847050bedd95f6685c64933"), looks := false }, kinds := [], alts := [], laidByText := true, laidKinds := [.data], laidTests := true, laidLooks := .later }
def LockfreeEndsCardSaid : Prop := Claim7.holds Tryd.pinned (.plain (OpenSpec.ofChange lockfreeEndsSpec)) lockfreeEndsCard

/-- THE TIED CARD OF 'skipgraphlaw12.LockfreeSerial'. -/
def lockfreeSerialCard : Claim7 := { stood := { row := lockfreeSerialRow, standIns := [], harness := (true, "cfb1a454fba17c42689121ae5f3cd6d21bb14148a847050bedd95f6685c64933"), looks := false }, kinds := [], alts := [], laidByText := true, laidKinds := [.data], laidTests := true, laidLooks := .later }
def LockfreeSerialCardSaid : Prop := Claim7.holds Tryd.pinned (.plain (OpenSpec.ofChange lockfreeSerialSpec)) lockfreeSerialCard

/-- THE SECOND FORM's CARD OF 'skipgraphlaw11.LockedMoments'. -/
def lockedMomentsUptoCard : Claim7 := { stood := { row := lockedMomentsUptoRow, standIns := [], harness := (true, "cfb1a454fba17c42689121ae5f3cd6d21bb14148a847050bedd95f6685c64933"), looks := false }, kinds := [], alts := [], laidByText := true, laidKinds := [.data], laidTests := true, laidLooks := .later }
def LockedMomentsUptoCardSaid : Prop := Claim7.holds Tryd.pinned (.plain (OpenSpec.upto lockedMomentsSpec)) lockedMomentsUptoCard

/-- THE SECOND FORM's CARD OF 'skipgraphlaw12.LockfreeMakes'. -/
def lockfreeMakesUptoCard : Claim7 := { stood := { row := lockfreeMakesUptoRow, standIns := [], harness := (true, "cfb1a454fba17c42689121ae5f3cd6d21bb14148a847050bedd95f6685c64933"), looks := false }, kinds := [], alts := [], laidByText := true, laidKinds := [.data], laidTests := true, laidLooks := .later }
def LockfreeMakesUptoCardSaid : Prop := Claim7.holds Tryd.pinned (.plain (OpenSpec.upto lockfreeMakesSpec)) lockfreeMakesUptoCard

/-- THE SECOND FORM's CARD OF 'skipgraphlaw12.LockfreeKeeps'. -/
def lockfreeKeepsUptoCard : Claim7 := { stood := { row := lockfreeKeepsUptoRow, standIns := [], harness := (true, "cfb1a454fba17c42689121ae5f3cd6d21bb14148a847050bedd95f6685c64933"), looks := false }, kinds := [], alts := [], laidByText := true, laidKinds := [.data], laidTests := true, laidLooks := .later }
def LockfreeKeepsUptoCardSaid : Prop := Claim7.holds Tryd.pinned (.plain (OpenSpec.upto lockfreeKeepsSpec)) lockfreeKeepsUptoCard

/-- THE SECOND FORM's CARD OF 'skipgraphlaw12.LockfreeChanges'. -/
def lockfreeChangesUptoCard : Claim7 := { stood := { row := lockfreeChangesUptoRow, standIns := [], harness := (true, "cfb1a454fba17c42689121ae5f3cd6d21bb14148a847050bedd95f6685c64933"), looks := false }, kinds := [], alts := [], laidByText := true, laidKinds := [.data], laidTests := true, laidLooks := .later }
def LockfreeChangesUptoCardSaid : Prop := Claim7.holds Tryd.pinned (.plain (OpenSpec.upto lockfreeChangesSpec)) lockfreeChangesUptoCard

/-- THE SECOND FORM's CARD OF 'skipgraphlaw12.LockfreeMoments'. -/
def lockfreeMomentsUptoCard : Claim7 := { stood := { row := lockfreeMomentsUptoRow, standIns := [], harness := (true, "cfb1a454fba17c42689121ae5f3cd6d21bb14148a847050bedd95f6685c64933"), looks := false }, kinds := [], alts := [], laidByText := true, laidKinds := [.data], laidTests := true, laidLooks := .later }
def LockfreeMomentsUptoCardSaid : Prop := Claim7.holds Tryd.pinned (.plain (OpenSpec.upto lockfreeMomentsSpec)) lockfreeMomentsUptoCard

/-- THE SECOND FORM's CARD OF 'skipgraphlaw12.LockfreeEnds'. -/
def lockfreeEndsUptoCard : Claim7 := { stood := { row := lockfreeEndsUptoRow, standIns := [], harness := (true, "cfb1a454fba17c42689121ae5f3cd6d21bb14148a847050bedd95f6685c64933"), looks := false }, kinds := [], alts := [], laidByText := true, laidKinds := [.data], laidTests := true, laidLooks := .later }
def LockfreeEndsUptoCardSaid : Prop := Claim7.holds Tryd.pinned (.plain (OpenSpec.upto lockfreeEndsSpec)) lockfreeEndsUptoCard

/-- THE SECOND FORM's CARD OF 'skipgraphlaw12.LockfreeSerial'. -/
def lockfreeSerialUptoCard : Claim7 := { stood := { row := lockfreeSerialUptoRow, standIns := [], harness := (true, "cfb1a454fba17c42689121ae5f3cd6d21bb14148a847050bedd95f6685c64933"), looks := false }, kinds := [], alts := [], laidByText := true, laidKinds := [.data], laidTests := true, laidLooks := .later }
def LockfreeSerialUptoCardSaid : Prop := Claim7.holds Tryd.pinned (.plain (OpenSpec.upto lockfreeSerialSpec)) lockfreeSerialUptoCard
end Rows
end Go.Proofs.YtmhbloefmknikaaDoor
