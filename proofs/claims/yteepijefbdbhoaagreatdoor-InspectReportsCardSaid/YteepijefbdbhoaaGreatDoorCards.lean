/-
  DERIVED. GIVEN WITH THE SEED: THE CARDS: each row of YteepijefbdbhoaaGreatDoorRows.lean that lists a variable, with what it lists TIED to the program's text (the seventh form; the later family's looks); each row that meets fmt, with fmt's text TOLD by the authors' own Lean function (tested against real Go, not proved from fmt's source: count such statements apart). THE CARD IS WHAT COUNTS. Prove the row's statement (the work); the ties are given (YteepijefbdbhoaaGreatDoorTie.lean); close each card by the builder's one call (the guide's Derived/Test/ToyasCard.lean, 'card_holds'). Laid BY PROGRAM, IN A SANDBOX (cutbox-door.mjs). By AI agents, Wed Nov 11 2026. No macro, syntax, notation, axiom, sorry.
-/
import Derived.Test.YteepijefbdbhoaaGreatDoorRows
import GoSem.ClaimSeven
namespace Go.Proofs.YteepijefbdbhoaaGreatDoor
namespace Rows

/-- THE TIED CARD OF 'skipgraphlaw7.InspectReports'. -/
def inspectReportsCard : Claim7 := { stood := { row := inspectReportsRow, standIns := [], harness := (true, "f3936110ca1f5a408877ec3295544b0b8998f65bfbd6e83bd4f1f6b949ba21ba"), looks := false }, kinds := [], alts := [], laidByText := true, laidKinds := [.data, .data], laidTests := true, laidLooks := .later }
def InspectReportsCardSaid : Prop := Claim7.holds Tryz.pinned (.plain (OpenSpec.ofChange inspectReportsSpec)) inspectReportsCard

/-- THE TIED CARD OF 'skipgraphlaw7.InspectClean'. -/
def inspectCleanCard : Claim7 := { stood := { row := inspectCleanRow, standIns := [], harness := (true, "f3936110ca1f5a408877ec3295544b0b8998f65bfbd6e83bd4f1f6b949ba21ba"), looks := false }, kinds := [], alts := [], laidByText := true, laidKinds := [.data, .data], laidTests := true, laidLooks := .later }
def InspectCleanCardSaid : Prop := Claim7.holds Tryz.pinned (.plain (OpenSpec.ofChange inspectCleanSpec)) inspectCleanCard

/-- THE TIED CARD OF 'skipgraphlaw7.InspectFinds'. -/
def inspectFindsCard : Claim7 := { stood := { row := inspectFindsRow, standIns := [], harness := (true, "f3936110ca1f5a408877ec3295544b0b8998f65bfbd6e83bd4f1f6b949ba21ba"), looks := false }, kinds := [], alts := [], laidByText := true, laidKinds := [.data, .data], laidTests := true, laidLooks := .later }
def InspectFindsCardSaid : Prop := Claim7.holds Tryz.pinned (.plain (OpenSpec.ofChange inspectFindsSpec)) inspectFindsCard

/-- THE TIED CARD OF 'skipgraphlaw7.InspectParts'. -/
def inspectPartsCard : Claim7 := { stood := { row := inspectPartsRow, standIns := [], harness := (true, "f3936110ca1f5a408877ec3295544b0b8998f65bfbd6e83bd4f1f6b949ba21ba"), looks := false }, kinds := [], alts := [], laidByText := true, laidKinds := [.data, .data], laidTests := true, laidLooks := .later }
def InspectPartsCardSaid : Prop := Claim7.holds Tryz.pinned (.plain (OpenSpec.ofChange inspectPartsSpec)) inspectPartsCard

/-- THE TIED CARD OF 'skipgraphlaw7.InspectJoins'. -/
def inspectJoinsCard : Claim7 := { stood := { row := inspectJoinsRow, standIns := [], harness := (true, "f3936110ca1f5a408877ec3295544b0b8998f65bfbd6e83bd4f1f6b949ba21ba"), looks := false }, kinds := [], alts := [], laidByText := true, laidKinds := [.data, .data], laidTests := true, laidLooks := .later }
def InspectJoinsCardSaid : Prop := Claim7.holds Tryz.pinned (.plain (OpenSpec.ofChange inspectJoinsSpec)) inspectJoinsCard

/-- THE SECOND FORM's CARD OF 'skipgraphlaw7.InspectReports'. -/
def inspectReportsUptoCard : Claim7 := { stood := { row := inspectReportsUptoRow, standIns := [], harness := (true, "f3936110ca1f5a408877ec3295544b0b8998f65bfbd6e83bd4f1f6b949ba21ba"), looks := false }, kinds := [], alts := [], laidByText := true, laidKinds := [.data, .data], laidTests := true, laidLooks := .later }
def InspectReportsUptoCardSaid : Prop := Claim7.holds Tryz.pinned (.plain (OpenSpec.upto inspectReportsSpec)) inspectReportsUptoCard

/-- THE SECOND FORM's CARD OF 'skipgraphlaw7.InspectClean'. -/
def inspectCleanUptoCard : Claim7 := { stood := { row := inspectCleanUptoRow, standIns := [], harness := (true, "f3936110ca1f5a408877ec3295544b0b8998f65bfbd6e83bd4f1f6b949ba21ba"), looks := false }, kinds := [], alts := [], laidByText := true, laidKinds := [.data, .data], laidTests := true, laidLooks := .later }
def InspectCleanUptoCardSaid : Prop := Claim7.holds Tryz.pinned (.plain (OpenSpec.upto inspectCleanSpec)) inspectCleanUptoCard

/-- THE SECOND FORM's CARD OF 'skipgraphlaw7.InspectFinds'. -/
def inspectFindsUptoCard : Claim7 := { stood := { row := inspectFindsUptoRow, standIns := [], harness := (true, "f3936110ca1f5a408877ec3295544b0b8998f65bfbd6e83bd4f1f6b949ba21ba"), looks := false }, kinds := [], alts := [], laidByText := true, laidKinds := [.data, .data], laidTests := true, laidLooks := .later }
def InspectFindsUptoCardSaid : Prop := Claim7.holds Tryz.pinned (.plain (OpenSpec.upto inspectFindsSpec)) inspectFindsUptoCard

/-- THE SECOND FORM's CARD OF 'skipgraphlaw7.InspectParts'. -/
def inspectPartsUptoCard : Claim7 := { stood := { row := inspectPartsUptoRow, standIns := [], harness := (true, "f3936110ca1f5a408877ec3295544b0b8998f65bfbd6e83bd4f1f6b949ba21ba"), looks := false }, kinds := [], alts := [], laidByText := true, laidKinds := [.data, .data], laidTests := true, laidLooks := .later }
def InspectPartsUptoCardSaid : Prop := Claim7.holds Tryz.pinned (.plain (OpenSpec.upto inspectPartsSpec)) inspectPartsUptoCard

/-- THE SECOND FORM's CARD OF 'skipgraphlaw7.InspectJoins'. -/
def inspectJoinsUptoCard : Claim7 := { stood := { row := inspectJoinsUptoRow, standIns := [], harness := (true, "f3936110ca1f5a408877ec3295544b0b8998f65bfbd6e83bd4f1f6b949ba21ba"), looks := false }, kinds := [], alts := [], laidByText := true, laidKinds := [.data, .data], laidTests := true, laidLooks := .later }
def InspectJoinsUptoCardSaid : Prop := Claim7.holds Tryz.pinned (.plain (OpenSpec.upto inspectJoinsSpec)) inspectJoinsUptoCard
end Rows
end Go.Proofs.YteepijefbdbhoaaGreatDoor
