/-
  DERIVED. GIVEN WITH THE SEED: THE CARDS: each row of YtmhimkojegkalaaDoorRows.lean that lists a variable, with what it lists TIED to the program's text (the seventh form; the later family's looks); each row that meets fmt, with fmt's text TOLD by the authors' own Lean function (tested against real Go, not proved from fmt's source: count such statements apart). THE CARD IS WHAT COUNTS. Prove the row's statement (the work); the ties are given (YtmhimkojegkalaaDoorTie.lean); close each card by the builder's one call (the guide's Derived/Test/ToyasCard.lean, 'card_holds'). Laid BY PROGRAM, IN A SANDBOX (cutbox-door.mjs). By AI agents, Wed Nov 11 2026. No macro, syntax, notation, axiom, sorry.
-/
import Derived.Test.YtmhimkojegkalaaDoorRows
import GoSem.ClaimSeven
namespace Go.Proofs.YtmhimkojegkalaaDoor
namespace Rows

/-- THE TIED CARD OF 'skipgraphlaw3.WireNodes'. -/
def wireNodesCard : Claim7 := { stood := { row := wireNodesRow, standIns := [], harness := (true, "f300a3c7b02c461af0dff1c87a7b9abd46c65b3df6b6f57c9327cedb5afaa1a9"), looks := false }, kinds := [], alts := [], laidByText := true, laidKinds := [.data], laidTests := true, laidLooks := .later }
def WireNodesCardSaid : Prop := Claim7.holds Tryd.pinned (.plain (OpenSpec.ofChange wireNodesSpec)) wireNodesCard

/-- THE TIED CARD OF 'skipgraphlaw3.WireRoundTrip'. -/
def wireRoundTripCard : Claim7 := { stood := { row := wireRoundTripRow, standIns := [], harness := (true, "f300a3c7b02c461af0dff1c87a7b9abd46c65b3df6b6f57c9327cedb5afaa1a9"), looks := false }, kinds := [], alts := [], laidByText := true, laidKinds := [.data], laidTests := true, laidLooks := .later }
def WireRoundTripCardSaid : Prop := Claim7.holds Tryd.pinned (.plain (OpenSpec.ofChange wireRoundTripSpec)) wireRoundTripCard

/-- THE TIED CARD OF 'skipgraphlaw6.IdealCompares'. -/
def idealComparesCard : Claim7 := { stood := { row := idealComparesRow, standIns := [], harness := (true, "f300a3c7b02c461af0dff1c87a7b9abd46c65b3df6b6f57c9327cedb5afaa1a9"), looks := false }, kinds := [], alts := [], laidByText := true, laidKinds := [.data], laidTests := true, laidLooks := .later }
def IdealComparesCardSaid : Prop := Claim7.holds Tryd.pinned (.plain (OpenSpec.ofChange idealComparesSpec)) idealComparesCard

/-- THE SECOND FORM's CARD OF 'skipgraphlaw3.WireNodes'. -/
def wireNodesUptoCard : Claim7 := { stood := { row := wireNodesUptoRow, standIns := [], harness := (true, "f300a3c7b02c461af0dff1c87a7b9abd46c65b3df6b6f57c9327cedb5afaa1a9"), looks := false }, kinds := [], alts := [], laidByText := true, laidKinds := [.data], laidTests := true, laidLooks := .later }
def WireNodesUptoCardSaid : Prop := Claim7.holds Tryd.pinned (.plain (OpenSpec.upto wireNodesSpec)) wireNodesUptoCard

/-- THE SECOND FORM's CARD OF 'skipgraphlaw3.WireRoundTrip'. -/
def wireRoundTripUptoCard : Claim7 := { stood := { row := wireRoundTripUptoRow, standIns := [], harness := (true, "f300a3c7b02c461af0dff1c87a7b9abd46c65b3df6b6f57c9327cedb5afaa1a9"), looks := false }, kinds := [], alts := [], laidByText := true, laidKinds := [.data], laidTests := true, laidLooks := .later }
def WireRoundTripUptoCardSaid : Prop := Claim7.holds Tryd.pinned (.plain (OpenSpec.upto wireRoundTripSpec)) wireRoundTripUptoCard

/-- THE SECOND FORM's CARD OF 'skipgraphlaw6.IdealCompares'. -/
def idealComparesUptoCard : Claim7 := { stood := { row := idealComparesUptoRow, standIns := [], harness := (true, "f300a3c7b02c461af0dff1c87a7b9abd46c65b3df6b6f57c9327cedb5afaa1a9"), looks := false }, kinds := [], alts := [], laidByText := true, laidKinds := [.data], laidTests := true, laidLooks := .later }
def IdealComparesUptoCardSaid : Prop := Claim7.holds Tryd.pinned (.plain (OpenSpec.upto idealComparesSpec)) idealComparesUptoCard
end Rows
end Go.Proofs.YtmhimkojegkalaaDoor
