/-
  DERIVED. GIVEN WITH THE SEED: THE CARDS: each row of YtiaalbfdlejboaaDoorRows.lean that lists a variable, with what it lists TIED to the program's text (the seventh form; the later family's looks); each row that meets fmt, with fmt's text TOLD by the authors' own Lean function (tested against real Go, not proved from fmt's source: count such statements apart). THE CARD IS WHAT COUNTS. Prove the row's statement (the work); the ties are given (YtiaalbfdlejboaaDoorTie.lean); close each card by the builder's one call (the guide's Derived/Test/ToyasCard.lean, 'card_holds'). Laid BY PROGRAM, IN A SANDBOX (cutbox-door.mjs). By AI agents, Wed Nov 11 2026. No macro, syntax, notation, axiom, sorry.
-/
import Derived.Test.YtiaalbfdlejboaaDoorRows
import GoSem.ClaimSeven
namespace Go.Proofs.YtiaalbfdlejboaaDoor
namespace Rows

/-- THE TIED CARD OF 'skipgraphlaw3.WireNodes'. -/
def wireNodesCard : Claim7 := { stood := { row := wireNodesRow, standIns := [], harness := (true, "5430f722b4d286de013fe7a1a6824c00d9c33e952800e6f27da52a76cf2840d5"), looks := false }, kinds := [], alts := [], laidByText := true, laidKinds := [.data], laidTests := true, laidLooks := .later }
def WireNodesCardSaid : Prop := Claim7.holds Tryd.pinned (.plain (OpenSpec.ofChange wireNodesSpec)) wireNodesCard

/-- THE TIED CARD OF 'skipgraphlaw3.WireRoundTrip'. -/
def wireRoundTripCard : Claim7 := { stood := { row := wireRoundTripRow, standIns := [], harness := (true, "5430f722b4d286de013fe7a1a6824c00d9c33e952800e6f27da52a76cf2840d5"), looks := false }, kinds := [], alts := [], laidByText := true, laidKinds := [.data], laidTests := true, laidLooks := .later }
def WireRoundTripCardSaid : Prop := Claim7.holds Tryd.pinned (.plain (OpenSpec.ofChange wireRoundTripSpec)) wireRoundTripCard

/-- THE TIED CARD OF 'skipgraphlaw6.IdealBuilds'. -/
def idealBuildsCard : Claim7 := { stood := { row := idealBuildsRow, standIns := [], harness := (true, "5430f722b4d286de013fe7a1a6824c00d9c33e952800e6f27da52a76cf2840d5"), looks := false }, kinds := [], alts := [], laidByText := true, laidKinds := [.data], laidTests := true, laidLooks := .later }
def IdealBuildsCardSaid : Prop := Claim7.holds Tryd.pinned (.plain (OpenSpec.ofChange idealBuildsSpec)) idealBuildsCard

/-- THE TIED CARD OF 'skipgraphlaw6.IdealCompares'. -/
def idealComparesCard : Claim7 := { stood := { row := idealComparesRow, standIns := [], harness := (true, "5430f722b4d286de013fe7a1a6824c00d9c33e952800e6f27da52a76cf2840d5"), looks := false }, kinds := [], alts := [], laidByText := true, laidKinds := [.data], laidTests := true, laidLooks := .later }
def IdealComparesCardSaid : Prop := Claim7.holds Tryd.pinned (.plain (OpenSpec.ofChange idealComparesSpec)) idealComparesCard

/-- THE TIED CARD OF 'skipgraphlaw6.IdealMutual'. -/
def idealMutualCard : Claim7 := { stood := { row := idealMutualRow, standIns := [], harness := (true, "5430f722b4d286de013fe7a1a6824c00d9c33e952800e6f27da52a76cf2840d5"), looks := false }, kinds := [], alts := [], laidByText := true, laidKinds := [.data], laidTests := true, laidLooks := .later }
def IdealMutualCardSaid : Prop := Claim7.holds Tryd.pinned (.plain (OpenSpec.ofChange idealMutualSpec)) idealMutualCard

/-- THE TIED CARD OF 'skipgraphlaw6.IdealNested'. -/
def idealNestedCard : Claim7 := { stood := { row := idealNestedRow, standIns := [], harness := (true, "5430f722b4d286de013fe7a1a6824c00d9c33e952800e6f27da52a76cf2840d5"), looks := false }, kinds := [], alts := [], laidByText := true, laidKinds := [.data], laidTests := true, laidLooks := .later }
def IdealNestedCardSaid : Prop := Claim7.holds Tryd.pinned (.plain (OpenSpec.ofChange idealNestedSpec)) idealNestedCard

/-- THE TIED CARD OF 'skipgraphlaw6.IdealOrderless'. -/
def idealOrderlessCard : Claim7 := { stood := { row := idealOrderlessRow, standIns := [], harness := (true, "5430f722b4d286de013fe7a1a6824c00d9c33e952800e6f27da52a76cf2840d5"), looks := false }, kinds := [], alts := [], laidByText := true, laidKinds := [.data], laidTests := true, laidLooks := .later }
def IdealOrderlessCardSaid : Prop := Claim7.holds Tryd.pinned (.plain (OpenSpec.ofChange idealOrderlessSpec)) idealOrderlessCard

/-- THE TIED CARD OF 'skipgraphlaw6.IdealLocal'. -/
def idealLocalCard : Claim7 := { stood := { row := idealLocalRow, standIns := [], harness := (true, "5430f722b4d286de013fe7a1a6824c00d9c33e952800e6f27da52a76cf2840d5"), looks := false }, kinds := [], alts := [], laidByText := true, laidKinds := [.data], laidTests := true, laidLooks := .later }
def IdealLocalCardSaid : Prop := Claim7.holds Tryd.pinned (.plain (OpenSpec.ofChange idealLocalSpec)) idealLocalCard

/-- THE SECOND FORM's CARD OF 'skipgraphlaw3.WireNodes'. -/
def wireNodesUptoCard : Claim7 := { stood := { row := wireNodesUptoRow, standIns := [], harness := (true, "5430f722b4d286de013fe7a1a6824c00d9c33e952800e6f27da52a76cf2840d5"), looks := false }, kinds := [], alts := [], laidByText := true, laidKinds := [.data], laidTests := true, laidLooks := .later }
def WireNodesUptoCardSaid : Prop := Claim7.holds Tryd.pinned (.plain (OpenSpec.upto wireNodesSpec)) wireNodesUptoCard

/-- THE SECOND FORM's CARD OF 'skipgraphlaw3.WireRoundTrip'. -/
def wireRoundTripUptoCard : Claim7 := { stood := { row := wireRoundTripUptoRow, standIns := [], harness := (true, "5430f722b4d286de013fe7a1a6824c00d9c33e952800e6f27da52a76cf2840d5"), looks := false }, kinds := [], alts := [], laidByText := true, laidKinds := [.data], laidTests := true, laidLooks := .later }
def WireRoundTripUptoCardSaid : Prop := Claim7.holds Tryd.pinned (.plain (OpenSpec.upto wireRoundTripSpec)) wireRoundTripUptoCard

/-- THE SECOND FORM's CARD OF 'skipgraphlaw6.IdealBuilds'. -/
def idealBuildsUptoCard : Claim7 := { stood := { row := idealBuildsUptoRow, standIns := [], harness := (true, "5430f722b4d286de013fe7a1a6824c00d9c33e952800e6f27da52a76cf2840d5"), looks := false }, kinds := [], alts := [], laidByText := true, laidKinds := [.data], laidTests := true, laidLooks := .later }
def IdealBuildsUptoCardSaid : Prop := Claim7.holds Tryd.pinned (.plain (OpenSpec.upto idealBuildsSpec)) idealBuildsUptoCard

/-- THE SECOND FORM's CARD OF 'skipgraphlaw6.IdealCompares'. -/
def idealComparesUptoCard : Claim7 := { stood := { row := idealComparesUptoRow, standIns := [], harness := (true, "5430f722b4d286de013fe7a1a6824c00d9c33e952800e6f27da52a76cf2840d5"), looks := false }, kinds := [], alts := [], laidByText := true, laidKinds := [.data], laidTests := true, laidLooks := .later }
def IdealComparesUptoCardSaid : Prop := Claim7.holds Tryd.pinned (.plain (OpenSpec.upto idealComparesSpec)) idealComparesUptoCard

/-- THE SECOND FORM's CARD OF 'skipgraphlaw6.IdealMutual'. -/
def idealMutualUptoCard : Claim7 := { stood := { row := idealMutualUptoRow, standIns := [], harness := (true, "5430f722b4d286de013fe7a1a6824c00d9c33e952800e6f27da52a76cf2840d5"), looks := false }, kinds := [], alts := [], laidByText := true, laidKinds := [.data], laidTests := true, laidLooks := .later }
def IdealMutualUptoCardSaid : Prop := Claim7.holds Tryd.pinned (.plain (OpenSpec.upto idealMutualSpec)) idealMutualUptoCard

/-- THE SECOND FORM's CARD OF 'skipgraphlaw6.IdealNested'. -/
def idealNestedUptoCard : Claim7 := { stood := { row := idealNestedUptoRow, standIns := [], harness := (true, "5430f722b4d286de013fe7a1a6824c00d9c33e952800e6f27da52a76cf2840d5"), looks := false }, kinds := [], alts := [], laidByText := true, laidKinds := [.data], laidTests := true, laidLooks := .later }
def IdealNestedUptoCardSaid : Prop := Claim7.holds Tryd.pinned (.plain (OpenSpec.upto idealNestedSpec)) idealNestedUptoCard

/-- THE SECOND FORM's CARD OF 'skipgraphlaw6.IdealOrderless'. -/
def idealOrderlessUptoCard : Claim7 := { stood := { row := idealOrderlessUptoRow, standIns := [], harness := (true, "5430f722b4d286de013fe7a1a6824c00d9c33e952800e6f27da52a76cf2840d5"), looks := false }, kinds := [], alts := [], laidByText := true, laidKinds := [.data], laidTests := true, laidLooks := .later }
def IdealOrderlessUptoCardSaid : Prop := Claim7.holds Tryd.pinned (.plain (OpenSpec.upto idealOrderlessSpec)) idealOrderlessUptoCard

/-- THE SECOND FORM's CARD OF 'skipgraphlaw6.IdealLocal'. -/
def idealLocalUptoCard : Claim7 := { stood := { row := idealLocalUptoRow, standIns := [], harness := (true, "5430f722b4d286de013fe7a1a6824c00d9c33e952800e6f27da52a76cf2840d5"), looks := false }, kinds := [], alts := [], laidByText := true, laidKinds := [.data], laidTests := true, laidLooks := .later }
def IdealLocalUptoCardSaid : Prop := Claim7.holds Tryd.pinned (.plain (OpenSpec.upto idealLocalSpec)) idealLocalUptoCard
end Rows
end Go.Proofs.YtiaalbfdlejboaaDoor
