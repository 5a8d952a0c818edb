/-
  DERIVED. GIVEN WITH THE SEED: THE CARDS: each row of YtlnmpiigmedgkaaDoorRows.lean that lists a variable, with what it lists TIED to the program's text (the seventh form; the later family's looks); each row that meets fmt, with fmt's text TOLD by the authors' own Lean function (tested against real Go, not proved from fmt's source: count such statements apart). THE CARD IS WHAT COUNTS. Prove the row's statement (the work); the ties are given (YtlnmpiigmedgkaaDoorTie.lean); close each card by the builder's one call (the guide's Derived/Test/ToyasCard.lean, 'card_holds'). Laid BY PROGRAM, IN A SANDBOX (cutbox-door.mjs). By AI agents, Wed Nov 11 2026. No macro, syntax, notation, axiom, sorry.
-/
import Derived.Test.YtlnmpiigmedgkaaDoorRows
import GoSem.ClaimSeven
namespace Go.Proofs.YtlnmpiigmedgkaaDoor
namespace Rows

/-- THE TIED CARD OF 'skipgraphlaw2.CompositeEncodes'. -/
def compositeEncodesCard : Claim7 := { stood := { row := compositeEncodesRow, standIns := [], harness := (true, "5c71884023892da53a44a4ab3918c31dd9a912ed866884e47090d8792f1fb2f0"), looks := false }, kinds := [], alts := [], laidByText := true, laidKinds := [.data], laidTests := true, laidLooks := .later }
def CompositeEncodesCardSaid : Prop := Claim7.holds Tryd.pinned (.plain (OpenSpec.ofChange compositeEncodesSpec)) compositeEncodesCard

/-- THE TIED CARD OF 'skipgraphlaw2.CompositeDecodes'. -/
def compositeDecodesCard : Claim7 := { stood := { row := compositeDecodesRow, standIns := [], harness := (true, "5c71884023892da53a44a4ab3918c31dd9a912ed866884e47090d8792f1fb2f0"), looks := false }, kinds := [], alts := [], laidByText := true, laidKinds := [.data], laidTests := true, laidLooks := .later }
def CompositeDecodesCardSaid : Prop := Claim7.holds Tryd.pinned (.plain (OpenSpec.ofChange compositeDecodesSpec)) compositeDecodesCard

/-- THE TIED CARD OF 'skipgraphlaw2.CompositeOrder'. -/
def compositeOrderCard : Claim7 := { stood := { row := compositeOrderRow, standIns := [], harness := (true, "5c71884023892da53a44a4ab3918c31dd9a912ed866884e47090d8792f1fb2f0"), looks := false }, kinds := [], alts := [], laidByText := true, laidKinds := [.data], laidTests := true, laidLooks := .later }
def CompositeOrderCardSaid : Prop := Claim7.holds Tryd.pinned (.plain (OpenSpec.ofChange compositeOrderSpec)) compositeOrderCard

/-- THE TIED CARD OF 'skipgraphlaw2.CompositeRoundTrip'. -/
def compositeRoundTripCard : Claim7 := { stood := { row := compositeRoundTripRow, standIns := [], harness := (true, "5c71884023892da53a44a4ab3918c31dd9a912ed866884e47090d8792f1fb2f0"), looks := false }, kinds := [], alts := [], laidByText := true, laidKinds := [.data], laidTests := true, laidLooks := .later }
def CompositeRoundTripCardSaid : Prop := Claim7.holds Tryd.pinned (.plain (OpenSpec.ofChange compositeRoundTripSpec)) compositeRoundTripCard

/-- THE TIED CARD OF 'skipgraphlaw2.CompositePrefixes'. -/
def compositePrefixesCard : Claim7 := { stood := { row := compositePrefixesRow, standIns := [], harness := (true, "5c71884023892da53a44a4ab3918c31dd9a912ed866884e47090d8792f1fb2f0"), looks := false }, kinds := [], alts := [], laidByText := true, laidKinds := [.data], laidTests := true, laidLooks := .later }
def CompositePrefixesCardSaid : Prop := Claim7.holds Tryd.pinned (.plain (OpenSpec.ofChange compositePrefixesSpec)) compositePrefixesCard

/-- THE TIED CARD OF 'skipgraphlaw3.WireNodes'. -/
def wireNodesCard : Claim7 := { stood := { row := wireNodesRow, standIns := [], harness := (true, "5c71884023892da53a44a4ab3918c31dd9a912ed866884e47090d8792f1fb2f0"), looks := false }, kinds := [], alts := [], laidByText := true, laidKinds := [.data], laidTests := true, laidLooks := .later }
def WireNodesCardSaid : Prop := Claim7.holds Tryd.pinned (.plain (OpenSpec.ofChange wireNodesSpec)) wireNodesCard

/-- THE TIED CARD OF 'skipgraphlaw3.WireRoundTrip'. -/
def wireRoundTripCard : Claim7 := { stood := { row := wireRoundTripRow, standIns := [], harness := (true, "5c71884023892da53a44a4ab3918c31dd9a912ed866884e47090d8792f1fb2f0"), looks := false }, kinds := [], alts := [], laidByText := true, laidKinds := [.data], laidTests := true, laidLooks := .later }
def WireRoundTripCardSaid : Prop := Claim7.holds Tryd.pinned (.plain (OpenSpec.ofChange wireRoundTripSpec)) wireRoundTripCard

/-- THE TIED CARD OF 'skipgraphlaw4.WordBits'. -/
def wordBitsCard : Claim7 := { stood := { row := wordBitsRow, standIns := [], harness := (true, "5c71884023892da53a44a4ab3918c31dd9a912ed866884e47090d8792f1fb2f0"), looks := false }, kinds := [], alts := [], laidByText := true, laidKinds := [.data], laidTests := true, laidLooks := .later }
def WordBitsCardSaid : Prop := Claim7.holds Tryd.pinned (.plain (OpenSpec.ofChange wordBitsSpec)) wordBitsCard

/-- THE TIED CARD OF 'skipgraphlaw4.WordDraws'. -/
def wordDrawsCard : Claim7 := { stood := { row := wordDrawsRow, standIns := [], harness := (true, "5c71884023892da53a44a4ab3918c31dd9a912ed866884e47090d8792f1fb2f0"), looks := false }, kinds := [], alts := [], laidByText := true, laidKinds := [.data], laidTests := true, laidLooks := .later }
def WordDrawsCardSaid : Prop := Claim7.holds Tryd.pinned (.plain (OpenSpec.ofChange wordDrawsSpec)) wordDrawsCard

/-- THE TIED CARD OF 'skipgraphlaw4.WordGroups'. -/
def wordGroupsCard : Claim7 := { stood := { row := wordGroupsRow, standIns := [], harness := (true, "5c71884023892da53a44a4ab3918c31dd9a912ed866884e47090d8792f1fb2f0"), looks := false }, kinds := [], alts := [], laidByText := true, laidKinds := [.data, .data], laidTests := true, laidLooks := .later }
def WordGroupsCardSaid : Prop := Claim7.holds Tryd.pinned (.plain (OpenSpec.ofChange wordGroupsSpec)) wordGroupsCard

/-- THE TIED CARD OF 'skipgraphlaw4.WordEquivalence'. -/
def wordEquivalenceCard : Claim7 := { stood := { row := wordEquivalenceRow, standIns := [], harness := (true, "5c71884023892da53a44a4ab3918c31dd9a912ed866884e47090d8792f1fb2f0"), looks := false }, kinds := [], alts := [], laidByText := true, laidKinds := [.data], laidTests := true, laidLooks := .later }
def WordEquivalenceCardSaid : Prop := Claim7.holds Tryd.pinned (.plain (OpenSpec.ofChange wordEquivalenceSpec)) wordEquivalenceCard

/-- THE TIED CARD OF 'skipgraphlaw4.WordSplits'. -/
def wordSplitsCard : Claim7 := { stood := { row := wordSplitsRow, standIns := [], harness := (true, "5c71884023892da53a44a4ab3918c31dd9a912ed866884e47090d8792f1fb2f0"), looks := false }, kinds := [], alts := [], laidByText := true, laidKinds := [.data, .data], laidTests := true, laidLooks := .later }
def WordSplitsCardSaid : Prop := Claim7.holds Tryd.pinned (.plain (OpenSpec.ofChange wordSplitsSpec)) wordSplitsCard

/-- THE SECOND FORM's CARD OF 'skipgraphlaw2.CompositeEncodes'. -/
def compositeEncodesUptoCard : Claim7 := { stood := { row := compositeEncodesUptoRow, standIns := [], harness := (true, "5c71884023892da53a44a4ab3918c31dd9a912ed866884e47090d8792f1fb2f0"), looks := false }, kinds := [], alts := [], laidByText := true, laidKinds := [.data], laidTests := true, laidLooks := .later }
def CompositeEncodesUptoCardSaid : Prop := Claim7.holds Tryd.pinned (.plain (OpenSpec.upto compositeEncodesSpec)) compositeEncodesUptoCard

/-- THE SECOND FORM's CARD OF 'skipgraphlaw2.CompositeDecodes'. -/
def compositeDecodesUptoCard : Claim7 := { stood := { row := compositeDecodesUptoRow, standIns := [], harness := (true, "5c71884023892da53a44a4ab3918c31dd9a912ed866884e47090d8792f1fb2f0"), looks := false }, kinds := [], alts := [], laidByText := true, laidKinds := [.data], laidTests := true, laidLooks := .later }
def CompositeDecodesUptoCardSaid : Prop := Claim7.holds Tryd.pinned (.plain (OpenSpec.upto compositeDecodesSpec)) compositeDecodesUptoCard

/-- THE SECOND FORM's CARD OF 'skipgraphlaw2.CompositeOrder'. -/
def compositeOrderUptoCard : Claim7 := { stood := { row := compositeOrderUptoRow, standIns := [], harness := (true, "5c71884023892da53a44a4ab3918c31dd9a912ed866884e47090d8792f1fb2f0"), looks := false }, kinds := [], alts := [], laidByText := true, laidKinds := [.data], laidTests := true, laidLooks := .later }
def CompositeOrderUptoCardSaid : Prop := Claim7.holds Tryd.pinned (.plain (OpenSpec.upto compositeOrderSpec)) compositeOrderUptoCard

/-- THE SECOND FORM's CARD OF 'skipgraphlaw2.CompositeRoundTrip'. -/
def compositeRoundTripUptoCard : Claim7 := { stood := { row := compositeRoundTripUptoRow, standIns := [], harness := (true, "5c71884023892da53a44a4ab3918c31dd9a912ed866884e47090d8792f1fb2f0"), looks := false }, kinds := [], alts := [], laidByText := true, laidKinds := [.data], laidTests := true, laidLooks := .later }
def CompositeRoundTripUptoCardSaid : Prop := Claim7.holds Tryd.pinned (.plain (OpenSpec.upto compositeRoundTripSpec)) compositeRoundTripUptoCard

/-- THE SECOND FORM's CARD OF 'skipgraphlaw2.CompositePrefixes'. -/
def compositePrefixesUptoCard : Claim7 := { stood := { row := compositePrefixesUptoRow, standIns := [], harness := (true, "5c71884023892da53a44a4ab3918c31dd9a912ed866884e47090d8792f1fb2f0"), looks := false }, kinds := [], alts := [], laidByText := true, laidKinds := [.data], laidTests := true, laidLooks := .later }
def CompositePrefixesUptoCardSaid : Prop := Claim7.holds Tryd.pinned (.plain (OpenSpec.upto compositePrefixesSpec)) compositePrefixesUptoCard

/-- THE SECOND FORM's CARD OF 'skipgraphlaw3.WireNodes'. -/
def wireNodesUptoCard : Claim7 := { stood := { row := wireNodesUptoRow, standIns := [], harness := (true, "5c71884023892da53a44a4ab3918c31dd9a912ed866884e47090d8792f1fb2f0"), looks := false }, kinds := [], alts := [], laidByText := true, laidKinds := [.data], laidTests := true, laidLooks := .later }
def WireNodesUptoCardSaid : Prop := Claim7.holds Tryd.pinned (.plain (OpenSpec.upto wireNodesSpec)) wireNodesUptoCard

/-- THE SECOND FORM's CARD OF 'skipgraphlaw3.WireRoundTrip'. -/
def wireRoundTripUptoCard : Claim7 := { stood := { row := wireRoundTripUptoRow, standIns := [], harness := (true, "5c71884023892da53a44a4ab3918c31dd9a912ed866884e47090d8792f1fb2f0"), looks := false }, kinds := [], alts := [], laidByText := true, laidKinds := [.data], laidTests := true, laidLooks := .later }
def WireRoundTripUptoCardSaid : Prop := Claim7.holds Tryd.pinned (.plain (OpenSpec.upto wireRoundTripSpec)) wireRoundTripUptoCard

/-- THE SECOND FORM's CARD OF 'skipgraphlaw4.WordBits'. -/
def wordBitsUptoCard : Claim7 := { stood := { row := wordBitsUptoRow, standIns := [], harness := (true, "5c71884023892da53a44a4ab3918c31dd9a912ed866884e47090d8792f1fb2f0"), looks := false }, kinds := [], alts := [], laidByText := true, laidKinds := [.data], laidTests := true, laidLooks := .later }
def WordBitsUptoCardSaid : Prop := Claim7.holds Tryd.pinned (.plain (OpenSpec.upto wordBitsSpec)) wordBitsUptoCard

/-- THE SECOND FORM's CARD OF 'skipgraphlaw4.WordDraws'. -/
def wordDrawsUptoCard : Claim7 := { stood := { row := wordDrawsUptoRow, standIns := [], harness := (true, "5c71884023892da53a44a4ab3918c31dd9a912ed866884e47090d8792f1fb2f0"), looks := false }, kinds := [], alts := [], laidByText := true, laidKinds := [.data], laidTests := true, laidLooks := .later }
def WordDrawsUptoCardSaid : Prop := Claim7.holds Tryd.pinned (.plain (OpenSpec.upto wordDrawsSpec)) wordDrawsUptoCard

/-- THE SECOND FORM's CARD OF 'skipgraphlaw4.WordGroups'. -/
def wordGroupsUptoCard : Claim7 := { stood := { row := wordGroupsUptoRow, standIns := [], harness := (true, "5c71884023892da53a44a4ab3918c31dd9a912ed866884e47090d8792f1fb2f0"), looks := false }, kinds := [], alts := [], laidByText := true, laidKinds := [.data, .data], laidTests := true, laidLooks := .later }
def WordGroupsUptoCardSaid : Prop := Claim7.holds Tryd.pinned (.plain (OpenSpec.upto wordGroupsSpec)) wordGroupsUptoCard

/-- THE SECOND FORM's CARD OF 'skipgraphlaw4.WordEquivalence'. -/
def wordEquivalenceUptoCard : Claim7 := { stood := { row := wordEquivalenceUptoRow, standIns := [], harness := (true, "5c71884023892da53a44a4ab3918c31dd9a912ed866884e47090d8792f1fb2f0"), looks := false }, kinds := [], alts := [], laidByText := true, laidKinds := [.data], laidTests := true, laidLooks := .later }
def WordEquivalenceUptoCardSaid : Prop := Claim7.holds Tryd.pinned (.plain (OpenSpec.upto wordEquivalenceSpec)) wordEquivalenceUptoCard

/-- THE SECOND FORM's CARD OF 'skipgraphlaw4.WordSplits'. -/
def wordSplitsUptoCard : Claim7 := { stood := { row := wordSplitsUptoRow, standIns := [], harness := (true, "5c71884023892da53a44a4ab3918c31dd9a912ed866884e47090d8792f1fb2f0"), looks := false }, kinds := [], alts := [], laidByText := true, laidKinds := [.data, .data], laidTests := true, laidLooks := .later }
def WordSplitsUptoCardSaid : Prop := Claim7.holds Tryd.pinned (.plain (OpenSpec.upto wordSplitsSpec)) wordSplitsUptoCard
end Rows
end Go.Proofs.YtlnmpiigmedgkaaDoor
