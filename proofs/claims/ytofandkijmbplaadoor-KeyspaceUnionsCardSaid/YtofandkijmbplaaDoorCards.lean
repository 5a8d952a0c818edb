/-
  DERIVED. GIVEN WITH THE SEED: THE CARDS: each row of YtofandkijmbplaaDoorRows.lean that lists a variable, with what it lists TIED to the program's text (the seventh form; the later family's looks); each row that meets fmt, with fmt's text TOLD by the authors' own Lean function (tested against real Go, not proved from fmt's source: count such statements apart). THE CARD IS WHAT COUNTS. Prove the row's statement (the work); the ties are given (YtofandkijmbplaaDoorTie.lean); close each card by the builder's one call (the guide's Derived/Test/ToyasCard.lean, 'card_holds'). Laid BY PROGRAM, IN A SANDBOX (cutbox-door.mjs). By AI agents, Wed Nov 11 2026. No macro, syntax, notation, axiom, sorry.
-/
import Derived.Test.YtofandkijmbplaaDoorRows
import GoSem.ClaimSeven
namespace Go.Proofs.YtofandkijmbplaaDoor
namespace Rows

/-- THE TIED CARD OF 'skipgraphlaw1.KeyspaceUnions'. -/
def keyspaceUnionsCard : Claim7 := { stood := { row := keyspaceUnionsRow, standIns := [], harness := (true, "7cdd13077437cd4532f33f5be77107c43327f61fe92630670cfa729001fe939b"), looks := false }, kinds := [], alts := [], laidByText := true, laidKinds := [.data], laidTests := true, laidLooks := .later }
def KeyspaceUnionsCardSaid : Prop := Claim7.holds Tryd.pinned (.plain (OpenSpec.ofChange keyspaceUnionsSpec)) keyspaceUnionsCard

/-- THE TIED CARD OF 'skipgraphlaw1.KeyspaceTilings'. -/
def keyspaceTilingsCard : Claim7 := { stood := { row := keyspaceTilingsRow, standIns := [], harness := (true, "7cdd13077437cd4532f33f5be77107c43327f61fe92630670cfa729001fe939b"), looks := false }, kinds := [], alts := [], laidByText := true, laidKinds := [.data], laidTests := true, laidLooks := .later }
def KeyspaceTilingsCardSaid : Prop := Claim7.holds Tryd.pinned (.plain (OpenSpec.ofChange keyspaceTilingsSpec)) keyspaceTilingsCard

/-- THE TIED CARD OF 'skipgraphlaw1.KeyspaceCovers'. -/
def keyspaceCoversCard : Claim7 := { stood := { row := keyspaceCoversRow, standIns := [], harness := (true, "7cdd13077437cd4532f33f5be77107c43327f61fe92630670cfa729001fe939b"), looks := false }, kinds := [], alts := [], laidByText := true, laidKinds := [.data], laidTests := true, laidLooks := .later }
def KeyspaceCoversCardSaid : Prop := Claim7.holds Tryd.pinned (.plain (OpenSpec.ofChange keyspaceCoversSpec)) keyspaceCoversCard

/-- THE TIED CARD OF 'skipgraphlaw1.KeyspaceCuts'. -/
def keyspaceCutsCard : Claim7 := { stood := { row := keyspaceCutsRow, standIns := [], harness := (true, "7cdd13077437cd4532f33f5be77107c43327f61fe92630670cfa729001fe939b"), looks := false }, kinds := [], alts := [], laidByText := true, laidKinds := [.data], laidTests := true, laidLooks := .later }
def KeyspaceCutsCardSaid : Prop := Claim7.holds Tryd.pinned (.plain (OpenSpec.ofChange keyspaceCutsSpec)) keyspaceCutsCard

/-- THE TIED CARD OF 'skipgraphlaw1.KeyspaceJoins'. -/
def keyspaceJoinsCard : Claim7 := { stood := { row := keyspaceJoinsRow, standIns := [], harness := (true, "7cdd13077437cd4532f33f5be77107c43327f61fe92630670cfa729001fe939b"), looks := false }, kinds := [], alts := [], laidByText := true, laidKinds := [.data], laidTests := true, laidLooks := .later }
def KeyspaceJoinsCardSaid : Prop := Claim7.holds Tryd.pinned (.plain (OpenSpec.ofChange keyspaceJoinsSpec)) keyspaceJoinsCard

/-- THE TIED CARD OF 'skipgraphlaw2.CompositeEncodes'. -/
def compositeEncodesCard : Claim7 := { stood := { row := compositeEncodesRow, standIns := [], harness := (true, "7cdd13077437cd4532f33f5be77107c43327f61fe92630670cfa729001fe939b"), looks := false }, kinds := [], alts := [], laidByText := true, laidKinds := [.data], laidTests := true, laidLooks := .later }
def CompositeEncodesCardSaid : Prop := Claim7.holds Tryd.pinned (.plain (OpenSpec.ofChange compositeEncodesSpec)) compositeEncodesCard

/-- THE TIED CARD OF 'skipgraphlaw2.CompositeDecodes'. -/
def compositeDecodesCard : Claim7 := { stood := { row := compositeDecodesRow, standIns := [], harness := (true, "7cdd13077437cd4532f33f5be77107c43327f61fe92630670cfa729001fe939b"), looks := false }, kinds := [], alts := [], laidByText := true, laidKinds := [.data], laidTests := true, laidLooks := .later }
def CompositeDecodesCardSaid : Prop := Claim7.holds Tryd.pinned (.plain (OpenSpec.ofChange compositeDecodesSpec)) compositeDecodesCard

/-- THE TIED CARD OF 'skipgraphlaw2.CompositeOrder'. -/
def compositeOrderCard : Claim7 := { stood := { row := compositeOrderRow, standIns := [], harness := (true, "7cdd13077437cd4532f33f5be77107c43327f61fe92630670cfa729001fe939b"), looks := false }, kinds := [], alts := [], laidByText := true, laidKinds := [.data], laidTests := true, laidLooks := .later }
def CompositeOrderCardSaid : Prop := Claim7.holds Tryd.pinned (.plain (OpenSpec.ofChange compositeOrderSpec)) compositeOrderCard

/-- THE TIED CARD OF 'skipgraphlaw2.CompositeRoundTrip'. -/
def compositeRoundTripCard : Claim7 := { stood := { row := compositeRoundTripRow, standIns := [], harness := (true, "7cdd13077437cd4532f33f5be77107c43327f61fe92630670cfa729001fe939b"), looks := false }, kinds := [], alts := [], laidByText := true, laidKinds := [.data], laidTests := true, laidLooks := .later }
def CompositeRoundTripCardSaid : Prop := Claim7.holds Tryd.pinned (.plain (OpenSpec.ofChange compositeRoundTripSpec)) compositeRoundTripCard

/-- THE TIED CARD OF 'skipgraphlaw2.CompositePrefixes'. -/
def compositePrefixesCard : Claim7 := { stood := { row := compositePrefixesRow, standIns := [], harness := (true, "7cdd13077437cd4532f33f5be77107c43327f61fe92630670cfa729001fe939b"), looks := false }, kinds := [], alts := [], laidByText := true, laidKinds := [.data], laidTests := true, laidLooks := .later }
def CompositePrefixesCardSaid : Prop := Claim7.holds Tryd.pinned (.plain (OpenSpec.ofChange compositePrefixesSpec)) compositePrefixesCard

/-- THE TIED CARD OF 'skipgraphlaw2.CompositeTurns'. -/
def compositeTurnsCard : Claim7 := { stood := { row := compositeTurnsRow, standIns := [], harness := (true, "7cdd13077437cd4532f33f5be77107c43327f61fe92630670cfa729001fe939b"), looks := false }, kinds := [], alts := [], laidByText := true, laidKinds := [.data], laidTests := true, laidLooks := .later }
def CompositeTurnsCardSaid : Prop := Claim7.holds Tryd.pinned (.plain (OpenSpec.ofChange compositeTurnsSpec)) compositeTurnsCard

/-- THE SECOND FORM's CARD OF 'skipgraphlaw1.KeyspaceUnions'. -/
def keyspaceUnionsUptoCard : Claim7 := { stood := { row := keyspaceUnionsUptoRow, standIns := [], harness := (true, "7cdd13077437cd4532f33f5be77107c43327f61fe92630670cfa729001fe939b"), looks := false }, kinds := [], alts := [], laidByText := true, laidKinds := [.data], laidTests := true, laidLooks := .later }
def KeyspaceUnionsUptoCardSaid : Prop := Claim7.holds Tryd.pinned (.plain (OpenSpec.upto keyspaceUnionsSpec)) keyspaceUnionsUptoCard

/-- THE SECOND FORM's CARD OF 'skipgraphlaw1.KeyspaceTilings'. -/
def keyspaceTilingsUptoCard : Claim7 := { stood := { row := keyspaceTilingsUptoRow, standIns := [], harness := (true, "7cdd13077437cd4532f33f5be77107c43327f61fe92630670cfa729001fe939b"), looks := false }, kinds := [], alts := [], laidByText := true, laidKinds := [.data], laidTests := true, laidLooks := .later }
def KeyspaceTilingsUptoCardSaid : Prop := Claim7.holds Tryd.pinned (.plain (OpenSpec.upto keyspaceTilingsSpec)) keyspaceTilingsUptoCard

/-- THE SECOND FORM's CARD OF 'skipgraphlaw1.KeyspaceCovers'. -/
def keyspaceCoversUptoCard : Claim7 := { stood := { row := keyspaceCoversUptoRow, standIns := [], harness := (true, "7cdd13077437cd4532f33f5be77107c43327f61fe92630670cfa729001fe939b"), looks := false }, kinds := [], alts := [], laidByText := true, laidKinds := [.data], laidTests := true, laidLooks := .later }
def KeyspaceCoversUptoCardSaid : Prop := Claim7.holds Tryd.pinned (.plain (OpenSpec.upto keyspaceCoversSpec)) keyspaceCoversUptoCard

/-- THE SECOND FORM's CARD OF 'skipgraphlaw1.KeyspaceCuts'. -/
def keyspaceCutsUptoCard : Claim7 := { stood := { row := keyspaceCutsUptoRow, standIns := [], harness := (true, "7cdd13077437cd4532f33f5be77107c43327f61fe92630670cfa729001fe939b"), looks := false }, kinds := [], alts := [], laidByText := true, laidKinds := [.data], laidTests := true, laidLooks := .later }
def KeyspaceCutsUptoCardSaid : Prop := Claim7.holds Tryd.pinned (.plain (OpenSpec.upto keyspaceCutsSpec)) keyspaceCutsUptoCard

/-- THE SECOND FORM's CARD OF 'skipgraphlaw1.KeyspaceJoins'. -/
def keyspaceJoinsUptoCard : Claim7 := { stood := { row := keyspaceJoinsUptoRow, standIns := [], harness := (true, "7cdd13077437cd4532f33f5be77107c43327f61fe92630670cfa729001fe939b"), looks := false }, kinds := [], alts := [], laidByText := true, laidKinds := [.data], laidTests := true, laidLooks := .later }
def KeyspaceJoinsUptoCardSaid : Prop := Claim7.holds Tryd.pinned (.plain (OpenSpec.upto keyspaceJoinsSpec)) keyspaceJoinsUptoCard

/-- THE SECOND FORM's CARD OF 'skipgraphlaw2.CompositeEncodes'. -/
def compositeEncodesUptoCard : Claim7 := { stood := { row := compositeEncodesUptoRow, standIns := [], harness := (true, "7cdd13077437cd4532f33f5be77107c43327f61fe92630670cfa729001fe939b"), looks := false }, kinds := [], alts := [], laidByText := true, laidKinds := [.data], laidTests := true, laidLooks := .later }
def CompositeEncodesUptoCardSaid : Prop := Claim7.holds Tryd.pinned (.plain (OpenSpec.upto compositeEncodesSpec)) compositeEncodesUptoCard

/-- THE SECOND FORM's CARD OF 'skipgraphlaw2.CompositeDecodes'. -/
def compositeDecodesUptoCard : Claim7 := { stood := { row := compositeDecodesUptoRow, standIns := [], harness := (true, "7cdd13077437cd4532f33f5be77107c43327f61fe92630670cfa729001fe939b"), looks := false }, kinds := [], alts := [], laidByText := true, laidKinds := [.data], laidTests := true, laidLooks := .later }
def CompositeDecodesUptoCardSaid : Prop := Claim7.holds Tryd.pinned (.plain (OpenSpec.upto compositeDecodesSpec)) compositeDecodesUptoCard

/-- THE SECOND FORM's CARD OF 'skipgraphlaw2.CompositeOrder'. -/
def compositeOrderUptoCard : Claim7 := { stood := { row := compositeOrderUptoRow, standIns := [], harness := (true, "7cdd13077437cd4532f33f5be77107c43327f61fe92630670cfa729001fe939b"), looks := false }, kinds := [], alts := [], laidByText := true, laidKinds := [.data], laidTests := true, laidLooks := .later }
def CompositeOrderUptoCardSaid : Prop := Claim7.holds Tryd.pinned (.plain (OpenSpec.upto compositeOrderSpec)) compositeOrderUptoCard

/-- THE SECOND FORM's CARD OF 'skipgraphlaw2.CompositeRoundTrip'. -/
def compositeRoundTripUptoCard : Claim7 := { stood := { row := compositeRoundTripUptoRow, standIns := [], harness := (true, "7cdd13077437cd4532f33f5be77107c43327f61fe92630670cfa729001fe939b"), looks := false }, kinds := [], alts := [], laidByText := true, laidKinds := [.data], laidTests := true, laidLooks := .later }
def CompositeRoundTripUptoCardSaid : Prop := Claim7.holds Tryd.pinned (.plain (OpenSpec.upto compositeRoundTripSpec)) compositeRoundTripUptoCard

/-- THE SECOND FORM's CARD OF 'skipgraphlaw2.CompositePrefixes'. -/
def compositePrefixesUptoCard : Claim7 := { stood := { row := compositePrefixesUptoRow, standIns := [], harness := (true, "7cdd13077437cd4532f33f5be77107c43327f61fe92630670cfa729001fe939b"), looks := false }, kinds := [], alts := [], laidByText := true, laidKinds := [.data], laidTests := true, laidLooks := .later }
def CompositePrefixesUptoCardSaid : Prop := Claim7.holds Tryd.pinned (.plain (OpenSpec.upto compositePrefixesSpec)) compositePrefixesUptoCard

/-- THE SECOND FORM's CARD OF 'skipgraphlaw2.CompositeTurns'. -/
def compositeTurnsUptoCard : Claim7 := { stood := { row := compositeTurnsUptoRow, standIns := [], harness := (true, "7cdd13077437cd4532f33f5be77107c43327f61fe92630670cfa729001fe939b"), looks := false }, kinds := [], alts := [], laidByText := true, laidKinds := [.data], laidTests := true, laidLooks := .later }
def CompositeTurnsUptoCardSaid : Prop := Claim7.holds Tryd.pinned (.plain (OpenSpec.upto compositeTurnsSpec)) compositeTurnsUptoCard
end Rows
end Go.Proofs.YtofandkijmbplaaDoor
