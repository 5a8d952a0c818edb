/-
  DERIVED. GIVEN WITH THE SEED: THE CARDS: each row of YtfencagmkhoibaaDoorRows.lean that lists a variable, with what it lists TIED to the program's text (the seventh form; the later family's looks); each row that meets fmt, with fmt's text TOLD by the authors' own Lean function (tested against real Go, not proved from fmt's source: count such statements apart). THE CARD IS WHAT COUNTS. Prove the row's statement (the work); the ties are given (YtfencagmkhoibaaDoorTie.lean); close each card by the builder's one call (the guide's Derived/Test/ToyasCard.lean, 'card_holds'). Laid BY PROGRAM, IN A SANDBOX (cutbox-door.mjs). By AI agents, Wed Nov 11 2026. No macro, syntax, notation, axiom, sorry.
-/
import Derived.Test.YtfencagmkhoibaaDoorRows
import GoSem.ClaimSeven
namespace Go.Proofs.YtfencagmkhoibaaDoor
namespace Rows

/-- THE TIED CARD OF 'skipgraphlaw3.WireStrings'. -/
def wireStringsCard : Claim7 := { stood := { row := wireStringsRow, standIns := [], harness := (true, "0f3b825efb297b386bcd889bf04a74d407f7424fd899f72586d57b65aab928c9"), looks := false }, kinds := [], alts := [], laidByText := true, laidKinds := [.data], laidTests := true, laidLooks := .later }
def WireStringsCardSaid : Prop := Claim7.holds Tryd.pinned (.plain (OpenSpec.ofChange wireStringsSpec)) wireStringsCard

/-- THE TIED CARD OF 'skipgraphlaw3.WireNodes'. -/
def wireNodesCard : Claim7 := { stood := { row := wireNodesRow, standIns := [], harness := (true, "0f3b825efb297b386bcd889bf04a74d407f7424fd899f72586d57b65aab928c9"), looks := false }, kinds := [], alts := [], laidByText := true, laidKinds := [.data], laidTests := true, laidLooks := .later }
def WireNodesCardSaid : Prop := Claim7.holds Tryd.pinned (.plain (OpenSpec.ofChange wireNodesSpec)) wireNodesCard

/-- THE TIED CARD OF 'skipgraphlaw3.WireRoundTrip'. -/
def wireRoundTripCard : Claim7 := { stood := { row := wireRoundTripRow, standIns := [], harness := (true, "0f3b825efb297b386bcd889bf04a74d407f7424fd899f72586d57b65aab928c9"), looks := false }, kinds := [], alts := [], laidByText := true, laidKinds := [.data], laidTests := true, laidLooks := .later }
def WireRoundTripCardSaid : Prop := Claim7.holds Tryd.pinned (.plain (OpenSpec.ofChange wireRoundTripSpec)) wireRoundTripCard

/-- THE TIED CARD OF 'skipgraphlaw3.WirePrefixes'. -/
def wirePrefixesCard : Claim7 := { stood := { row := wirePrefixesRow, standIns := [], harness := (true, "0f3b825efb297b386bcd889bf04a74d407f7424fd899f72586d57b65aab928c9"), looks := false }, kinds := [], alts := [], laidByText := true, laidKinds := [.data], laidTests := true, laidLooks := .later }
def WirePrefixesCardSaid : Prop := Claim7.holds Tryd.pinned (.plain (OpenSpec.ofChange wirePrefixesSpec)) wirePrefixesCard

/-- THE SECOND FORM's CARD OF 'skipgraphlaw3.WireStrings'. -/
def wireStringsUptoCard : Claim7 := { stood := { row := wireStringsUptoRow, standIns := [], harness := (true, "0f3b825efb297b386bcd889bf04a74d407f7424fd899f72586d57b65aab928c9"), looks := false }, kinds := [], alts := [], laidByText := true, laidKinds := [.data], laidTests := true, laidLooks := .later }
def WireStringsUptoCardSaid : Prop := Claim7.holds Tryd.pinned (.plain (OpenSpec.upto wireStringsSpec)) wireStringsUptoCard

/-- THE SECOND FORM's CARD OF 'skipgraphlaw3.WireNodes'. -/
def wireNodesUptoCard : Claim7 := { stood := { row := wireNodesUptoRow, standIns := [], harness := (true, "0f3b825efb297b386bcd889bf04a74d407f7424fd899f72586d57b65aab928c9"), looks := false }, kinds := [], alts := [], laidByText := true, laidKinds := [.data], laidTests := true, laidLooks := .later }
def WireNodesUptoCardSaid : Prop := Claim7.holds Tryd.pinned (.plain (OpenSpec.upto wireNodesSpec)) wireNodesUptoCard

/-- THE SECOND FORM's CARD OF 'skipgraphlaw3.WireRoundTrip'. -/
def wireRoundTripUptoCard : Claim7 := { stood := { row := wireRoundTripUptoRow, standIns := [], harness := (true, "0f3b825efb297b386bcd889bf04a74d407f7424fd899f72586d57b65aab928c9"), looks := false }, kinds := [], alts := [], laidByText := true, laidKinds := [.data], laidTests := true, laidLooks := .later }
def WireRoundTripUptoCardSaid : Prop := Claim7.holds Tryd.pinned (.plain (OpenSpec.upto wireRoundTripSpec)) wireRoundTripUptoCard

/-- THE SECOND FORM's CARD OF 'skipgraphlaw3.WirePrefixes'. -/
def wirePrefixesUptoCard : Claim7 := { stood := { row := wirePrefixesUptoRow, standIns := [], harness := (true, "0f3b825efb297b386bcd889bf04a74d407f7424fd899f72586d57b65aab928c9"), looks := false }, kinds := [], alts := [], laidByText := true, laidKinds := [.data], laidTests := true, laidLooks := .later }
def WirePrefixesUptoCardSaid : Prop := Claim7.holds Tryd.pinned (.plain (OpenSpec.upto wirePrefixesSpec)) wirePrefixesUptoCard
end Rows
end Go.Proofs.YtfencagmkhoibaaDoor
