/-
  DERIVED. GIVEN WITH THE SEED: THE CARDS: each row of YtdeamjimjcojhaaDoorRows.lean that lists a variable, with what it lists TIED to the program's text (the seventh form; the later family's looks); each row that meets fmt, with fmt's text TOLD by the authors' own Lean function (tested against real Go, not proved from fmt's source: count such statements apart). THE CARD IS WHAT COUNTS. Prove the row's statement (the work); the ties are given (YtdeamjimjcojhaaDoorTie.lean); close each card by the builder's one call (the guide's Derived/Test/ToyasCard.lean, 'card_holds'). Laid BY PROGRAM, IN A SANDBOX (cutbox-door.mjs). By AI agents, Wed Nov 11 2026. No macro, syntax, notation, axiom, sorry.
-/
import Derived.Test.YtdeamjimjcojhaaDoorRows
import GoSem.ClaimSeven
namespace Go.Proofs.YtdeamjimjcojhaaDoor
namespace Rows

/-- THE TIED CARD OF 'skipgraphlaw8.SearchRoutes'. -/
def searchRoutesCard : Claim7 := { stood := { row := searchRoutesRow, standIns := [], harness := (true, "fe55f2fb2940976724412d1c87a5065908529ba815b4cab69dd675950631abc5"), looks := false }, kinds := [], alts := [], laidByText := true, laidKinds := [.data, .data], laidTests := true, laidLooks := .later }
def SearchRoutesCardSaid : Prop := Claim7.holds Tryd.pinned (.plain (OpenSpec.ofChange searchRoutesSpec)) searchRoutesCard

/-- THE TIED CARD OF 'skipgraphlaw8.SearchRuns'. -/
def searchRunsCard : Claim7 := { stood := { row := searchRunsRow, standIns := [], harness := (true, "fe55f2fb2940976724412d1c87a5065908529ba815b4cab69dd675950631abc5"), looks := false }, kinds := [], alts := [], laidByText := true, laidKinds := [.data, .data], laidTests := true, laidLooks := .later }
def SearchRunsCardSaid : Prop := Claim7.holds Tryd.pinned (.plain (OpenSpec.ofChange searchRunsSpec)) searchRunsCard

/-- THE TIED CARD OF 'skipgraphlaw8.SearchEnds'. -/
def searchEndsCard : Claim7 := { stood := { row := searchEndsRow, standIns := [], harness := (true, "fe55f2fb2940976724412d1c87a5065908529ba815b4cab69dd675950631abc5"), looks := false }, kinds := [], alts := [], laidByText := true, laidKinds := [.data, .data], laidTests := true, laidLooks := .later }
def SearchEndsCardSaid : Prop := Claim7.holds Tryd.pinned (.plain (OpenSpec.ofChange searchEndsSpec)) searchEndsCard

/-- THE TIED CARD OF 'skipgraphlaw8.SearchApproaches'. -/
def searchApproachesCard : Claim7 := { stood := { row := searchApproachesRow, standIns := [], harness := (true, "fe55f2fb2940976724412d1c87a5065908529ba815b4cab69dd675950631abc5"), looks := false }, kinds := [], alts := [], laidByText := true, laidKinds := [.data, .data], laidTests := true, laidLooks := .later }
def SearchApproachesCardSaid : Prop := Claim7.holds Tryd.pinned (.plain (OpenSpec.ofChange searchApproachesSpec)) searchApproachesCard

/-- THE TIED CARD OF 'skipgraphlaw8.SearchAgrees'. -/
def searchAgreesCard : Claim7 := { stood := { row := searchAgreesRow, standIns := [], harness := (true, "fe55f2fb2940976724412d1c87a5065908529ba815b4cab69dd675950631abc5"), looks := false }, kinds := [], alts := [], laidByText := true, laidKinds := [.data, .data], laidTests := true, laidLooks := .later }
def SearchAgreesCardSaid : Prop := Claim7.holds Tryd.pinned (.plain (OpenSpec.ofChange searchAgreesSpec)) searchAgreesCard

/-- THE TIED CARD OF 'skipgraphlaw8.SearchBounds'. -/
def searchBoundsCard : Claim7 := { stood := { row := searchBoundsRow, standIns := [], harness := (true, "fe55f2fb2940976724412d1c87a5065908529ba815b4cab69dd675950631abc5"), looks := false }, kinds := [], alts := [], laidByText := true, laidKinds := [.data, .data], laidTests := true, laidLooks := .later }
def SearchBoundsCardSaid : Prop := Claim7.holds Tryd.pinned (.plain (OpenSpec.ofChange searchBoundsSpec)) searchBoundsCard

/-- THE SECOND FORM's CARD OF 'skipgraphlaw8.SearchRoutes'. -/
def searchRoutesUptoCard : Claim7 := { stood := { row := searchRoutesUptoRow, standIns := [], harness := (true, "fe55f2fb2940976724412d1c87a5065908529ba815b4cab69dd675950631abc5"), looks := false }, kinds := [], alts := [], laidByText := true, laidKinds := [.data, .data], laidTests := true, laidLooks := .later }
def SearchRoutesUptoCardSaid : Prop := Claim7.holds Tryd.pinned (.plain (OpenSpec.upto searchRoutesSpec)) searchRoutesUptoCard

/-- THE SECOND FORM's CARD OF 'skipgraphlaw8.SearchRuns'. -/
def searchRunsUptoCard : Claim7 := { stood := { row := searchRunsUptoRow, standIns := [], harness := (true, "fe55f2fb2940976724412d1c87a5065908529ba815b4cab69dd675950631abc5"), looks := false }, kinds := [], alts := [], laidByText := true, laidKinds := [.data, .data], laidTests := true, laidLooks := .later }
def SearchRunsUptoCardSaid : Prop := Claim7.holds Tryd.pinned (.plain (OpenSpec.upto searchRunsSpec)) searchRunsUptoCard

/-- THE SECOND FORM's CARD OF 'skipgraphlaw8.SearchEnds'. -/
def searchEndsUptoCard : Claim7 := { stood := { row := searchEndsUptoRow, standIns := [], harness := (true, "fe55f2fb2940976724412d1c87a5065908529ba815b4cab69dd675950631abc5"), looks := false }, kinds := [], alts := [], laidByText := true, laidKinds := [.data, .data], laidTests := true, laidLooks := .later }
def SearchEndsUptoCardSaid : Prop := Claim7.holds Tryd.pinned (.plain (OpenSpec.upto searchEndsSpec)) searchEndsUptoCard

/-- THE SECOND FORM's CARD OF 'skipgraphlaw8.SearchApproaches'. -/
def searchApproachesUptoCard : Claim7 := { stood := { row := searchApproachesUptoRow, standIns := [], harness := (true, "fe55f2fb2940976724412d1c87a5065908529ba815b4cab69dd675950631abc5"), looks := false }, kinds := [], alts := [], laidByText := true, laidKinds := [.data, .data], laidTests := true, laidLooks := .later }
def SearchApproachesUptoCardSaid : Prop := Claim7.holds Tryd.pinned (.plain (OpenSpec.upto searchApproachesSpec)) searchApproachesUptoCard

/-- THE SECOND FORM's CARD OF 'skipgraphlaw8.SearchAgrees'. -/
def searchAgreesUptoCard : Claim7 := { stood := { row := searchAgreesUptoRow, standIns := [], harness := (true, "fe55f2fb2940976724412d1c87a5065908529ba815b4cab69dd675950631abc5"), looks := false }, kinds := [], alts := [], laidByText := true, laidKinds := [.data, .data], laidTests := true, laidLooks := .later }
def SearchAgreesUptoCardSaid : Prop := Claim7.holds Tryd.pinned (.plain (OpenSpec.upto searchAgreesSpec)) searchAgreesUptoCard

/-- THE SECOND FORM's CARD OF 'skipgraphlaw8.SearchBounds'. -/
def searchBoundsUptoCard : Claim7 := { stood := { row := searchBoundsUptoRow, standIns := [], harness := (true, "fe55f2fb2940976724412d1c87a5065908529ba815b4cab69dd675950631abc5"), looks := false }, kinds := [], alts := [], laidByText := true, laidKinds := [.data, .data], laidTests := true, laidLooks := .later }
def SearchBoundsUptoCardSaid : Prop := Claim7.holds Tryd.pinned (.plain (OpenSpec.upto searchBoundsSpec)) searchBoundsUptoCard
end Rows
end Go.Proofs.YtdeamjimjcojhaaDoor
