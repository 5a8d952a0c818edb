/-
  DERIVED. GIVEN WITH THE SEED: THE CARDS: each row of YtddcfiiahahkbaaDoorRows.lean that lists a variable, with what it lists TIED to the program's text (the seventh form; the later family's looks); each row that meets fmt, with fmt's text TOLD by the authors' own Lean function (tested against real Go, not proved from fmt's source: count such statements apart). THE CARD IS WHAT COUNTS. Prove the row's statement (the work); the ties are given (YtddcfiiahahkbaaDoorTie.lean); close each card by the builder's one call (the guide's Derived/Test/ToyasCard.lean, 'card_holds'). Laid BY PROGRAM, IN A SANDBOX (cutbox-door.mjs). By AI agents, Wed Nov 11 2026. No macro, syntax, notation, axiom, sorry.
-/
import Derived.Test.YtddcfiiahahkbaaDoorRows
import GoSem.ClaimSeven
namespace Go.Proofs.YtddcfiiahahkbaaDoor
namespace Rows

/-- THE TIED CARD OF 'skipgraphlaw9.BulkLoads'. -/
def bulkLoadsCard : Claim7 := { stood := { row := bulkLoadsRow, standIns := [], harness := (true, "a52f5d8ac9eb925f9746d85c6ab7a3bf62a6462b392a8e4e27d370218ed3ab30"), looks := false }, kinds := [], alts := [], laidByText := true, laidKinds := [.data], laidTests := true, laidLooks := .later }
def BulkLoadsCardSaid : Prop := Claim7.holds Tryd.pinned (.plain (OpenSpec.ofChange bulkLoadsSpec)) bulkLoadsCard

/-- THE TIED CARD OF 'skipgraphlaw9.BulkMerges'. -/
def bulkMergesCard : Claim7 := { stood := { row := bulkMergesRow, standIns := [], harness := (true, "a52f5d8ac9eb925f9746d85c6ab7a3bf62a6462b392a8e4e27d370218ed3ab30"), looks := false }, kinds := [], alts := [], laidByText := true, laidKinds := [.data], laidTests := true, laidLooks := .later }
def BulkMergesCardSaid : Prop := Claim7.holds Tryd.pinned (.plain (OpenSpec.ofChange bulkMergesSpec)) bulkMergesCard

/-- THE TIED CARD OF 'skipgraphlaw9.BulkRejoins'. -/
def bulkRejoinsCard : Claim7 := { stood := { row := bulkRejoinsRow, standIns := [], harness := (true, "a52f5d8ac9eb925f9746d85c6ab7a3bf62a6462b392a8e4e27d370218ed3ab30"), looks := false }, kinds := [], alts := [], laidByText := true, laidKinds := [.data], laidTests := true, laidLooks := .later }
def BulkRejoinsCardSaid : Prop := Claim7.holds Tryd.pinned (.plain (OpenSpec.ofChange bulkRejoinsSpec)) bulkRejoinsCard

/-- THE TIED CARD OF 'skipgraphlaw9.BulkAssociates'. -/
def bulkAssociatesCard : Claim7 := { stood := { row := bulkAssociatesRow, standIns := [], harness := (true, "a52f5d8ac9eb925f9746d85c6ab7a3bf62a6462b392a8e4e27d370218ed3ab30"), looks := false }, kinds := [], alts := [], laidByText := true, laidKinds := [.data], laidTests := true, laidLooks := .later }
def BulkAssociatesCardSaid : Prop := Claim7.holds Tryd.pinned (.plain (OpenSpec.ofChange bulkAssociatesSpec)) bulkAssociatesCard

/-- THE TIED CARD OF 'skipgraphlaw9.BulkCounts'. -/
def bulkCountsCard : Claim7 := { stood := { row := bulkCountsRow, standIns := [], harness := (true, "a52f5d8ac9eb925f9746d85c6ab7a3bf62a6462b392a8e4e27d370218ed3ab30"), looks := false }, kinds := [], alts := [], laidByText := true, laidKinds := [.data], laidTests := true, laidLooks := .later }
def BulkCountsCardSaid : Prop := Claim7.holds Tryd.pinned (.plain (OpenSpec.ofChange bulkCountsSpec)) bulkCountsCard

/-- THE SECOND FORM's CARD OF 'skipgraphlaw9.BulkLoads'. -/
def bulkLoadsUptoCard : Claim7 := { stood := { row := bulkLoadsUptoRow, standIns := [], harness := (true, "a52f5d8ac9eb925f9746d85c6ab7a3bf62a6462b392a8e4e27d370218ed3ab30"), looks := false }, kinds := [], alts := [], laidByText := true, laidKinds := [.data], laidTests := true, laidLooks := .later }
def BulkLoadsUptoCardSaid : Prop := Claim7.holds Tryd.pinned (.plain (OpenSpec.upto bulkLoadsSpec)) bulkLoadsUptoCard

/-- THE SECOND FORM's CARD OF 'skipgraphlaw9.BulkMerges'. -/
def bulkMergesUptoCard : Claim7 := { stood := { row := bulkMergesUptoRow, standIns := [], harness := (true, "a52f5d8ac9eb925f9746d85c6ab7a3bf62a6462b392a8e4e27d370218ed3ab30"), looks := false }, kinds := [], alts := [], laidByText := true, laidKinds := [.data], laidTests := true, laidLooks := .later }
def BulkMergesUptoCardSaid : Prop := Claim7.holds Tryd.pinned (.plain (OpenSpec.upto bulkMergesSpec)) bulkMergesUptoCard

/-- THE SECOND FORM's CARD OF 'skipgraphlaw9.BulkRejoins'. -/
def bulkRejoinsUptoCard : Claim7 := { stood := { row := bulkRejoinsUptoRow, standIns := [], harness := (true, "a52f5d8ac9eb925f9746d85c6ab7a3bf62a6462b392a8e4e27d370218ed3ab30"), looks := false }, kinds := [], alts := [], laidByText := true, laidKinds := [.data], laidTests := true, laidLooks := .later }
def BulkRejoinsUptoCardSaid : Prop := Claim7.holds Tryd.pinned (.plain (OpenSpec.upto bulkRejoinsSpec)) bulkRejoinsUptoCard

/-- THE SECOND FORM's CARD OF 'skipgraphlaw9.BulkAssociates'. -/
def bulkAssociatesUptoCard : Claim7 := { stood := { row := bulkAssociatesUptoRow, standIns := [], harness := (true, "a52f5d8ac9eb925f9746d85c6ab7a3bf62a6462b392a8e4e27d370218ed3ab30"), looks := false }, kinds := [], alts := [], laidByText := true, laidKinds := [.data], laidTests := true, laidLooks := .later }
def BulkAssociatesUptoCardSaid : Prop := Claim7.holds Tryd.pinned (.plain (OpenSpec.upto bulkAssociatesSpec)) bulkAssociatesUptoCard

/-- THE SECOND FORM's CARD OF 'skipgraphlaw9.BulkCounts'. -/
def bulkCountsUptoCard : Claim7 := { stood := { row := bulkCountsUptoRow, standIns := [], harness := (true, "a52f5d8ac9eb925f9746d85c6ab7a3bf62a6462b392a8e4e27d370218ed3ab30"), looks := false }, kinds := [], alts := [], laidByText := true, laidKinds := [.data], laidTests := true, laidLooks := .later }
def BulkCountsUptoCardSaid : Prop := Claim7.holds Tryd.pinned (.plain (OpenSpec.upto bulkCountsSpec)) bulkCountsUptoCard
end Rows
end Go.Proofs.YtddcfiiahahkbaaDoor
