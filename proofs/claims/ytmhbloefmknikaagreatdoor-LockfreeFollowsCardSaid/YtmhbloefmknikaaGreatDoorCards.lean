/-
  DERIVED. GIVEN WITH THE SEED: THE CARDS: each row of YtmhbloefmknikaaGreatDoorRows.lean that lists a variable, with what it lists TIED to the program's text (the seventh form; the later family's looks); each row that meets fmt, with fmt's text TOLD by the authors' own Lean function (tested against real Go, not proved from fmt's source: count such statements apart). THE CARD IS WHAT COUNTS. Prove the row's statement (the work); the ties are given (YtmhbloefmknikaaGreatDoorTie.lean); close each card by the builder's one call (the guide's Derived/Test/ToyasCard.lean, 'card_holds'). Laid BY PROGRAM, IN A SANDBOX (cutbox-door.mjs). By AI agents, Wed Nov 11 2026. No macro, syntax, notation, axiom, sorry.
-/
import Derived.Test.YtmhbloefmknikaaGreatDoorRows
import GoSem.ClaimSeven
namespace Go.Proofs.YtmhbloefmknikaaGreatDoor
namespace Rows

/-- THE TIED CARD OF 'skipgraphlaw11.LockedFollows'. -/
def lockedFollowsCard : Claim7 := { stood := { row := lockedFollowsRow, standIns := [], harness := (true, "cdc85644419ab7371fe081e784b56f3c2d40805cd0bf373127b8608bcf238992"), looks := false }, kinds := [], alts := [], laidByText := true, laidKinds := [.data], laidTests := true, laidLooks := .later }
def LockedFollowsCardSaid : Prop := Claim7.holds Tryz.pinned (.plain (OpenSpec.ofChange lockedFollowsSpec)) lockedFollowsCard

/-- THE TIED CARD OF 'skipgraphlaw11.LockedRaw'. -/
def lockedRawCard : Claim7 := { stood := { row := lockedRawRow, standIns := [], harness := (true, "cdc85644419ab7371fe081e784b56f3c2d40805cd0bf373127b8608bcf238992"), looks := false }, kinds := [], alts := [], laidByText := true, laidKinds := [.data], laidTests := true, laidLooks := .later }
def LockedRawCardSaid : Prop := Claim7.holds Tryz.pinned (.plain (OpenSpec.ofChange lockedRawSpec)) lockedRawCard

/-- THE TIED CARD OF 'skipgraphlaw12.LockfreeFollows'. -/
def lockfreeFollowsCard : Claim7 := { stood := { row := lockfreeFollowsRow, standIns := [], harness := (true, "cdc85644419ab7371fe081e784b56f3c2d40805cd0bf373127b8608bcf238992"), looks := false }, kinds := [], alts := [], laidByText := true, laidKinds := [.data], laidTests := true, laidLooks := .later }
def LockfreeFollowsCardSaid : Prop := Claim7.holds Tryz.pinned (.plain (OpenSpec.ofChange lockfreeFollowsSpec)) lockfreeFollowsCard

/-- THE TIED CARD OF 'skipgraphlaw12.LockfreeRaw'. -/
def lockfreeRawCard : Claim7 := { stood := { row := lockfreeRawRow, standIns := [], harness := (true, "cdc85644419ab7371fe081e784b56f3c2d40805cd0bf373127b8608bcf238992"), looks := false }, kinds := [], alts := [], laidByText := true, laidKinds := [.data], laidTests := true, laidLooks := .later }
def LockfreeRawCardSaid : Prop := Claim7.holds Tryz.pinned (.plain (OpenSpec.ofChange lockfreeRawSpec)) lockfreeRawCard

/-- THE SECOND FORM's CARD OF 'skipgraphlaw11.LockedFollows'. -/
def lockedFollowsUptoCard : Claim7 := { stood := { row := lockedFollowsUptoRow, standIns := [], harness := (true, "cdc85644419ab7371fe081e784b56f3c2d40805cd0bf373127b8608bcf238992"), looks := false }, kinds := [], alts := [], laidByText := true, laidKinds := [.data], laidTests := true, laidLooks := .later }
def LockedFollowsUptoCardSaid : Prop := Claim7.holds Tryz.pinned (.plain (OpenSpec.upto lockedFollowsSpec)) lockedFollowsUptoCard

/-- THE SECOND FORM's CARD OF 'skipgraphlaw11.LockedRaw'. -/
def lockedRawUptoCard : Claim7 := { stood := { row := lockedRawUptoRow, standIns := [], harness := (true, "cdc85644419ab7371fe081e784b56f3c2d40805cd0bf373127b8608bcf238992"), looks := false }, kinds := [], alts := [], laidByText := true, laidKinds := [.data], laidTests := true, laidLooks := .later }
def LockedRawUptoCardSaid : Prop := Claim7.holds Tryz.pinned (.plain (OpenSpec.upto lockedRawSpec)) lockedRawUptoCard

/-- THE SECOND FORM's CARD OF 'skipgraphlaw12.LockfreeFollows'. -/
def lockfreeFollowsUptoCard : Claim7 := { stood := { row := lockfreeFollowsUptoRow, standIns := [], harness := (true, "cdc85644419ab7371fe081e784b56f3c2d40805cd0bf373127b8608bcf238992"), looks := false }, kinds := [], alts := [], laidByText := true, laidKinds := [.data], laidTests := true, laidLooks := .later }
def LockfreeFollowsUptoCardSaid : Prop := Claim7.holds Tryz.pinned (.plain (OpenSpec.upto lockfreeFollowsSpec)) lockfreeFollowsUptoCard

/-- THE SECOND FORM's CARD OF 'skipgraphlaw12.LockfreeRaw'. -/
def lockfreeRawUptoCard : Claim7 := { stood := { row := lockfreeRawUptoRow, standIns := [], harness := (true, "cdc85644419ab7371fe081e784b56f3c2d40805cd0bf373127b8608bcf238992"), looks := false }, kinds := [], alts := [], laidByText := true, laidKinds := [.data], laidTests := true, laidLooks := .later }
def LockfreeRawUptoCardSaid : Prop := Claim7.holds Tryz.pinned (.plain (OpenSpec.upto lockfreeRawSpec)) lockfreeRawUptoCard
end Rows
end Go.Proofs.YtmhbloefmknikaaGreatDoor
