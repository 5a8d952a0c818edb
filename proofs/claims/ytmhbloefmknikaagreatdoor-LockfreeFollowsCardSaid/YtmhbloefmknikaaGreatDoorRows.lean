/-
  NARROWER THAN 'FOR EVERY INPUT', by the rows' own cells (each row's printed sentence says how): LockedFollows: laid · LockedRaw: laid · LockfreeFollows: laid · LockfreeRaw: laid.
  DERIVED. THE GIVEN ROWS OF THIS SEAT. 4 by the template 'for every input the law returns true; each argument reads behind the call as it read before'; 0 by the template 'total and deterministic' (their statements: YtmhbloefmknikaaGreatDoorTotals.lean).
  GIVEN WITH THE SEED: the statements are not yours to turn. If you find one false, say at which input.
  Laid BY PROGRAM, IN A SANDBOX (cutbox-rows.mjs): the forced cells as the released guide's own fill.sh prints them over the translation 898ffbc77aef5e79… (all of the seat's roots in one cut). By AI agents, Wed Nov 11 2026. No macro, syntax, notation, axiom, sorry.
-/
import Derived.Test.YtmhbloefmknikaaGreatDoorChecked
import GoSem.Claim
import GoSem.ClaimJoined
import GoSem.ClaimMapViews
import Derived.JoinedTies
import Derived.KernelRfl
namespace Go.Proofs.YtmhbloefmknikaaGreatDoor
/- THE CELL 'sum', in the pinned program and in every row, IS THE sha256 OF THE DUMP (.gsa) THAT YtmhbloefmknikaaGreatDoorProg.lean LOADS. Nothing in Lean hashes anything: it is a label: what it is worth is what the hold of that sum in a sandbox is worth. -/
noncomputable def Tryz.pinned : Pinned := { name := "ytmhbloefmknikaagreatdoor", sum := "898ffbc77aef5e79296b1a3281d5039a729d2c041e736e317c0a354d85c0fb56", checked := Tryz.checked }
namespace Rows
def none {H : Type} : Left H := { results := [], args := [] }

/- WHAT THE LISTED PACKAGE-LEVEL VARIABLES READ AS WHEN THE CALL BEGINS. Each datum BY PROGRAM (the guide's laid-datum.mjs) off the statement by which the dump's own 'gosem.cut.vars' lays the variable. In a bare row this is a premise. The card (YtmhbloefmknikaaGreatDoorCards.lean) ties it to the program's text. -/
def laid_skipgraph_skipgraphworld_letters {H : Type} : DataW H := .agg [.lit (.string [97]), .lit (.string [98]), .lit (.string [99]), .lit (.string [0]), .lit (.string [255]), .lit (.string [109])]

/-- 'skipgraphlaw11.LockedFollows': WHATEVER THE INPUT: true; the input reads as it did. -/
def lockedFollowsSpec : ChangeSpec := { name := "lockedFollows", fn := fun _ => fun
  | [d1, d2, d3, d4] => { results := [.lit (.bool true)], args := [d1, d2, d3, d4] }
  | _ => none }
def lockedFollowsRow : OpenClaim := { program := "ytmhbloefmknikaagreatdoor", sum := "898ffbc77aef5e79296b1a3281d5039a729d2c041e736e317c0a354d85c0fb56", func := "skipgraph/skipgraphlaw11.LockedFollows", spec := "lockedFollows", unfollowed := true, recurses := true, named := ["skipgraph/skipgraphworld.letters"], apart := false, laid := [("skipgraph/skipgraphworld.letters", laid_skipgraph_skipgraphworld_letters)] }
def LockedFollowsSaid : Prop := lockedFollowsRow.holds Tryz.pinned (OpenSpec.ofChange lockedFollowsSpec)

/-- ITS FALSE NEIGHBOUR: 'it returns false'. Refute it at one input. -/
def lockedFollowsWrong : ChangeSpec := { name := "lockedFollows", fn := fun _ => fun
  | [d1, d2, d3, d4] => { results := [.lit (.bool false)], args := [d1, d2, d3, d4] }
  | _ => none }
def LockedFollowsWrongFalsely : Prop := lockedFollowsRow.holds Tryz.pinned (OpenSpec.ofChange lockedFollowsWrong)

/-- 'skipgraphlaw11.LockedRaw': WHATEVER THE INPUT: true; the input reads as it did. -/
def lockedRawSpec : ChangeSpec := { name := "lockedRaw", fn := fun _ => fun
  | [d1, d2, d3, d4, d5] => { results := [.lit (.bool true)], args := [d1, d2, d3, d4, d5] }
  | _ => none }
def lockedRawRow : OpenClaim := { program := "ytmhbloefmknikaagreatdoor", sum := "898ffbc77aef5e79296b1a3281d5039a729d2c041e736e317c0a354d85c0fb56", func := "skipgraph/skipgraphlaw11.LockedRaw", spec := "lockedRaw", unfollowed := true, recurses := true, named := ["skipgraph/skipgraphworld.letters"], apart := false, laid := [("skipgraph/skipgraphworld.letters", laid_skipgraph_skipgraphworld_letters)] }
def LockedRawSaid : Prop := lockedRawRow.holds Tryz.pinned (OpenSpec.ofChange lockedRawSpec)

/-- ITS FALSE NEIGHBOUR: 'it returns false'. Refute it at one input. -/
def lockedRawWrong : ChangeSpec := { name := "lockedRaw", fn := fun _ => fun
  | [d1, d2, d3, d4, d5] => { results := [.lit (.bool false)], args := [d1, d2, d3, d4, d5] }
  | _ => none }
def LockedRawWrongFalsely : Prop := lockedRawRow.holds Tryz.pinned (OpenSpec.ofChange lockedRawWrong)

/-- 'skipgraphlaw12.LockfreeFollows': WHATEVER THE INPUT: true; the input reads as it did. -/
def lockfreeFollowsSpec : ChangeSpec := { name := "lockfreeFollows", fn := fun _ => fun
  | [d1, d2, d3, d4] => { results := [.lit (.bool true)], args := [d1, d2, d3, d4] }
  | _ => none }
def lockfreeFollowsRow : OpenClaim := { program := "ytmhbloefmknikaagreatdoor", sum := "898ffbc77aef5e79296b1a3281d5039a729d2c041e736e317c0a354d85c0fb56", func := "skipgraph/skipgraphlaw12.LockfreeFollows", spec := "lockfreeFollows", unfollowed := true, recurses := true, named := ["skipgraph/skipgraphworld.letters"], apart := false, laid := [("skipgraph/skipgraphworld.letters", laid_skipgraph_skipgraphworld_letters)] }
def LockfreeFollowsSaid : Prop := lockfreeFollowsRow.holds Tryz.pinned (OpenSpec.ofChange lockfreeFollowsSpec)

/-- ITS FALSE NEIGHBOUR: 'it returns false'. Refute it at one input. -/
def lockfreeFollowsWrong : ChangeSpec := { name := "lockfreeFollows", fn := fun _ => fun
  | [d1, d2, d3, d4] => { results := [.lit (.bool false)], args := [d1, d2, d3, d4] }
  | _ => none }
def LockfreeFollowsWrongFalsely : Prop := lockfreeFollowsRow.holds Tryz.pinned (OpenSpec.ofChange lockfreeFollowsWrong)

/-- 'skipgraphlaw12.LockfreeRaw': WHATEVER THE INPUT: true; the input reads as it did. -/
def lockfreeRawSpec : ChangeSpec := { name := "lockfreeRaw", fn := fun _ => fun
  | [d1, d2, d3, d4, d5] => { results := [.lit (.bool true)], args := [d1, d2, d3, d4, d5] }
  | _ => none }
def lockfreeRawRow : OpenClaim := { program := "ytmhbloefmknikaagreatdoor", sum := "898ffbc77aef5e79296b1a3281d5039a729d2c041e736e317c0a354d85c0fb56", func := "skipgraph/skipgraphlaw12.LockfreeRaw", spec := "lockfreeRaw", unfollowed := true, recurses := true, named := ["skipgraph/skipgraphworld.letters"], apart := false, laid := [("skipgraph/skipgraphworld.letters", laid_skipgraph_skipgraphworld_letters)] }
def LockfreeRawSaid : Prop := lockfreeRawRow.holds Tryz.pinned (OpenSpec.ofChange lockfreeRawSpec)

/-- ITS FALSE NEIGHBOUR: 'it returns false'. Refute it at one input. -/
def lockfreeRawWrong : ChangeSpec := { name := "lockfreeRaw", fn := fun _ => fun
  | [d1, d2, d3, d4, d5] => { results := [.lit (.bool false)], args := [d1, d2, d3, d4, d5] }
  | _ => none }
def LockfreeRawWrongFalsely : Prop := lockfreeRawRow.holds Tryz.pinned (OpenSpec.ofChange lockfreeRawWrong)

/- THE SECOND FORM. 'bulk': how many values and letters a reading holds, each counted each time it is reached (what is shared counts as often as it is met; a slice's spare places count too). A statement '..UptoSaid' is the law's where the arguments, and the package variables that the reading takes, are together of bulk at most 1048576: NARROWER than '..Said'. Prove '..Said' where nothing that the law and all that it calls make is longer than what came in: it says more and counts as full. Else prove '..UptoSaid'. A law counts once. -/
mutual
def uptoBulk {H : Type} : DataW H → Nat
  | .lit (.string bytes) => bytes.length + 1
  | .lit _ => 1
  | .nil => 1
  | .ptr d => uptoBulk d + 1
  | .slice elems spare => uptoBulkAll elems + uptoBulkAll spare + 1
  | .agg parts => uptoBulkAll parts + 1
  | .iface _ d => uptoBulk d + 1
  | .map entries => uptoBulkEntries entries + 1
  | .held _ => 1
def uptoBulkAll {H : Type} : List (DataW H) → Nat
  | [] => 0
  | d :: r => uptoBulk d + uptoBulkAll r
def uptoBulkEntries {H : Type} : List (Lit × DataW H) → Nat
  | [] => 0
  | x :: r => uptoBulkEntry x + uptoBulkEntries r
def uptoBulkEntry {H : Type} : Lit × DataW H → Nat
  | (.string bytes, d) => bytes.length + uptoBulk d + 1
  | (_, d) => uptoBulk d + 1
 end
def uptoSmall : (H : Type) → List (DataW H) → Bool := fun _ ds => decide (uptoBulkAll ds ≤ 1048576)
def OpenSpec.upto (s : _root_.Go.ChangeSpec) : _root_.Go.OpenSpec := { _root_.Go.OpenSpec.ofChange s with cond := some uptoSmall }

/-- 'skipgraphlaw11.LockedFollows', WHERE WHAT IT READS IS OF BULK AT MOST 1048576: true; the input reads as it did. -/
def lockedFollowsUptoRow : OpenClaim := { program := "ytmhbloefmknikaagreatdoor", sum := "898ffbc77aef5e79296b1a3281d5039a729d2c041e736e317c0a354d85c0fb56", func := "skipgraph/skipgraphlaw11.LockedFollows", spec := "lockedFollows", unfollowed := true, recurses := true, named := ["skipgraph/skipgraphworld.letters"], apart := false, laid := [("skipgraph/skipgraphworld.letters", laid_skipgraph_skipgraphworld_letters)], narrowed := true }
def LockedFollowsUptoSaid : Prop := lockedFollowsUptoRow.holds Tryz.pinned (OpenSpec.upto lockedFollowsSpec)

/-- 'skipgraphlaw11.LockedRaw', WHERE WHAT IT READS IS OF BULK AT MOST 1048576: true; the input reads as it did. -/
def lockedRawUptoRow : OpenClaim := { program := "ytmhbloefmknikaagreatdoor", sum := "898ffbc77aef5e79296b1a3281d5039a729d2c041e736e317c0a354d85c0fb56", func := "skipgraph/skipgraphlaw11.LockedRaw", spec := "lockedRaw", unfollowed := true, recurses := true, named := ["skipgraph/skipgraphworld.letters"], apart := false, laid := [("skipgraph/skipgraphworld.letters", laid_skipgraph_skipgraphworld_letters)], narrowed := true }
def LockedRawUptoSaid : Prop := lockedRawUptoRow.holds Tryz.pinned (OpenSpec.upto lockedRawSpec)

/-- 'skipgraphlaw12.LockfreeFollows', WHERE WHAT IT READS IS OF BULK AT MOST 1048576: true; the input reads as it did. -/
def lockfreeFollowsUptoRow : OpenClaim := { program := "ytmhbloefmknikaagreatdoor", sum := "898ffbc77aef5e79296b1a3281d5039a729d2c041e736e317c0a354d85c0fb56", func := "skipgraph/skipgraphlaw12.LockfreeFollows", spec := "lockfreeFollows", unfollowed := true, recurses := true, named := ["skipgraph/skipgraphworld.letters"], apart := false, laid := [("skipgraph/skipgraphworld.letters", laid_skipgraph_skipgraphworld_letters)], narrowed := true }
def LockfreeFollowsUptoSaid : Prop := lockfreeFollowsUptoRow.holds Tryz.pinned (OpenSpec.upto lockfreeFollowsSpec)

/-- 'skipgraphlaw12.LockfreeRaw', WHERE WHAT IT READS IS OF BULK AT MOST 1048576: true; the input reads as it did. -/
def lockfreeRawUptoRow : OpenClaim := { program := "ytmhbloefmknikaagreatdoor", sum := "898ffbc77aef5e79296b1a3281d5039a729d2c041e736e317c0a354d85c0fb56", func := "skipgraph/skipgraphlaw12.LockfreeRaw", spec := "lockfreeRaw", unfollowed := true, recurses := true, named := ["skipgraph/skipgraphworld.letters"], apart := false, laid := [("skipgraph/skipgraphworld.letters", laid_skipgraph_skipgraphworld_letters)], narrowed := true }
def LockfreeRawUptoSaid : Prop := lockfreeRawUptoRow.holds Tryz.pinned (OpenSpec.upto lockfreeRawSpec)

end Rows
end Go.Proofs.YtmhbloefmknikaaGreatDoor
