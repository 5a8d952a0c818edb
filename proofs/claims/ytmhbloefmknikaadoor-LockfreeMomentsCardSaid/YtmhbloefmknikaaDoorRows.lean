/-
  NARROWER THAN 'FOR EVERY INPUT', by the rows' own cells (each row's printed sentence says how): LockedMoments: laid · LockfreeMakes: laid · LockfreeKeeps: laid · LockfreeChanges: laid · LockfreeMoments: laid · LockfreeEnds: laid · LockfreeSerial: laid.
  DERIVED. THE GIVEN ROWS OF THIS SEAT. 7 by the template 'for every input the law returns true; each argument reads behind the call as it read before'; 0 by the template 'total and deterministic' (their statements: YtmhbloefmknikaaDoorTotals.lean).
  GIVEN WITH THE SEED: the statements are not yours to turn. If you find one false, say at which input.
  Laid BY PROGRAM, IN A SANDBOX (cutbox-rows.mjs): the forced cells as the released guide's own fill.sh prints them over the translation 069f69cf1cc515ef… (all of the seat's roots in one cut). By AI agents, Wed Nov 11 2026. No macro, syntax, notation, axiom, sorry.
-/
import Derived.Test.YtmhbloefmknikaaDoorChecked
import GoSem.Claim
import GoSem.ClaimJoined
import GoSem.ClaimMapViews
import Derived.JoinedTies
import Derived.KernelRfl
namespace Go.Proofs.YtmhbloefmknikaaDoor
/- THE CELL 'sum', in the pinned program and in every row, IS THE sha256 OF THE DUMP (.gsa) THAT YtmhbloefmknikaaDoorProg.lean LOADS. Nothing in Lean hashes anything: it is a label: what it is worth is what the hold of that sum in a sandbox is worth. -/
noncomputable def Tryd.pinned : Pinned := { name := "ytmhbloefmknikaadoor", sum := "069f69cf1cc515ef7c621bb17e35d355d6462bd8cb6f5203d540ce0fafea6af1", checked := Tryd.checked }
namespace Rows
def none {H : Type} : Left H := { results := [], args := [] }

/- WHAT THE LISTED PACKAGE-LEVEL VARIABLES READ AS WHEN THE CALL BEGINS. Each datum BY PROGRAM (the guide's laid-datum.mjs) off the statement by which the dump's own 'gosem.cut.vars' lays the variable. In a bare row this is a premise. The card (YtmhbloefmknikaaDoorCards.lean) ties it to the program's text. -/
def laid_skipgraph_skipgraphworld_letters {H : Type} : DataW H := .agg [.lit (.string [97]), .lit (.string [98]), .lit (.string [99]), .lit (.string [0]), .lit (.string [255]), .lit (.string [109])]

/-- 'skipgraphlaw11.LockedMoments': WHATEVER THE INPUT: true; the input reads as it did. -/
def lockedMomentsSpec : ChangeSpec := { name := "lockedMoments", fn := fun _ => fun
  | [d] => { results := [.lit (.bool true)], args := [d] }
  | _ => none }
def lockedMomentsRow : OpenClaim := { program := "ytmhbloefmknikaadoor", sum := "069f69cf1cc515ef7c621bb17e35d355d6462bd8cb6f5203d540ce0fafea6af1", func := "skipgraph/skipgraphlaw11.LockedMoments", spec := "lockedMoments", unfollowed := true, recurses := true, named := ["skipgraph/skipgraphworld.letters"], apart := false, laid := [("skipgraph/skipgraphworld.letters", laid_skipgraph_skipgraphworld_letters)] }
def LockedMomentsSaid : Prop := lockedMomentsRow.holds Tryd.pinned (OpenSpec.ofChange lockedMomentsSpec)

/-- ITS FALSE NEIGHBOUR: 'it returns false'. Refute it at one input. -/
def lockedMomentsWrong : ChangeSpec := { name := "lockedMoments", fn := fun _ => fun
  | [d] => { results := [.lit (.bool false)], args := [d] }
  | _ => none }
def LockedMomentsWrongFalsely : Prop := lockedMomentsRow.holds Tryd.pinned (OpenSpec.ofChange lockedMomentsWrong)

/-- 'skipgraphlaw12.LockfreeMakes': WHATEVER THE INPUT: true; the input reads as it did. -/
def lockfreeMakesSpec : ChangeSpec := { name := "lockfreeMakes", fn := fun _ => fun
  | [d1, d2, d3, d4] => { results := [.lit (.bool true)], args := [d1, d2, d3, d4] }
  | _ => none }
def lockfreeMakesRow : OpenClaim := { program := "ytmhbloefmknikaadoor", sum := "069f69cf1cc515ef7c621bb17e35d355d6462bd8cb6f5203d540ce0fafea6af1", func := "skipgraph/skipgraphlaw12.LockfreeMakes", spec := "lockfreeMakes", unfollowed := true, recurses := true, named := ["skipgraph/skipgraphworld.letters"], apart := false, laid := [("skipgraph/skipgraphworld.letters", laid_skipgraph_skipgraphworld_letters)] }
def LockfreeMakesSaid : Prop := lockfreeMakesRow.holds Tryd.pinned (OpenSpec.ofChange lockfreeMakesSpec)

/-- ITS FALSE NEIGHBOUR: 'it returns false'. Refute it at one input. -/
def lockfreeMakesWrong : ChangeSpec := { name := "lockfreeMakes", fn := fun _ => fun
  | [d1, d2, d3, d4] => { results := [.lit (.bool false)], args := [d1, d2, d3, d4] }
  | _ => none }
def LockfreeMakesWrongFalsely : Prop := lockfreeMakesRow.holds Tryd.pinned (OpenSpec.ofChange lockfreeMakesWrong)

/-- 'skipgraphlaw12.LockfreeKeeps': WHATEVER THE INPUT: true; the input reads as it did. -/
def lockfreeKeepsSpec : ChangeSpec := { name := "lockfreeKeeps", fn := fun _ => fun
  | [d] => { results := [.lit (.bool true)], args := [d] }
  | _ => none }
def lockfreeKeepsRow : OpenClaim := { program := "ytmhbloefmknikaadoor", sum := "069f69cf1cc515ef7c621bb17e35d355d6462bd8cb6f5203d540ce0fafea6af1", func := "skipgraph/skipgraphlaw12.LockfreeKeeps", spec := "lockfreeKeeps", unfollowed := true, recurses := true, named := ["skipgraph/skipgraphworld.letters"], apart := false, laid := [("skipgraph/skipgraphworld.letters", laid_skipgraph_skipgraphworld_letters)] }
def LockfreeKeepsSaid : Prop := lockfreeKeepsRow.holds Tryd.pinned (OpenSpec.ofChange lockfreeKeepsSpec)

/-- ITS FALSE NEIGHBOUR: 'it returns false'. Refute it at one input. -/
def lockfreeKeepsWrong : ChangeSpec := { name := "lockfreeKeeps", fn := fun _ => fun
  | [d] => { results := [.lit (.bool false)], args := [d] }
  | _ => none }
def LockfreeKeepsWrongFalsely : Prop := lockfreeKeepsRow.holds Tryd.pinned (OpenSpec.ofChange lockfreeKeepsWrong)

/-- 'skipgraphlaw12.LockfreeChanges': WHATEVER THE INPUT: true; the input reads as it did. -/
def lockfreeChangesSpec : ChangeSpec := { name := "lockfreeChanges", fn := fun _ => fun
  | [d] => { results := [.lit (.bool true)], args := [d] }
  | _ => none }
def lockfreeChangesRow : OpenClaim := { program := "ytmhbloefmknikaadoor", sum := "069f69cf1cc515ef7c621bb17e35d355d6462bd8cb6f5203d540ce0fafea6af1", func := "skipgraph/skipgraphlaw12.LockfreeChanges", spec := "lockfreeChanges", unfollowed := true, recurses := true, named := ["skipgraph/skipgraphworld.letters"], apart := false, laid := [("skipgraph/skipgraphworld.letters", laid_skipgraph_skipgraphworld_letters)] }
def LockfreeChangesSaid : Prop := lockfreeChangesRow.holds Tryd.pinned (OpenSpec.ofChange lockfreeChangesSpec)

/-- ITS FALSE NEIGHBOUR: 'it returns false'. Refute it at one input. -/
def lockfreeChangesWrong : ChangeSpec := { name := "lockfreeChanges", fn := fun _ => fun
  | [d] => { results := [.lit (.bool false)], args := [d] }
  | _ => none }
def LockfreeChangesWrongFalsely : Prop := lockfreeChangesRow.holds Tryd.pinned (OpenSpec.ofChange lockfreeChangesWrong)

/-- 'skipgraphlaw12.LockfreeMoments': WHATEVER THE INPUT: true; the input reads as it did. -/
def lockfreeMomentsSpec : ChangeSpec := { name := "lockfreeMoments", fn := fun _ => fun
  | [d] => { results := [.lit (.bool true)], args := [d] }
  | _ => none }
def lockfreeMomentsRow : OpenClaim := { program := "ytmhbloefmknikaadoor", sum := "069f69cf1cc515ef7c621bb17e35d355d6462bd8cb6f5203d540ce0fafea6af1", func := "skipgraph/skipgraphlaw12.LockfreeMoments", spec := "lockfreeMoments", unfollowed := true, recurses := true, named := ["skipgraph/skipgraphworld.letters"], apart := false, laid := [("skipgraph/skipgraphworld.letters", laid_skipgraph_skipgraphworld_letters)] }
def LockfreeMomentsSaid : Prop := lockfreeMomentsRow.holds Tryd.pinned (OpenSpec.ofChange lockfreeMomentsSpec)

/-- ITS FALSE NEIGHBOUR: 'it returns false'. Refute it at one input. -/
def lockfreeMomentsWrong : ChangeSpec := { name := "lockfreeMoments", fn := fun _ => fun
  | [d] => { results := [.lit (.bool false)], args := [d] }
  | _ => none }
def LockfreeMomentsWrongFalsely : Prop := lockfreeMomentsRow.holds Tryd.pinned (OpenSpec.ofChange lockfreeMomentsWrong)

/-- 'skipgraphlaw12.LockfreeEnds': WHATEVER THE INPUT: true; the input reads as it did. -/
def lockfreeEndsSpec : ChangeSpec := { name := "lockfreeEnds", fn := fun _ => fun
  | [d] => { results := [.lit (.bool true)], args := [d] }
  | _ => none }
def lockfreeEndsRow : OpenClaim := { program := "ytmhbloefmknikaadoor", sum := "069f69cf1cc515ef7c621bb17e35d355d6462bd8cb6f5203d540ce0fafea6af1", func := "skipgraph/skipgraphlaw12.LockfreeEnds", spec := "lockfreeEnds", unfollowed := true, recurses := true, named := ["skipgraph/skipgraphworld.letters"], apart := false, laid := [("skipgraph/skipgraphworld.letters", laid_skipgraph_skipgraphworld_letters)] }
def LockfreeEndsSaid : Prop := lockfreeEndsRow.holds Tryd.pinned (OpenSpec.ofChange lockfreeEndsSpec)

/-- ITS FALSE NEIGHBOUR: 'it returns false'. Refute it at one input. -/
def lockfreeEndsWrong : ChangeSpec := { name := "lockfreeEnds", fn := fun _ => fun
  | [d] => { results := [.lit (.bool false)], args := [d] }
  | _ => none }
def LockfreeEndsWrongFalsely : Prop := lockfreeEndsRow.holds Tryd.pinned (OpenSpec.ofChange lockfreeEndsWrong)

/-- 'skipgraphlaw12.LockfreeSerial': WHATEVER THE INPUT: true; the input reads as it did. -/
def lockfreeSerialSpec : ChangeSpec := { name := "lockfreeSerial", fn := fun _ => fun
  | [d] => { results := [.lit (.bool true)], args := [d] }
  | _ => none }
def lockfreeSerialRow : OpenClaim := { program := "ytmhbloefmknikaadoor", sum := "069f69cf1cc515ef7c621bb17e35d355d6462bd8cb6f5203d540ce0fafea6af1", func := "skipgraph/skipgraphlaw12.LockfreeSerial", spec := "lockfreeSerial", unfollowed := true, recurses := true, named := ["skipgraph/skipgraphworld.letters"], apart := false, laid := [("skipgraph/skipgraphworld.letters", laid_skipgraph_skipgraphworld_letters)] }
def LockfreeSerialSaid : Prop := lockfreeSerialRow.holds Tryd.pinned (OpenSpec.ofChange lockfreeSerialSpec)

/-- ITS FALSE NEIGHBOUR: 'it returns false'. Refute it at one input. -/
def lockfreeSerialWrong : ChangeSpec := { name := "lockfreeSerial", fn := fun _ => fun
  | [d] => { results := [.lit (.bool false)], args := [d] }
  | _ => none }
def LockfreeSerialWrongFalsely : Prop := lockfreeSerialRow.holds Tryd.pinned (OpenSpec.ofChange lockfreeSerialWrong)

/- THE SECOND FORM. 'bulk': how many values and letters a reading holds, each counted each time it is reached (what is shared counts as often as it is met; a slice's spare places count too). A statement '..UptoSaid' is the law's where the arguments, and the package variables that the reading takes, are together of bulk at most 1048576: NARROWER than '..Said'. Prove '..Said' where nothing that the law and all that it calls make is longer than what came in: it says more and counts as full. Else prove '..UptoSaid'. A law counts once. -/
mutual
def uptoBulk {H : Type} : DataW H → Nat
  | .lit (.string bytes) => bytes.length + 1
  | .lit _ => 1
  | .nil => 1
  | .ptr d => uptoBulk d + 1
  | .slice elems spare => uptoBulkAll elems + uptoBulkAll spare + 1
  | .agg parts => uptoBulkAll parts + 1
  | .iface _ d => uptoBulk d + 1
  | .map entries => uptoBulkEntries entries + 1
  | .held _ => 1
def uptoBulkAll {H : Type} : List (DataW H) → Nat
  | [] => 0
  | d :: r => uptoBulk d + uptoBulkAll r
def uptoBulkEntries {H : Type} : List (Lit × DataW H) → Nat
  | [] => 0
  | x :: r => uptoBulkEntry x + uptoBulkEntries r
def uptoBulkEntry {H : Type} : Lit × DataW H → Nat
  | (.string bytes, d) => bytes.length + uptoBulk d + 1
  | (_, d) => uptoBulk d + 1
 end
def uptoSmall : (H : Type) → List (DataW H) → Bool := fun _ ds => decide (uptoBulkAll ds ≤ 1048576)
def OpenSpec.upto (s : _root_.Go.ChangeSpec) : _root_.Go.OpenSpec := { _root_.Go.OpenSpec.ofChange s with cond := some uptoSmall }

/-- 'skipgraphlaw11.LockedMoments', WHERE WHAT IT READS IS OF BULK AT MOST 1048576: true; the input reads as it did. -/
def lockedMomentsUptoRow : OpenClaim := { program := "ytmhbloefmknikaadoor", sum := "069f69cf1cc515ef7c621bb17e35d355d6462bd8cb6f5203d540ce0fafea6af1", func := "skipgraph/skipgraphlaw11.LockedMoments", spec := "lockedMoments", unfollowed := true, recurses := true, named := ["skipgraph/skipgraphworld.letters"], apart := false, laid := [("skipgraph/skipgraphworld.letters", laid_skipgraph_skipgraphworld_letters)], narrowed := true }
def LockedMomentsUptoSaid : Prop := lockedMomentsUptoRow.holds Tryd.pinned (OpenSpec.upto lockedMomentsSpec)

/-- 'skipgraphlaw12.LockfreeMakes', WHERE WHAT IT READS IS OF BULK AT MOST 1048576: true; the input reads as it did. -/
def lockfreeMakesUptoRow : OpenClaim := { program := "ytmhbloefmknikaadoor", sum := "069f69cf1cc515ef7c621bb17e35d355d6462bd8cb6f5203d540ce0fafea6af1", func := "skipgraph/skipgraphlaw12.LockfreeMakes", spec := "lockfreeMakes", unfollowed := true, recurses := true, named := ["skipgraph/skipgraphworld.letters"], apart := false, laid := [("skipgraph/skipgraphworld.letters", laid_skipgraph_skipgraphworld_letters)], narrowed := true }
def LockfreeMakesUptoSaid : Prop := lockfreeMakesUptoRow.holds Tryd.pinned (OpenSpec.upto lockfreeMakesSpec)

/-- 'skipgraphlaw12.LockfreeKeeps', WHERE WHAT IT READS IS OF BULK AT MOST 1048576: true; the input reads as it did. -/
def lockfreeKeepsUptoRow : OpenClaim := { program := "ytmhbloefmknikaadoor", sum := "069f69cf1cc515ef7c621bb17e35d355d6462bd8cb6f5203d540ce0fafea6af1", func := "skipgraph/skipgraphlaw12.LockfreeKeeps", spec := "lockfreeKeeps", unfollowed := true, recurses := true, named := ["skipgraph/skipgraphworld.letters"], apart := false, laid := [("skipgraph/skipgraphworld.letters", laid_skipgraph_skipgraphworld_letters)], narrowed := true }
def LockfreeKeepsUptoSaid : Prop := lockfreeKeepsUptoRow.holds Tryd.pinned (OpenSpec.upto lockfreeKeepsSpec)

/-- 'skipgraphlaw12.LockfreeChanges', WHERE WHAT IT READS IS OF BULK AT MOST 1048576: true; the input reads as it did. -/
def lockfreeChangesUptoRow : OpenClaim := { program := "ytmhbloefmknikaadoor", sum := "069f69cf1cc515ef7c621bb17e35d355d6462bd8cb6f5203d540ce0fafea6af1", func := "skipgraph/skipgraphlaw12.LockfreeChanges", spec := "lockfreeChanges", unfollowed := true, recurses := true, named := ["skipgraph/skipgraphworld.letters"], apart := false, laid := [("skipgraph/skipgraphworld.letters", laid_skipgraph_skipgraphworld_letters)], narrowed := true }
def LockfreeChangesUptoSaid : Prop := lockfreeChangesUptoRow.holds Tryd.pinned (OpenSpec.upto lockfreeChangesSpec)

/-- 'skipgraphlaw12.LockfreeMoments', WHERE WHAT IT READS IS OF BULK AT MOST 1048576: true; the input reads as it did. -/
def lockfreeMomentsUptoRow : OpenClaim := { program := "ytmhbloefmknikaadoor", sum := "069f69cf1cc515ef7c621bb17e35d355d6462bd8cb6f5203d540ce0fafea6af1", func := "skipgraph/skipgraphlaw12.LockfreeMoments", spec := "lockfreeMoments", unfollowed := true, recurses := true, named := ["skipgraph/skipgraphworld.letters"], apart := false, laid := [("skipgraph/skipgraphworld.letters", laid_skipgraph_skipgraphworld_letters)], narrowed := true }
def LockfreeMomentsUptoSaid : Prop := lockfreeMomentsUptoRow.holds Tryd.pinned (OpenSpec.upto lockfreeMomentsSpec)

/-- 'skipgraphlaw12.LockfreeEnds', WHERE WHAT IT READS IS OF BULK AT MOST 1048576: true; the input reads as it did. -/
def lockfreeEndsUptoRow : OpenClaim := { program := "ytmhbloefmknikaadoor", sum := "069f69cf1cc515ef7c621bb17e35d355d6462bd8cb6f5203d540ce0fafea6af1", func := "skipgraph/skipgraphlaw12.LockfreeEnds", spec := "lockfreeEnds", unfollowed := true, recurses := true, named := ["skipgraph/skipgraphworld.letters"], apart := false, laid := [("skipgraph/skipgraphworld.letters", laid_skipgraph_skipgraphworld_letters)], narrowed := true }
def LockfreeEndsUptoSaid : Prop := lockfreeEndsUptoRow.holds Tryd.pinned (OpenSpec.upto lockfreeEndsSpec)

/-- 'skipgraphlaw12.LockfreeSerial', WHERE WHAT IT READS IS OF BULK AT MOST 1048576: true; the input reads as it did. -/
def lockfreeSerialUptoRow : OpenClaim := { program := "ytmhbloefmknikaadoor", sum := "069f69cf1cc515ef7c621bb17e35d355d6462bd8cb6f5203d540ce0fafea6af1", func := "skipgraph/skipgraphlaw12.LockfreeSerial", spec := "lockfreeSerial", unfollowed := true, recurses := true, named := ["skipgraph/skipgraphworld.letters"], apart := false, laid := [("skipgraph/skipgraphworld.letters", laid_skipgraph_skipgraphworld_letters)], narrowed := true }
def LockfreeSerialUptoSaid : Prop := lockfreeSerialUptoRow.holds Tryd.pinned (OpenSpec.upto lockfreeSerialSpec)

end Rows
end Go.Proofs.YtmhbloefmknikaaDoor
