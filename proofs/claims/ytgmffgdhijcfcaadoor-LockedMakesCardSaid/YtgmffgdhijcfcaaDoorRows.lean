/-
  NARROWER THAN 'FOR EVERY INPUT', by the rows' own cells (each row's printed sentence says how): LockedMakes: laid · LockedKeeps: laid · LockedChanges: laid · LockedMoments: laid · LockedEnds: laid · LockedSerial: laid.
  DERIVED. THE GIVEN ROWS OF THIS SEAT. 6 by the template 'for every input the law returns true; each argument reads behind the call as it read before'; 0 by the template 'total and deterministic' (their statements: YtgmffgdhijcfcaaDoorTotals.lean).
  GIVEN WITH THE SEED: the statements are not yours to turn. If you find one false, say at which input.
  Laid BY PROGRAM, IN A SANDBOX (cutbox-rows.mjs): the forced cells as the released guide's own fill.sh prints them over the translation 73a026e016d80d1c… (all of the seat's roots in one cut). By AI agents, Wed Nov 11 2026. No macro, syntax, notation, axiom, sorry.
-/
import Derived.Test.YtgmffgdhijcfcaaDoorChecked
import GoSem.Claim
import GoSem.ClaimJoined
import GoSem.ClaimMapViews
import Derived.JoinedTies
import Derived.KernelRfl
namespace Go.Proofs.YtgmffgdhijcfcaaDoor
/- THE CELL 'sum', in the pinned program and in every row, IS THE sha256 OF THE DUMP (.gsa) THAT YtgmffgdhijcfcaaDoorProg.lean LOADS. Nothing in Lean hashes anything: it is a label: what it is worth is what the hold of that sum in a sandbox is worth. -/
noncomputable def Tryd.pinned : Pinned := { name := "ytgmffgdhijcfcaadoor", sum := "73a026e016d80d1c5ca065e7c4b1507c5cd944fcdbb58b715997801111be6235", checked := Tryd.checked }
namespace Rows
def none {H : Type} : Left H := { results := [], args := [] }

/- WHAT THE LISTED PACKAGE-LEVEL VARIABLES READ AS WHEN THE CALL BEGINS. Each datum BY PROGRAM (the guide's laid-datum.mjs) off the statement by which the dump's own 'gosem.cut.vars' lays the variable. In a bare row this is a premise. The card (YtgmffgdhijcfcaaDoorCards.lean) ties it to the program's text. -/
def laid_skipgraph_skipgraphworld_letters {H : Type} : DataW H := .agg [.lit (.string [97]), .lit (.string [98]), .lit (.string [99]), .lit (.string [0]), .lit (.string [255]), .lit (.string [109])]

/-- 'skipgraphlaw11.LockedMakes': WHATEVER THE INPUT: true; the input reads as it did. -/
def lockedMakesSpec : ChangeSpec := { name := "lockedMakes", fn := fun _ => fun
  | [d1, d2, d3, d4] => { results := [.lit (.bool true)], args := [d1, d2, d3, d4] }
  | _ => none }
def lockedMakesRow : OpenClaim := { program := "ytgmffgdhijcfcaadoor", sum := "73a026e016d80d1c5ca065e7c4b1507c5cd944fcdbb58b715997801111be6235", func := "skipgraph/skipgraphlaw11.LockedMakes", spec := "lockedMakes", unfollowed := true, recurses := true, named := ["skipgraph/skipgraphworld.letters"], apart := false, laid := [("skipgraph/skipgraphworld.letters", laid_skipgraph_skipgraphworld_letters)] }
def LockedMakesSaid : Prop := lockedMakesRow.holds Tryd.pinned (OpenSpec.ofChange lockedMakesSpec)

/-- ITS FALSE NEIGHBOUR: 'it returns false'. Refute it at one input. -/
def lockedMakesWrong : ChangeSpec := { name := "lockedMakes", fn := fun _ => fun
  | [d1, d2, d3, d4] => { results := [.lit (.bool false)], args := [d1, d2, d3, d4] }
  | _ => none }
def LockedMakesWrongFalsely : Prop := lockedMakesRow.holds Tryd.pinned (OpenSpec.ofChange lockedMakesWrong)

/-- 'skipgraphlaw11.LockedKeeps': WHATEVER THE INPUT: true; the input reads as it did. -/
def lockedKeepsSpec : ChangeSpec := { name := "lockedKeeps", fn := fun _ => fun
  | [d] => { results := [.lit (.bool true)], args := [d] }
  | _ => none }
def lockedKeepsRow : OpenClaim := { program := "ytgmffgdhijcfcaadoor", sum := "73a026e016d80d1c5ca065e7c4b1507c5cd944fcdbb58b715997801111be6235", func := "skipgraph/skipgraphlaw11.LockedKeeps", spec := "lockedKeeps", unfollowed := true, recurses := true, named := ["skipgraph/skipgraphworld.letters"], apart := false, laid := [("skipgraph/skipgraphworld.letters", laid_skipgraph_skipgraphworld_letters)] }
def LockedKeepsSaid : Prop := lockedKeepsRow.holds Tryd.pinned (OpenSpec.ofChange lockedKeepsSpec)

/-- ITS FALSE NEIGHBOUR: 'it returns false'. Refute it at one input. -/
def lockedKeepsWrong : ChangeSpec := { name := "lockedKeeps", fn := fun _ => fun
  | [d] => { results := [.lit (.bool false)], args := [d] }
  | _ => none }
def LockedKeepsWrongFalsely : Prop := lockedKeepsRow.holds Tryd.pinned (OpenSpec.ofChange lockedKeepsWrong)

/-- 'skipgraphlaw11.LockedChanges': WHATEVER THE INPUT: true; the input reads as it did. -/
def lockedChangesSpec : ChangeSpec := { name := "lockedChanges", fn := fun _ => fun
  | [d] => { results := [.lit (.bool true)], args := [d] }
  | _ => none }
def lockedChangesRow : OpenClaim := { program := "ytgmffgdhijcfcaadoor", sum := "73a026e016d80d1c5ca065e7c4b1507c5cd944fcdbb58b715997801111be6235", func := "skipgraph/skipgraphlaw11.LockedChanges", spec := "lockedChanges", unfollowed := true, recurses := true, named := ["skipgraph/skipgraphworld.letters"], apart := false, laid := [("skipgraph/skipgraphworld.letters", laid_skipgraph_skipgraphworld_letters)] }
def LockedChangesSaid : Prop := lockedChangesRow.holds Tryd.pinned (OpenSpec.ofChange lockedChangesSpec)

/-- ITS FALSE NEIGHBOUR: 'it returns false'. Refute it at one input. -/
def lockedChangesWrong : ChangeSpec := { name := "lockedChanges", fn := fun _ => fun
  | [d] => { results := [.lit (.bool false)], args := [d] }
  | _ => none }
def LockedChangesWrongFalsely : Prop := lockedChangesRow.holds Tryd.pinned (OpenSpec.ofChange lockedChangesWrong)

/-- 'skipgraphlaw11.LockedMoments': WHATEVER THE INPUT: true; the input reads as it did. -/
def lockedMomentsSpec : ChangeSpec := { name := "lockedMoments", fn := fun _ => fun
  | [d] => { results := [.lit (.bool true)], args := [d] }
  | _ => none }
def lockedMomentsRow : OpenClaim := { program := "ytgmffgdhijcfcaadoor", sum := "73a026e016d80d1c5ca065e7c4b1507c5cd944fcdbb58b715997801111be6235", func := "skipgraph/skipgraphlaw11.LockedMoments", spec := "lockedMoments", unfollowed := true, recurses := true, named := ["skipgraph/skipgraphworld.letters"], apart := false, laid := [("skipgraph/skipgraphworld.letters", laid_skipgraph_skipgraphworld_letters)] }
def LockedMomentsSaid : Prop := lockedMomentsRow.holds Tryd.pinned (OpenSpec.ofChange lockedMomentsSpec)

/-- ITS FALSE NEIGHBOUR: 'it returns false'. Refute it at one input. -/
def lockedMomentsWrong : ChangeSpec := { name := "lockedMoments", fn := fun _ => fun
  | [d] => { results := [.lit (.bool false)], args := [d] }
  | _ => none }
def LockedMomentsWrongFalsely : Prop := lockedMomentsRow.holds Tryd.pinned (OpenSpec.ofChange lockedMomentsWrong)

/-- 'skipgraphlaw11.LockedEnds': WHATEVER THE INPUT: true; the input reads as it did. -/
def lockedEndsSpec : ChangeSpec := { name := "lockedEnds", fn := fun _ => fun
  | [d] => { results := [.lit (.bool true)], args := [d] }
  | _ => none }
def lockedEndsRow : OpenClaim := { program := "ytgmffgdhijcfcaadoor", sum := "73a026e016d80d1c5ca065e7c4b1507c5cd944fcdbb58b715997801111be6235", func := "skipgraph/skipgraphlaw11.LockedEnds", spec := "lockedEnds", unfollowed := true, recurses := true, named := ["skipgraph/skipgraphworld.letters"], apart := false, laid := [("skipgraph/skipgraphworld.letters", laid_skipgraph_skipgraphworld_letters)] }
def LockedEndsSaid : Prop := lockedEndsRow.holds Tryd.pinned (OpenSpec.ofChange lockedEndsSpec)

/-- ITS FALSE NEIGHBOUR: 'it returns false'. Refute it at one input. -/
def lockedEndsWrong : ChangeSpec := { name := "lockedEnds", fn := fun _ => fun
  | [d] => { results := [.lit (.bool false)], args := [d] }
  | _ => none }
def LockedEndsWrongFalsely : Prop := lockedEndsRow.holds Tryd.pinned (OpenSpec.ofChange lockedEndsWrong)

/-- 'skipgraphlaw11.LockedSerial': WHATEVER THE INPUT: true; the input reads as it did. -/
def lockedSerialSpec : ChangeSpec := { name := "lockedSerial", fn := fun _ => fun
  | [d] => { results := [.lit (.bool true)], args := [d] }
  | _ => none }
def lockedSerialRow : OpenClaim := { program := "ytgmffgdhijcfcaadoor", sum := "73a026e016d80d1c5ca065e7c4b1507c5cd944fcdbb58b715997801111be6235", func := "skipgraph/skipgraphlaw11.LockedSerial", spec := "lockedSerial", unfollowed := true, recurses := true, named := ["skipgraph/skipgraphworld.letters"], apart := false, laid := [("skipgraph/skipgraphworld.letters", laid_skipgraph_skipgraphworld_letters)] }
def LockedSerialSaid : Prop := lockedSerialRow.holds Tryd.pinned (OpenSpec.ofChange lockedSerialSpec)

/-- ITS FALSE NEIGHBOUR: 'it returns false'. Refute it at one input. -/
def lockedSerialWrong : ChangeSpec := { name := "lockedSerial", fn := fun _ => fun
  | [d] => { results := [.lit (.bool false)], args := [d] }
  | _ => none }
def LockedSerialWrongFalsely : Prop := lockedSerialRow.holds Tryd.pinned (OpenSpec.ofChange lockedSerialWrong)

/- THE SECOND FORM. 'bulk': how many values and letters a reading holds, each counted each time it is reached (what is shared counts as often as it is met; a slice's spare places count too). A statement '..UptoSaid' is the law's where the arguments, and the package variables that the reading takes, are together of bulk at most 1048576: NARROWER than '..Said'. Prove '..Said' where nothing that the law and all that it calls make is longer than what came in: it says more and counts as full. Else prove '..UptoSaid'. A law counts once. -/
mutual
def uptoBulk {H : Type} : DataW H → Nat
  | .lit (.string bytes) => bytes.length + 1
  | .lit _ => 1
  | .nil => 1
  | .ptr d => uptoBulk d + 1
  | .slice elems spare => uptoBulkAll elems + uptoBulkAll spare + 1
  | .agg parts => uptoBulkAll parts + 1
  | .iface _ d => uptoBulk d + 1
  | .map entries => uptoBulkEntries entries + 1
  | .held _ => 1
def uptoBulkAll {H : Type} : List (DataW H) → Nat
  | [] => 0
  | d :: r => uptoBulk d + uptoBulkAll r
def uptoBulkEntries {H : Type} : List (Lit × DataW H) → Nat
  | [] => 0
  | x :: r => uptoBulkEntry x + uptoBulkEntries r
def uptoBulkEntry {H : Type} : Lit × DataW H → Nat
  | (.string bytes, d) => bytes.length + uptoBulk d + 1
  | (_, d) => uptoBulk d + 1
 end
def uptoSmall : (H : Type) → List (DataW H) → Bool := fun _ ds => decide (uptoBulkAll ds ≤ 1048576)
def OpenSpec.upto (s : _root_.Go.ChangeSpec) : _root_.Go.OpenSpec := { _root_.Go.OpenSpec.ofChange s with cond := some uptoSmall }

/-- 'skipgraphlaw11.LockedMakes', WHERE WHAT IT READS IS OF BULK AT MOST 1048576: true; the input reads as it did. -/
def lockedMakesUptoRow : OpenClaim := { program := "ytgmffgdhijcfcaadoor", sum := "73a026e016d80d1c5ca065e7c4b1507c5cd944fcdbb58b715997801111be6235", func := "skipgraph/skipgraphlaw11.LockedMakes", spec := "lockedMakes", unfollowed := true, recurses := true, named := ["skipgraph/skipgraphworld.letters"], apart := false, laid := [("skipgraph/skipgraphworld.letters", laid_skipgraph_skipgraphworld_letters)], narrowed := true }
def LockedMakesUptoSaid : Prop := lockedMakesUptoRow.holds Tryd.pinned (OpenSpec.upto lockedMakesSpec)

/-- 'skipgraphlaw11.LockedKeeps', WHERE WHAT IT READS IS OF BULK AT MOST 1048576: true; the input reads as it did. -/
def lockedKeepsUptoRow : OpenClaim := { program := "ytgmffgdhijcfcaadoor", sum := "73a026e016d80d1c5ca065e7c4b1507c5cd944fcdbb58b715997801111be6235", func := "skipgraph/skipgraphlaw11.LockedKeeps", spec := "lockedKeeps", unfollowed := true, recurses := true, named := ["skipgraph/skipgraphworld.letters"], apart := false, laid := [("skipgraph/skipgraphworld.letters", laid_skipgraph_skipgraphworld_letters)], narrowed := true }
def LockedKeepsUptoSaid : Prop := lockedKeepsUptoRow.holds Tryd.pinned (OpenSpec.upto lockedKeepsSpec)

/-- 'skipgraphlaw11.LockedChanges', WHERE WHAT IT READS IS OF BULK AT MOST 1048576: true; the input reads as it did. -/
def lockedChangesUptoRow : OpenClaim := { program := "ytgmffgdhijcfcaadoor", sum := "73a026e016d80d1c5ca065e7c4b1507c5cd944fcdbb58b715997801111be6235", func := "skipgraph/skipgraphlaw11.LockedChanges", spec := "lockedChanges", unfollowed := true, recurses := true, named := ["skipgraph/skipgraphworld.letters"], apart := false, laid := [("skipgraph/skipgraphworld.letters", laid_skipgraph_skipgraphworld_letters)], narrowed := true }
def LockedChangesUptoSaid : Prop := lockedChangesUptoRow.holds Tryd.pinned (OpenSpec.upto lockedChangesSpec)

/-- 'skipgraphlaw11.LockedMoments', WHERE WHAT IT READS IS OF BULK AT MOST 1048576: true; the input reads as it did. -/
def lockedMomentsUptoRow : OpenClaim := { program := "ytgmffgdhijcfcaadoor", sum := "73a026e016d80d1c5ca065e7c4b1507c5cd944fcdbb58b715997801111be6235", func := "skipgraph/skipgraphlaw11.LockedMoments", spec := "lockedMoments", unfollowed := true, recurses := true, named := ["skipgraph/skipgraphworld.letters"], apart := false, laid := [("skipgraph/skipgraphworld.letters", laid_skipgraph_skipgraphworld_letters)], narrowed := true }
def LockedMomentsUptoSaid : Prop := lockedMomentsUptoRow.holds Tryd.pinned (OpenSpec.upto lockedMomentsSpec)

/-- 'skipgraphlaw11.LockedEnds', WHERE WHAT IT READS IS OF BULK AT MOST 1048576: true; the input reads as it did. -/
def lockedEndsUptoRow : OpenClaim := { program := "ytgmffgdhijcfcaadoor", sum := "73a026e016d80d1c5ca065e7c4b1507c5cd944fcdbb58b715997801111be6235", func := "skipgraph/skipgraphlaw11.LockedEnds", spec := "lockedEnds", unfollowed := true, recurses := true, named := ["skipgraph/skipgraphworld.letters"], apart := false, laid := [("skipgraph/skipgraphworld.letters", laid_skipgraph_skipgraphworld_letters)], narrowed := true }
def LockedEndsUptoSaid : Prop := lockedEndsUptoRow.holds Tryd.pinned (OpenSpec.upto lockedEndsSpec)

/-- 'skipgraphlaw11.LockedSerial', WHERE WHAT IT READS IS OF BULK AT MOST 1048576: true; the input reads as it did. -/
def lockedSerialUptoRow : OpenClaim := { program := "ytgmffgdhijcfcaadoor", sum := "73a026e016d80d1c5ca065e7c4b1507c5cd944fcdbb58b715997801111be6235", func := "skipgraph/skipgraphlaw11.LockedSerial", spec := "lockedSerial", unfollowed := true, recurses := true, named := ["skipgraph/skipgraphworld.letters"], apart := false, laid := [("skipgraph/skipgraphworld.letters", laid_skipgraph_skipgraphworld_letters)], narrowed := true }
def LockedSerialUptoSaid : Prop := lockedSerialUptoRow.holds Tryd.pinned (OpenSpec.upto lockedSerialSpec)

end Rows
end Go.Proofs.YtgmffgdhijcfcaaDoor
