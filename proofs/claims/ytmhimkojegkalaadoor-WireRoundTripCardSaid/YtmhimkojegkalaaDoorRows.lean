/-
  NARROWER THAN 'FOR EVERY INPUT', by the rows' own cells (each row's printed sentence says how): WireNodes: laid · WireRoundTrip: laid · IdealCompares: laid.
  DERIVED. THE GIVEN ROWS OF THIS SEAT. 3 by the template 'for every input the law returns true; each argument reads behind the call as it read before'; 0 by the template 'total and deterministic' (their statements: YtmhimkojegkalaaDoorTotals.lean).
  GIVEN WITH THE SEED: the statements are not yours to turn. If you find one false, say at which input.
  Laid BY PROGRAM, IN A SANDBOX (cutbox-rows.mjs): the forced cells as the released guide's own fill.sh prints them over the translation cf1c0fa727049c65… (all of the seat's roots in one cut). By AI agents, Wed Nov 11 2026. No macro, syntax, notation, axiom, sorry.
-/
import Derived.Test.YtmhimkojegkalaaDoorChecked
import GoSem.Claim
import GoSem.ClaimJoined
import GoSem.ClaimMapViews
import Derived.JoinedTies
import Derived.KernelRfl
namespace Go.Proofs.YtmhimkojegkalaaDoor
/- THE CELL 'sum', in the pinned program and in every row, IS THE sha256 OF THE DUMP (.gsa) THAT YtmhimkojegkalaaDoorProg.lean LOADS. Nothing in Lean hashes anything: it is a label: what it is worth is what the hold of that sum in a sandbox is worth. -/
noncomputable def Tryd.pinned : Pinned := { name := "ytmhimkojegkalaadoor", sum := "cf1c0fa727049c65125fabff533811e6dc0b20b16772ebf03cd1c040a6ad9ce3", checked := Tryd.checked }
namespace Rows
def none {H : Type} : Left H := { results := [], args := [] }

/- WHAT THE LISTED PACKAGE-LEVEL VARIABLES READ AS WHEN THE CALL BEGINS. Each datum BY PROGRAM (the guide's laid-datum.mjs) off the statement by which the dump's own 'gosem.cut.vars' lays the variable. In a bare row this is a premise. The card (YtmhimkojegkalaaDoorCards.lean) ties it to the program's text. -/
def laid_skipgraph_skipgraphworld_letters {H : Type} : DataW H := .agg [.lit (.string [97]), .lit (.string [98]), .lit (.string [99]), .lit (.string [0]), .lit (.string [255]), .lit (.string [109])]

/-- 'skipgraphlaw3.WireNodes': WHATEVER THE INPUT: true; the input reads as it did. -/
def wireNodesSpec : ChangeSpec := { name := "wireNodes", fn := fun _ => fun
  | [d1, d2, d3, d4] => { results := [.lit (.bool true)], args := [d1, d2, d3, d4] }
  | _ => none }
def wireNodesRow : OpenClaim := { program := "ytmhimkojegkalaadoor", sum := "cf1c0fa727049c65125fabff533811e6dc0b20b16772ebf03cd1c040a6ad9ce3", func := "skipgraph/skipgraphlaw3.WireNodes", spec := "wireNodes", unfollowed := true, recurses := true, named := ["skipgraph/skipgraphworld.letters"], apart := false, laid := [("skipgraph/skipgraphworld.letters", laid_skipgraph_skipgraphworld_letters)] }
def WireNodesSaid : Prop := wireNodesRow.holds Tryd.pinned (OpenSpec.ofChange wireNodesSpec)

/-- ITS FALSE NEIGHBOUR: 'it returns false'. Refute it at one input. -/
def wireNodesWrong : ChangeSpec := { name := "wireNodes", fn := fun _ => fun
  | [d1, d2, d3, d4] => { results := [.lit (.bool false)], args := [d1, d2, d3, d4] }
  | _ => none }
def WireNodesWrongFalsely : Prop := wireNodesRow.holds Tryd.pinned (OpenSpec.ofChange wireNodesWrong)

/-- 'skipgraphlaw3.WireRoundTrip': WHATEVER THE INPUT: true; the input reads as it did. -/
def wireRoundTripSpec : ChangeSpec := { name := "wireRoundTrip", fn := fun _ => fun
  | [d1, d2] => { results := [.lit (.bool true)], args := [d1, d2] }
  | _ => none }
def wireRoundTripRow : OpenClaim := { program := "ytmhimkojegkalaadoor", sum := "cf1c0fa727049c65125fabff533811e6dc0b20b16772ebf03cd1c040a6ad9ce3", func := "skipgraph/skipgraphlaw3.WireRoundTrip", spec := "wireRoundTrip", unfollowed := true, recurses := true, named := ["skipgraph/skipgraphworld.letters"], apart := false, laid := [("skipgraph/skipgraphworld.letters", laid_skipgraph_skipgraphworld_letters)] }
def WireRoundTripSaid : Prop := wireRoundTripRow.holds Tryd.pinned (OpenSpec.ofChange wireRoundTripSpec)

/-- ITS FALSE NEIGHBOUR: 'it returns false'. Refute it at one input. -/
def wireRoundTripWrong : ChangeSpec := { name := "wireRoundTrip", fn := fun _ => fun
  | [d1, d2] => { results := [.lit (.bool false)], args := [d1, d2] }
  | _ => none }
def WireRoundTripWrongFalsely : Prop := wireRoundTripRow.holds Tryd.pinned (OpenSpec.ofChange wireRoundTripWrong)

/-- 'skipgraphlaw6.IdealCompares': WHATEVER THE INPUT: true; the input reads as it did. -/
def idealComparesSpec : ChangeSpec := { name := "idealCompares", fn := fun _ => fun
  | [d1, d2, d3] => { results := [.lit (.bool true)], args := [d1, d2, d3] }
  | _ => none }
def idealComparesRow : OpenClaim := { program := "ytmhimkojegkalaadoor", sum := "cf1c0fa727049c65125fabff533811e6dc0b20b16772ebf03cd1c040a6ad9ce3", func := "skipgraph/skipgraphlaw6.IdealCompares", spec := "idealCompares", inPlace := ["internal/reflectlite.ValueOf", "internal/reflectlite.Swapper", "(internal/reflectlite.Value).Len"], unfollowed := true, recurses := true, named := ["skipgraph/skipgraphworld.letters"], apart := false, laid := [("skipgraph/skipgraphworld.letters", laid_skipgraph_skipgraphworld_letters)] }
def IdealComparesSaid : Prop := idealComparesRow.holds Tryd.pinned (OpenSpec.ofChange idealComparesSpec)

/-- ITS FALSE NEIGHBOUR: 'it returns false'. Refute it at one input. -/
def idealComparesWrong : ChangeSpec := { name := "idealCompares", fn := fun _ => fun
  | [d1, d2, d3] => { results := [.lit (.bool false)], args := [d1, d2, d3] }
  | _ => none }
def IdealComparesWrongFalsely : Prop := idealComparesRow.holds Tryd.pinned (OpenSpec.ofChange idealComparesWrong)

/- THE SECOND FORM. 'bulk': how many values and letters a reading holds, each counted each time it is reached (what is shared counts as often as it is met; a slice's spare places count too). A statement '..UptoSaid' is the law's where the arguments, and the package variables that the reading takes, are together of bulk at most 1048576: NARROWER than '..Said'. Prove '..Said' where nothing that the law and all that it calls make is longer than what came in: it says more and counts as full. Else prove '..UptoSaid'. A law counts once. -/
mutual
def uptoBulk {H : Type} : DataW H → Nat
  | .lit (.string bytes) => bytes.length + 1
  | .lit _ => 1
  | .nil => 1
  | .ptr d => uptoBulk d + 1
  | .slice elems spare => uptoBulkAll elems + uptoBulkAll spare + 1
  | .agg parts => uptoBulkAll parts + 1
  | .iface _ d => uptoBulk d + 1
  | .map entries => uptoBulkEntries entries + 1
  | .held _ => 1
def uptoBulkAll {H : Type} : List (DataW H) → Nat
  | [] => 0
  | d :: r => uptoBulk d + uptoBulkAll r
def uptoBulkEntries {H : Type} : List (Lit × DataW H) → Nat
  | [] => 0
  | x :: r => uptoBulkEntry x + uptoBulkEntries r
def uptoBulkEntry {H : Type} : Lit × DataW H → Nat
  | (.string bytes, d) => bytes.length + uptoBulk d + 1
  | (_, d) => uptoBulk d + 1
 end
def uptoSmall : (H : Type) → List (DataW H) → Bool := fun _ ds => decide (uptoBulkAll ds ≤ 1048576)
def OpenSpec.upto (s : _root_.Go.ChangeSpec) : _root_.Go.OpenSpec := { _root_.Go.OpenSpec.ofChange s with cond := some uptoSmall }

/-- 'skipgraphlaw3.WireNodes', WHERE WHAT IT READS IS OF BULK AT MOST 1048576: true; the input reads as it did. -/
def wireNodesUptoRow : OpenClaim := { program := "ytmhimkojegkalaadoor", sum := "cf1c0fa727049c65125fabff533811e6dc0b20b16772ebf03cd1c040a6ad9ce3", func := "skipgraph/skipgraphlaw3.WireNodes", spec := "wireNodes", unfollowed := true, recurses := true, named := ["skipgraph/skipgraphworld.letters"], apart := false, laid := [("skipgraph/skipgraphworld.letters", laid_skipgraph_skipgraphworld_letters)], narrowed := true }
def WireNodesUptoSaid : Prop := wireNodesUptoRow.holds Tryd.pinned (OpenSpec.upto wireNodesSpec)

/-- 'skipgraphlaw3.WireRoundTrip', WHERE WHAT IT READS IS OF BULK AT MOST 1048576: true; the input reads as it did. -/
def wireRoundTripUptoRow : OpenClaim := { program := "ytmhimkojegkalaadoor", sum := "cf1c0fa727049c65125fabff533811e6dc0b20b16772ebf03cd1c040a6ad9ce3", func := "skipgraph/skipgraphlaw3.WireRoundTrip", spec := "wireRoundTrip", unfollowed := true, recurses := true, named := ["skipgraph/skipgraphworld.letters"], apart := false, laid := [("skipgraph/skipgraphworld.letters", laid_skipgraph_skipgraphworld_letters)], narrowed := true }
def WireRoundTripUptoSaid : Prop := wireRoundTripUptoRow.holds Tryd.pinned (OpenSpec.upto wireRoundTripSpec)

/-- 'skipgraphlaw6.IdealCompares', WHERE WHAT IT READS IS OF BULK AT MOST 1048576: true; the input reads as it did. -/
def idealComparesUptoRow : OpenClaim := { program := "ytmhimkojegkalaadoor", sum := "cf1c0fa727049c65125fabff533811e6dc0b20b16772ebf03cd1c040a6ad9ce3", func := "skipgraph/skipgraphlaw6.IdealCompares", spec := "idealCompares", inPlace := ["internal/reflectlite.ValueOf", "internal/reflectlite.Swapper", "(internal/reflectlite.Value).Len"], unfollowed := true, recurses := true, named := ["skipgraph/skipgraphworld.letters"], apart := false, laid := [("skipgraph/skipgraphworld.letters", laid_skipgraph_skipgraphworld_letters)], narrowed := true }
def IdealComparesUptoSaid : Prop := idealComparesUptoRow.holds Tryd.pinned (OpenSpec.upto idealComparesSpec)

end Rows
end Go.Proofs.YtmhimkojegkalaaDoor
