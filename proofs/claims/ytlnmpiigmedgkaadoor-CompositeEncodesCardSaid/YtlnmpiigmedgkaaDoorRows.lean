/-
  NARROWER THAN 'FOR EVERY INPUT', by the rows' own cells (each row's printed sentence says how): CompositeEncodes: laid · CompositeDecodes: laid · CompositeOrder: laid · CompositeRoundTrip: laid · CompositePrefixes: laid · WireNodes: laid · WireRoundTrip: laid · WordBits: laid · WordDraws: laid · WordGroups: laid · WordEquivalence: laid · WordSplits: laid.
  DERIVED. THE GIVEN ROWS OF THIS SEAT. 12 by the template 'for every input the law returns true; each argument reads behind the call as it read before'; 0 by the template 'total and deterministic' (their statements: YtlnmpiigmedgkaaDoorTotals.lean).
  GIVEN WITH THE SEED: the statements are not yours to turn. If you find one false, say at which input.
  Laid BY PROGRAM, IN A SANDBOX (cutbox-rows.mjs): the forced cells as the released guide's own fill.sh prints them over the translation 19eecd0e4ed292cb… (all of the seat's roots in one cut). By AI agents, Wed Nov 11 2026. No macro, syntax, notation, axiom, sorry.
-/
import Derived.Test.YtlnmpiigmedgkaaDoorChecked
import GoSem.Claim
import GoSem.ClaimJoined
import GoSem.ClaimMapViews
import Derived.JoinedTies
import Derived.KernelRfl
namespace Go.Proofs.YtlnmpiigmedgkaaDoor
/- THE CELL 'sum', in the pinned program and in every row, IS THE sha256 OF THE DUMP (.gsa) THAT YtlnmpiigmedgkaaDoorProg.lean LOADS. Nothing in Lean hashes anything: it is a label: what it is worth is what the hold of that sum in a sandbox is worth. -/
noncomputable def Tryd.pinned : Pinned := { name := "ytlnmpiigmedgkaadoor", sum := "19eecd0e4ed292cb631dba8c93e285f0c465cb0cf9a92ee9509ccc719a71fe1e", checked := Tryd.checked }
namespace Rows
def none {H : Type} : Left H := { results := [], args := [] }

/- WHAT THE LISTED PACKAGE-LEVEL VARIABLES READ AS WHEN THE CALL BEGINS. Each datum BY PROGRAM (the guide's laid-datum.mjs) off the statement by which the dump's own 'gosem.cut.vars' lays the variable. In a bare row this is a premise. The card (YtlnmpiigmedgkaaDoorCards.lean) ties it to the program's text. -/
def laid_skipgraph_skipgraphlaw2_texts {H : Type} : DataW H := .agg [.lit (.string []), .lit (.string [97]), .lit (.string [97, 98]), .lit (.string [0]), .lit (.string [0, 255]), .lit (.string [255]), .lit (.string [97, 0]), .lit (.string [98])]
def laid_skipgraph_skipgraphworld_letters {H : Type} : DataW H := .agg [.lit (.string [97]), .lit (.string [98]), .lit (.string [99]), .lit (.string [0]), .lit (.string [255]), .lit (.string [109])]
def laid_math_bits_deBruijn32tab {H : Type} : DataW H := .agg [.lit (.int .u8 0), .lit (.int .u8 1), .lit (.int .u8 28), .lit (.int .u8 2), .lit (.int .u8 29), .lit (.int .u8 14), .lit (.int .u8 24), .lit (.int .u8 3), .lit (.int .u8 30), .lit (.int .u8 22), .lit (.int .u8 20), .lit (.int .u8 15), .lit (.int .u8 25), .lit (.int .u8 17), .lit (.int .u8 4), .lit (.int .u8 8), .lit (.int .u8 31), .lit (.int .u8 27), .lit (.int .u8 13), .lit (.int .u8 23), .lit (.int .u8 21), .lit (.int .u8 19), .lit (.int .u8 16), .lit (.int .u8 7), .lit (.int .u8 26), .lit (.int .u8 12), .lit (.int .u8 18), .lit (.int .u8 6), .lit (.int .u8 11), .lit (.int .u8 5), .lit (.int .u8 10), .lit (.int .u8 9)]

/-- 'skipgraphlaw2.CompositeEncodes': WHATEVER THE INPUT: true; the input reads as it did. -/
def compositeEncodesSpec : ChangeSpec := { name := "compositeEncodes", fn := fun _ => fun
  | [d1, d2, d3, d4] => { results := [.lit (.bool true)], args := [d1, d2, d3, d4] }
  | _ => none }
def compositeEncodesRow : OpenClaim := { program := "ytlnmpiigmedgkaadoor", sum := "19eecd0e4ed292cb631dba8c93e285f0c465cb0cf9a92ee9509ccc719a71fe1e", func := "skipgraph/skipgraphlaw2.CompositeEncodes", spec := "compositeEncodes", named := ["skipgraph/skipgraphlaw2.texts"], apart := false, laid := [("skipgraph/skipgraphlaw2.texts", laid_skipgraph_skipgraphlaw2_texts)] }
def CompositeEncodesSaid : Prop := compositeEncodesRow.holds Tryd.pinned (OpenSpec.ofChange compositeEncodesSpec)

/-- ITS FALSE NEIGHBOUR: 'it returns false'. Refute it at one input. -/
def compositeEncodesWrong : ChangeSpec := { name := "compositeEncodes", fn := fun _ => fun
  | [d1, d2, d3, d4] => { results := [.lit (.bool false)], args := [d1, d2, d3, d4] }
  | _ => none }
def CompositeEncodesWrongFalsely : Prop := compositeEncodesRow.holds Tryd.pinned (OpenSpec.ofChange compositeEncodesWrong)

/-- 'skipgraphlaw2.CompositeDecodes': WHATEVER THE INPUT: true; the input reads as it did. -/
def compositeDecodesSpec : ChangeSpec := { name := "compositeDecodes", fn := fun _ => fun
  | [d1, d2, d3] => { results := [.lit (.bool true)], args := [d1, d2, d3] }
  | _ => none }
def compositeDecodesRow : OpenClaim := { program := "ytlnmpiigmedgkaadoor", sum := "19eecd0e4ed292cb631dba8c93e285f0c465cb0cf9a92ee9509ccc719a71fe1e", func := "skipgraph/skipgraphlaw2.CompositeDecodes", spec := "compositeDecodes", named := ["skipgraph/skipgraphlaw2.texts"], apart := false, laid := [("skipgraph/skipgraphlaw2.texts", laid_skipgraph_skipgraphlaw2_texts)] }
def CompositeDecodesSaid : Prop := compositeDecodesRow.holds Tryd.pinned (OpenSpec.ofChange compositeDecodesSpec)

/-- ITS FALSE NEIGHBOUR: 'it returns false'. Refute it at one input. -/
def compositeDecodesWrong : ChangeSpec := { name := "compositeDecodes", fn := fun _ => fun
  | [d1, d2, d3] => { results := [.lit (.bool false)], args := [d1, d2, d3] }
  | _ => none }
def CompositeDecodesWrongFalsely : Prop := compositeDecodesRow.holds Tryd.pinned (OpenSpec.ofChange compositeDecodesWrong)

/-- 'skipgraphlaw2.CompositeOrder': WHATEVER THE INPUT: true; the input reads as it did. -/
def compositeOrderSpec : ChangeSpec := { name := "compositeOrder", fn := fun _ => fun
  | [d] => { results := [.lit (.bool true)], args := [d] }
  | _ => none }
def compositeOrderRow : OpenClaim := { program := "ytlnmpiigmedgkaadoor", sum := "19eecd0e4ed292cb631dba8c93e285f0c465cb0cf9a92ee9509ccc719a71fe1e", func := "skipgraph/skipgraphlaw2.CompositeOrder", spec := "compositeOrder", named := ["skipgraph/skipgraphlaw2.texts"], apart := false, laid := [("skipgraph/skipgraphlaw2.texts", laid_skipgraph_skipgraphlaw2_texts)] }
def CompositeOrderSaid : Prop := compositeOrderRow.holds Tryd.pinned (OpenSpec.ofChange compositeOrderSpec)

/-- ITS FALSE NEIGHBOUR: 'it returns false'. Refute it at one input. -/
def compositeOrderWrong : ChangeSpec := { name := "compositeOrder", fn := fun _ => fun
  | [d] => { results := [.lit (.bool false)], args := [d] }
  | _ => none }
def CompositeOrderWrongFalsely : Prop := compositeOrderRow.holds Tryd.pinned (OpenSpec.ofChange compositeOrderWrong)

/-- 'skipgraphlaw2.CompositeRoundTrip': WHATEVER THE INPUT: true; the input reads as it did. -/
def compositeRoundTripSpec : ChangeSpec := { name := "compositeRoundTrip", fn := fun _ => fun
  | [d] => { results := [.lit (.bool true)], args := [d] }
  | _ => none }
def compositeRoundTripRow : OpenClaim := { program := "ytlnmpiigmedgkaadoor", sum := "19eecd0e4ed292cb631dba8c93e285f0c465cb0cf9a92ee9509ccc719a71fe1e", func := "skipgraph/skipgraphlaw2.CompositeRoundTrip", spec := "compositeRoundTrip", named := ["skipgraph/skipgraphlaw2.texts"], apart := false, laid := [("skipgraph/skipgraphlaw2.texts", laid_skipgraph_skipgraphlaw2_texts)] }
def CompositeRoundTripSaid : Prop := compositeRoundTripRow.holds Tryd.pinned (OpenSpec.ofChange compositeRoundTripSpec)

/-- ITS FALSE NEIGHBOUR: 'it returns false'. Refute it at one input. -/
def compositeRoundTripWrong : ChangeSpec := { name := "compositeRoundTrip", fn := fun _ => fun
  | [d] => { results := [.lit (.bool false)], args := [d] }
  | _ => none }
def CompositeRoundTripWrongFalsely : Prop := compositeRoundTripRow.holds Tryd.pinned (OpenSpec.ofChange compositeRoundTripWrong)

/-- 'skipgraphlaw2.CompositePrefixes': WHATEVER THE INPUT: true; the input reads as it did. -/
def compositePrefixesSpec : ChangeSpec := { name := "compositePrefixes", fn := fun _ => fun
  | [d1, d2] => { results := [.lit (.bool true)], args := [d1, d2] }
  | _ => none }
def compositePrefixesRow : OpenClaim := { program := "ytlnmpiigmedgkaadoor", sum := "19eecd0e4ed292cb631dba8c93e285f0c465cb0cf9a92ee9509ccc719a71fe1e", func := "skipgraph/skipgraphlaw2.CompositePrefixes", spec := "compositePrefixes", named := ["skipgraph/skipgraphlaw2.texts"], apart := false, laid := [("skipgraph/skipgraphlaw2.texts", laid_skipgraph_skipgraphlaw2_texts)] }
def CompositePrefixesSaid : Prop := compositePrefixesRow.holds Tryd.pinned (OpenSpec.ofChange compositePrefixesSpec)

/-- ITS FALSE NEIGHBOUR: 'it returns false'. Refute it at one input. -/
def compositePrefixesWrong : ChangeSpec := { name := "compositePrefixes", fn := fun _ => fun
  | [d1, d2] => { results := [.lit (.bool false)], args := [d1, d2] }
  | _ => none }
def CompositePrefixesWrongFalsely : Prop := compositePrefixesRow.holds Tryd.pinned (OpenSpec.ofChange compositePrefixesWrong)

/-- 'skipgraphlaw3.WireNodes': WHATEVER THE INPUT: true; the input reads as it did. -/
def wireNodesSpec : ChangeSpec := { name := "wireNodes", fn := fun _ => fun
  | [d1, d2, d3, d4] => { results := [.lit (.bool true)], args := [d1, d2, d3, d4] }
  | _ => none }
def wireNodesRow : OpenClaim := { program := "ytlnmpiigmedgkaadoor", sum := "19eecd0e4ed292cb631dba8c93e285f0c465cb0cf9a92ee9509ccc719a71fe1e", func := "skipgraph/skipgraphlaw3.WireNodes", spec := "wireNodes", unfollowed := true, recurses := true, named := ["skipgraph/skipgraphworld.letters"], apart := false, laid := [("skipgraph/skipgraphworld.letters", laid_skipgraph_skipgraphworld_letters)] }
def WireNodesSaid : Prop := wireNodesRow.holds Tryd.pinned (OpenSpec.ofChange wireNodesSpec)

/-- ITS FALSE NEIGHBOUR: 'it returns false'. Refute it at one input. -/
def wireNodesWrong : ChangeSpec := { name := "wireNodes", fn := fun _ => fun
  | [d1, d2, d3, d4] => { results := [.lit (.bool false)], args := [d1, d2, d3, d4] }
  | _ => none }
def WireNodesWrongFalsely : Prop := wireNodesRow.holds Tryd.pinned (OpenSpec.ofChange wireNodesWrong)

/-- 'skipgraphlaw3.WireRoundTrip': WHATEVER THE INPUT: true; the input reads as it did. -/
def wireRoundTripSpec : ChangeSpec := { name := "wireRoundTrip", fn := fun _ => fun
  | [d1, d2] => { results := [.lit (.bool true)], args := [d1, d2] }
  | _ => none }
def wireRoundTripRow : OpenClaim := { program := "ytlnmpiigmedgkaadoor", sum := "19eecd0e4ed292cb631dba8c93e285f0c465cb0cf9a92ee9509ccc719a71fe1e", func := "skipgraph/skipgraphlaw3.WireRoundTrip", spec := "wireRoundTrip", unfollowed := true, recurses := true, named := ["skipgraph/skipgraphworld.letters"], apart := false, laid := [("skipgraph/skipgraphworld.letters", laid_skipgraph_skipgraphworld_letters)] }
def WireRoundTripSaid : Prop := wireRoundTripRow.holds Tryd.pinned (OpenSpec.ofChange wireRoundTripSpec)

/-- ITS FALSE NEIGHBOUR: 'it returns false'. Refute it at one input. -/
def wireRoundTripWrong : ChangeSpec := { name := "wireRoundTrip", fn := fun _ => fun
  | [d1, d2] => { results := [.lit (.bool false)], args := [d1, d2] }
  | _ => none }
def WireRoundTripWrongFalsely : Prop := wireRoundTripRow.holds Tryd.pinned (OpenSpec.ofChange wireRoundTripWrong)

/-- 'skipgraphlaw4.WordBits': WHATEVER THE INPUT: true; the input reads as it did. -/
def wordBitsSpec : ChangeSpec := { name := "wordBits", fn := fun _ => fun
  | [d1, d2, d3, d4] => { results := [.lit (.bool true)], args := [d1, d2, d3, d4] }
  | _ => none }
def wordBitsRow : OpenClaim := { program := "ytlnmpiigmedgkaadoor", sum := "19eecd0e4ed292cb631dba8c93e285f0c465cb0cf9a92ee9509ccc719a71fe1e", func := "skipgraph/skipgraphlaw4.WordBits", spec := "wordBits", named := ["math/bits.deBruijn32tab"], apart := false, laid := [("math/bits.deBruijn32tab", laid_math_bits_deBruijn32tab)] }
def WordBitsSaid : Prop := wordBitsRow.holds Tryd.pinned (OpenSpec.ofChange wordBitsSpec)

/-- ITS FALSE NEIGHBOUR: 'it returns false'. Refute it at one input. -/
def wordBitsWrong : ChangeSpec := { name := "wordBits", fn := fun _ => fun
  | [d1, d2, d3, d4] => { results := [.lit (.bool false)], args := [d1, d2, d3, d4] }
  | _ => none }
def WordBitsWrongFalsely : Prop := wordBitsRow.holds Tryd.pinned (OpenSpec.ofChange wordBitsWrong)

/-- 'skipgraphlaw4.WordDraws': WHATEVER THE INPUT: true; the input reads as it did. -/
def wordDrawsSpec : ChangeSpec := { name := "wordDraws", fn := fun _ => fun
  | [d1, d2] => { results := [.lit (.bool true)], args := [d1, d2] }
  | _ => none }
def wordDrawsRow : OpenClaim := { program := "ytlnmpiigmedgkaadoor", sum := "19eecd0e4ed292cb631dba8c93e285f0c465cb0cf9a92ee9509ccc719a71fe1e", func := "skipgraph/skipgraphlaw4.WordDraws", spec := "wordDraws", named := ["math/bits.deBruijn32tab"], apart := false, laid := [("math/bits.deBruijn32tab", laid_math_bits_deBruijn32tab)] }
def WordDrawsSaid : Prop := wordDrawsRow.holds Tryd.pinned (OpenSpec.ofChange wordDrawsSpec)

/-- ITS FALSE NEIGHBOUR: 'it returns false'. Refute it at one input. -/
def wordDrawsWrong : ChangeSpec := { name := "wordDraws", fn := fun _ => fun
  | [d1, d2] => { results := [.lit (.bool false)], args := [d1, d2] }
  | _ => none }
def WordDrawsWrongFalsely : Prop := wordDrawsRow.holds Tryd.pinned (OpenSpec.ofChange wordDrawsWrong)

/-- 'skipgraphlaw4.WordGroups': WHATEVER THE INPUT: true; the input reads as it did. -/
def wordGroupsSpec : ChangeSpec := { name := "wordGroups", fn := fun _ => fun
  | [d1, d2, d3, d4] => { results := [.lit (.bool true)], args := [d1, d2, d3, d4] }
  | _ => none }
def wordGroupsRow : OpenClaim := { program := "ytlnmpiigmedgkaadoor", sum := "19eecd0e4ed292cb631dba8c93e285f0c465cb0cf9a92ee9509ccc719a71fe1e", func := "skipgraph/skipgraphlaw4.WordGroups", spec := "wordGroups", named := ["skipgraph/skipgraphworld.letters", "math/bits.deBruijn32tab"], apart := false, laid := [("math/bits.deBruijn32tab", laid_math_bits_deBruijn32tab), ("skipgraph/skipgraphworld.letters", laid_skipgraph_skipgraphworld_letters)] }
def WordGroupsSaid : Prop := wordGroupsRow.holds Tryd.pinned (OpenSpec.ofChange wordGroupsSpec)

/-- ITS FALSE NEIGHBOUR: 'it returns false'. Refute it at one input. -/
def wordGroupsWrong : ChangeSpec := { name := "wordGroups", fn := fun _ => fun
  | [d1, d2, d3, d4] => { results := [.lit (.bool false)], args := [d1, d2, d3, d4] }
  | _ => none }
def WordGroupsWrongFalsely : Prop := wordGroupsRow.holds Tryd.pinned (OpenSpec.ofChange wordGroupsWrong)

/-- 'skipgraphlaw4.WordEquivalence': WHATEVER THE INPUT: true; the input reads as it did. -/
def wordEquivalenceSpec : ChangeSpec := { name := "wordEquivalence", fn := fun _ => fun
  | [d1, d2, d3, d4] => { results := [.lit (.bool true)], args := [d1, d2, d3, d4] }
  | _ => none }
def wordEquivalenceRow : OpenClaim := { program := "ytlnmpiigmedgkaadoor", sum := "19eecd0e4ed292cb631dba8c93e285f0c465cb0cf9a92ee9509ccc719a71fe1e", func := "skipgraph/skipgraphlaw4.WordEquivalence", spec := "wordEquivalence", named := ["math/bits.deBruijn32tab"], apart := false, laid := [("math/bits.deBruijn32tab", laid_math_bits_deBruijn32tab)] }
def WordEquivalenceSaid : Prop := wordEquivalenceRow.holds Tryd.pinned (OpenSpec.ofChange wordEquivalenceSpec)

/-- ITS FALSE NEIGHBOUR: 'it returns false'. Refute it at one input. -/
def wordEquivalenceWrong : ChangeSpec := { name := "wordEquivalence", fn := fun _ => fun
  | [d1, d2, d3, d4] => { results := [.lit (.bool false)], args := [d1, d2, d3, d4] }
  | _ => none }
def WordEquivalenceWrongFalsely : Prop := wordEquivalenceRow.holds Tryd.pinned (OpenSpec.ofChange wordEquivalenceWrong)

/-- 'skipgraphlaw4.WordSplits': WHATEVER THE INPUT: true; the input reads as it did. -/
def wordSplitsSpec : ChangeSpec := { name := "wordSplits", fn := fun _ => fun
  | [d1, d2] => { results := [.lit (.bool true)], args := [d1, d2] }
  | _ => none }
def wordSplitsRow : OpenClaim := { program := "ytlnmpiigmedgkaadoor", sum := "19eecd0e4ed292cb631dba8c93e285f0c465cb0cf9a92ee9509ccc719a71fe1e", func := "skipgraph/skipgraphlaw4.WordSplits", spec := "wordSplits", named := ["skipgraph/skipgraphworld.letters", "math/bits.deBruijn32tab"], apart := false, laid := [("math/bits.deBruijn32tab", laid_math_bits_deBruijn32tab), ("skipgraph/skipgraphworld.letters", laid_skipgraph_skipgraphworld_letters)] }
def WordSplitsSaid : Prop := wordSplitsRow.holds Tryd.pinned (OpenSpec.ofChange wordSplitsSpec)

/-- ITS FALSE NEIGHBOUR: 'it returns false'. Refute it at one input. -/
def wordSplitsWrong : ChangeSpec := { name := "wordSplits", fn := fun _ => fun
  | [d1, d2] => { results := [.lit (.bool false)], args := [d1, d2] }
  | _ => none }
def WordSplitsWrongFalsely : Prop := wordSplitsRow.holds Tryd.pinned (OpenSpec.ofChange wordSplitsWrong)

/- THE SECOND FORM. 'bulk': how many values and letters a reading holds, each counted each time it is reached (what is shared counts as often as it is met; a slice's spare places count too). A statement '..UptoSaid' is the law's where the arguments, and the package variables that the reading takes, are together of bulk at most 1048576: NARROWER than '..Said'. Prove '..Said' where nothing that the law and all that it calls make is longer than what came in: it says more and counts as full. Else prove '..UptoSaid'. A law counts once. -/
mutual
def uptoBulk {H : Type} : DataW H → Nat
  | .lit (.string bytes) => bytes.length + 1
  | .lit _ => 1
  | .nil => 1
  | .ptr d => uptoBulk d + 1
  | .slice elems spare => uptoBulkAll elems + uptoBulkAll spare + 1
  | .agg parts => uptoBulkAll parts + 1
  | .iface _ d => uptoBulk d + 1
  | .map entries => uptoBulkEntries entries + 1
  | .held _ => 1
def uptoBulkAll {H : Type} : List (DataW H) → Nat
  | [] => 0
  | d :: r => uptoBulk d + uptoBulkAll r
def uptoBulkEntries {H : Type} : List (Lit × DataW H) → Nat
  | [] => 0
  | x :: r => uptoBulkEntry x + uptoBulkEntries r
def uptoBulkEntry {H : Type} : Lit × DataW H → Nat
  | (.string bytes, d) => bytes.length + uptoBulk d + 1
  | (_, d) => uptoBulk d + 1
 end
def uptoSmall : (H : Type) → List (DataW H) → Bool := fun _ ds => decide (uptoBulkAll ds ≤ 1048576)
def OpenSpec.upto (s : _root_.Go.ChangeSpec) : _root_.Go.OpenSpec := { _root_.Go.OpenSpec.ofChange s with cond := some uptoSmall }

/-- 'skipgraphlaw2.CompositeEncodes', WHERE WHAT IT READS IS OF BULK AT MOST 1048576: true; the input reads as it did. -/
def compositeEncodesUptoRow : OpenClaim := { program := "ytlnmpiigmedgkaadoor", sum := "19eecd0e4ed292cb631dba8c93e285f0c465cb0cf9a92ee9509ccc719a71fe1e", func := "skipgraph/skipgraphlaw2.CompositeEncodes", spec := "compositeEncodes", named := ["skipgraph/skipgraphlaw2.texts"], apart := false, laid := [("skipgraph/skipgraphlaw2.texts", laid_skipgraph_skipgraphlaw2_texts)], narrowed := true }
def CompositeEncodesUptoSaid : Prop := compositeEncodesUptoRow.holds Tryd.pinned (OpenSpec.upto compositeEncodesSpec)

/-- 'skipgraphlaw2.CompositeDecodes', WHERE WHAT IT READS IS OF BULK AT MOST 1048576: true; the input reads as it did. -/
def compositeDecodesUptoRow : OpenClaim := { program := "ytlnmpiigmedgkaadoor", sum := "19eecd0e4ed292cb631dba8c93e285f0c465cb0cf9a92ee9509ccc719a71fe1e", func := "skipgraph/skipgraphlaw2.CompositeDecodes", spec := "compositeDecodes", named := ["skipgraph/skipgraphlaw2.texts"], apart := false, laid := [("skipgraph/skipgraphlaw2.texts", laid_skipgraph_skipgraphlaw2_texts)], narrowed := true }
def CompositeDecodesUptoSaid : Prop := compositeDecodesUptoRow.holds Tryd.pinned (OpenSpec.upto compositeDecodesSpec)

/-- 'skipgraphlaw2.CompositeOrder', WHERE WHAT IT READS IS OF BULK AT MOST 1048576: true; the input reads as it did. -/
def compositeOrderUptoRow : OpenClaim := { program := "ytlnmpiigmedgkaadoor", sum := "19eecd0e4ed292cb631dba8c93e285f0c465cb0cf9a92ee9509ccc719a71fe1e", func := "skipgraph/skipgraphlaw2.CompositeOrder", spec := "compositeOrder", named := ["skipgraph/skipgraphlaw2.texts"], apart := false, laid := [("skipgraph/skipgraphlaw2.texts", laid_skipgraph_skipgraphlaw2_texts)], narrowed := true }
def CompositeOrderUptoSaid : Prop := compositeOrderUptoRow.holds Tryd.pinned (OpenSpec.upto compositeOrderSpec)

/-- 'skipgraphlaw2.CompositeRoundTrip', WHERE WHAT IT READS IS OF BULK AT MOST 1048576: true; the input reads as it did. -/
def compositeRoundTripUptoRow : OpenClaim := { program := "ytlnmpiigmedgkaadoor", sum := "19eecd0e4ed292cb631dba8c93e285f0c465cb0cf9a92ee9509ccc719a71fe1e", func := "skipgraph/skipgraphlaw2.CompositeRoundTrip", spec := "compositeRoundTrip", named := ["skipgraph/skipgraphlaw2.texts"], apart := false, laid := [("skipgraph/skipgraphlaw2.texts", laid_skipgraph_skipgraphlaw2_texts)], narrowed := true }
def CompositeRoundTripUptoSaid : Prop := compositeRoundTripUptoRow.holds Tryd.pinned (OpenSpec.upto compositeRoundTripSpec)

/-- 'skipgraphlaw2.CompositePrefixes', WHERE WHAT IT READS IS OF BULK AT MOST 1048576: true; the input reads as it did. -/
def compositePrefixesUptoRow : OpenClaim := { program := "ytlnmpiigmedgkaadoor", sum := "19eecd0e4ed292cb631dba8c93e285f0c465cb0cf9a92ee9509ccc719a71fe1e", func := "skipgraph/skipgraphlaw2.CompositePrefixes", spec := "compositePrefixes", named := ["skipgraph/skipgraphlaw2.texts"], apart := false, laid := [("skipgraph/skipgraphlaw2.texts", laid_skipgraph_skipgraphlaw2_texts)], narrowed := true }
def CompositePrefixesUptoSaid : Prop := compositePrefixesUptoRow.holds Tryd.pinned (OpenSpec.upto compositePrefixesSpec)

/-- 'skipgraphlaw3.WireNodes', WHERE WHAT IT READS IS OF BULK AT MOST 1048576: true; the input reads as it did. -/
def wireNodesUptoRow : OpenClaim := { program := "ytlnmpiigmedgkaadoor", sum := "19eecd0e4ed292cb631dba8c93e285f0c465cb0cf9a92ee9509ccc719a71fe1e", func := "skipgraph/skipgraphlaw3.WireNodes", spec := "wireNodes", unfollowed := true, recurses := true, named := ["skipgraph/skipgraphworld.letters"], apart := false, laid := [("skipgraph/skipgraphworld.letters", laid_skipgraph_skipgraphworld_letters)], narrowed := true }
def WireNodesUptoSaid : Prop := wireNodesUptoRow.holds Tryd.pinned (OpenSpec.upto wireNodesSpec)

/-- 'skipgraphlaw3.WireRoundTrip', WHERE WHAT IT READS IS OF BULK AT MOST 1048576: true; the input reads as it did. -/
def wireRoundTripUptoRow : OpenClaim := { program := "ytlnmpiigmedgkaadoor", sum := "19eecd0e4ed292cb631dba8c93e285f0c465cb0cf9a92ee9509ccc719a71fe1e", func := "skipgraph/skipgraphlaw3.WireRoundTrip", spec := "wireRoundTrip", unfollowed := true, recurses := true, named := ["skipgraph/skipgraphworld.letters"], apart := false, laid := [("skipgraph/skipgraphworld.letters", laid_skipgraph_skipgraphworld_letters)], narrowed := true }
def WireRoundTripUptoSaid : Prop := wireRoundTripUptoRow.holds Tryd.pinned (OpenSpec.upto wireRoundTripSpec)

/-- 'skipgraphlaw4.WordBits', WHERE WHAT IT READS IS OF BULK AT MOST 1048576: true; the input reads as it did. -/
def wordBitsUptoRow : OpenClaim := { program := "ytlnmpiigmedgkaadoor", sum := "19eecd0e4ed292cb631dba8c93e285f0c465cb0cf9a92ee9509ccc719a71fe1e", func := "skipgraph/skipgraphlaw4.WordBits", spec := "wordBits", named := ["math/bits.deBruijn32tab"], apart := false, laid := [("math/bits.deBruijn32tab", laid_math_bits_deBruijn32tab)], narrowed := true }
def WordBitsUptoSaid : Prop := wordBitsUptoRow.holds Tryd.pinned (OpenSpec.upto wordBitsSpec)

/-- 'skipgraphlaw4.WordDraws', WHERE WHAT IT READS IS OF BULK AT MOST 1048576: true; the input reads as it did. -/
def wordDrawsUptoRow : OpenClaim := { program := "ytlnmpiigmedgkaadoor", sum := "19eecd0e4ed292cb631dba8c93e285f0c465cb0cf9a92ee9509ccc719a71fe1e", func := "skipgraph/skipgraphlaw4.WordDraws", spec := "wordDraws", named := ["math/bits.deBruijn32tab"], apart := false, laid := [("math/bits.deBruijn32tab", laid_math_bits_deBruijn32tab)], narrowed := true }
def WordDrawsUptoSaid : Prop := wordDrawsUptoRow.holds Tryd.pinned (OpenSpec.upto wordDrawsSpec)

/-- 'skipgraphlaw4.WordGroups', WHERE WHAT IT READS IS OF BULK AT MOST 1048576: true; the input reads as it did. -/
def wordGroupsUptoRow : OpenClaim := { program := "ytlnmpiigmedgkaadoor", sum := "19eecd0e4ed292cb631dba8c93e285f0c465cb0cf9a92ee9509ccc719a71fe1e", func := "skipgraph/skipgraphlaw4.WordGroups", spec := "wordGroups", named := ["skipgraph/skipgraphworld.letters", "math/bits.deBruijn32tab"], apart := false, laid := [("math/bits.deBruijn32tab", laid_math_bits_deBruijn32tab), ("skipgraph/skipgraphworld.letters", laid_skipgraph_skipgraphworld_letters)], narrowed := true }
def WordGroupsUptoSaid : Prop := wordGroupsUptoRow.holds Tryd.pinned (OpenSpec.upto wordGroupsSpec)

/-- 'skipgraphlaw4.WordEquivalence', WHERE WHAT IT READS IS OF BULK AT MOST 1048576: true; the input reads as it did. -/
def wordEquivalenceUptoRow : OpenClaim := { program := "ytlnmpiigmedgkaadoor", sum := "19eecd0e4ed292cb631dba8c93e285f0c465cb0cf9a92ee9509ccc719a71fe1e", func := "skipgraph/skipgraphlaw4.WordEquivalence", spec := "wordEquivalence", named := ["math/bits.deBruijn32tab"], apart := false, laid := [("math/bits.deBruijn32tab", laid_math_bits_deBruijn32tab)], narrowed := true }
def WordEquivalenceUptoSaid : Prop := wordEquivalenceUptoRow.holds Tryd.pinned (OpenSpec.upto wordEquivalenceSpec)

/-- 'skipgraphlaw4.WordSplits', WHERE WHAT IT READS IS OF BULK AT MOST 1048576: true; the input reads as it did. -/
def wordSplitsUptoRow : OpenClaim := { program := "ytlnmpiigmedgkaadoor", sum := "19eecd0e4ed292cb631dba8c93e285f0c465cb0cf9a92ee9509ccc719a71fe1e", func := "skipgraph/skipgraphlaw4.WordSplits", spec := "wordSplits", named := ["skipgraph/skipgraphworld.letters", "math/bits.deBruijn32tab"], apart := false, laid := [("math/bits.deBruijn32tab", laid_math_bits_deBruijn32tab), ("skipgraph/skipgraphworld.letters", laid_skipgraph_skipgraphworld_letters)], narrowed := true }
def WordSplitsUptoSaid : Prop := wordSplitsUptoRow.holds Tryd.pinned (OpenSpec.upto wordSplitsSpec)

end Rows
end Go.Proofs.YtlnmpiigmedgkaaDoor
