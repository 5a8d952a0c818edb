/-
  NARROWER THAN 'FOR EVERY INPUT', by the rows' own cells (each row's printed sentence says how): SearchRoutes: laid · SearchRuns: laid · SearchEnds: laid · SearchApproaches: laid · SearchAgrees: laid · SearchBounds: laid.
  DERIVED. THE GIVEN ROWS OF THIS SEAT. 6 by the template 'for every input the law returns true; each argument reads behind the call as it read before'; 0 by the template 'total and deterministic' (their statements: YtdeamjimjcojhaaDoorTotals.lean).
  GIVEN WITH THE SEED: the statements are not yours to turn. If you find one false, say at which input.
  Laid BY PROGRAM, IN A SANDBOX (cutbox-rows.mjs): the forced cells as the released guide's own fill.sh prints them over the translation 1810db37be5967ce… (all of the seat's roots in one cut). By AI agents, Wed Nov 11 2026. No macro, syntax, notation, axiom, sorry.
-/
import Derived.Test.YtdeamjimjcojhaaDoorChecked
import GoSem.Claim
import GoSem.ClaimJoined
import GoSem.ClaimMapViews
import Derived.JoinedTies
import Derived.KernelRfl
namespace Go.Proofs.YtdeamjimjcojhaaDoor
/- THE CELL 'sum', in the pinned program and in every row, IS THE sha256 OF THE DUMP (.gsa) THAT YtdeamjimjcojhaaDoorProg.lean LOADS. Nothing in Lean hashes anything: it is a label: what it is worth is what the hold of that sum in a sandbox is worth. -/
noncomputable def Tryd.pinned : Pinned := { name := "ytdeamjimjcojhaadoor", sum := "1810db37be5967cea25f5aa2fd6a123a78bfd183ca07b9af606e93263a94098b", checked := Tryd.checked }
namespace Rows
def none {H : Type} : Left H := { results := [], args := [] }

/- WHAT THE LISTED PACKAGE-LEVEL VARIABLES READ AS WHEN THE CALL BEGINS. Each datum BY PROGRAM (the guide's laid-datum.mjs) off the statement by which the dump's own 'gosem.cut.vars' lays the variable. In a bare row this is a premise. The card (YtdeamjimjcojhaaDoorCards.lean) ties it to the program's text. -/
def laid_math_bits_deBruijn32tab {H : Type} : DataW H := .agg [.lit (.int .u8 0), .lit (.int .u8 1), .lit (.int .u8 28), .lit (.int .u8 2), .lit (.int .u8 29), .lit (.int .u8 14), .lit (.int .u8 24), .lit (.int .u8 3), .lit (.int .u8 30), .lit (.int .u8 22), .lit (.int .u8 20), .lit (.int .u8 15), .lit (.int .u8 25), .lit (.int .u8 17), .lit (.int .u8 4), .lit (.int .u8 8), .lit (.int .u8 31), .lit (.int .u8 27), .lit (.int .u8 13), .lit (.int .u8 23), .lit (.int .u8 21), .lit (.int .u8 19), .lit (.int .u8 16), .lit (.int .u8 7), .lit (.int .u8 26), .lit (.int .u8 12), .lit (.int .u8 18), .lit (.int .u8 6), .lit (.int .u8 11), .lit (.int .u8 5), .lit (.int .u8 10), .lit (.int .u8 9)]
def laid_skipgraph_skipgraphworld_letters {H : Type} : DataW H := .agg [.lit (.string [97]), .lit (.string [98]), .lit (.string [99]), .lit (.string [0]), .lit (.string [255]), .lit (.string [109])]

/-- 'skipgraphlaw8.SearchRoutes': WHATEVER THE INPUT: true; the input reads as it did. -/
def searchRoutesSpec : ChangeSpec := { name := "searchRoutes", fn := fun _ => fun
  | [d1, d2, d3, d4, d5] => { results := [.lit (.bool true)], args := [d1, d2, d3, d4, d5] }
  | _ => none }
def searchRoutesRow : OpenClaim := { program := "ytdeamjimjcojhaadoor", sum := "1810db37be5967cea25f5aa2fd6a123a78bfd183ca07b9af606e93263a94098b", func := "skipgraph/skipgraphlaw8.SearchRoutes", spec := "searchRoutes", inPlace := ["internal/reflectlite.ValueOf", "internal/reflectlite.Swapper", "(internal/reflectlite.Value).Len"], unfollowed := true, recurses := true, named := ["skipgraph/skipgraphworld.letters", "math/bits.deBruijn32tab"], apart := false, laid := [("math/bits.deBruijn32tab", laid_math_bits_deBruijn32tab), ("skipgraph/skipgraphworld.letters", laid_skipgraph_skipgraphworld_letters)] }
def SearchRoutesSaid : Prop := searchRoutesRow.holds Tryd.pinned (OpenSpec.ofChange searchRoutesSpec)

/-- ITS FALSE NEIGHBOUR: 'it returns false'. Refute it at one input. -/
def searchRoutesWrong : ChangeSpec := { name := "searchRoutes", fn := fun _ => fun
  | [d1, d2, d3, d4, d5] => { results := [.lit (.bool false)], args := [d1, d2, d3, d4, d5] }
  | _ => none }
def SearchRoutesWrongFalsely : Prop := searchRoutesRow.holds Tryd.pinned (OpenSpec.ofChange searchRoutesWrong)

/-- 'skipgraphlaw8.SearchRuns': WHATEVER THE INPUT: true; the input reads as it did. -/
def searchRunsSpec : ChangeSpec := { name := "searchRuns", fn := fun _ => fun
  | [d1, d2, d3, d4] => { results := [.lit (.bool true)], args := [d1, d2, d3, d4] }
  | _ => none }
def searchRunsRow : OpenClaim := { program := "ytdeamjimjcojhaadoor", sum := "1810db37be5967cea25f5aa2fd6a123a78bfd183ca07b9af606e93263a94098b", func := "skipgraph/skipgraphlaw8.SearchRuns", spec := "searchRuns", inPlace := ["internal/reflectlite.ValueOf", "internal/reflectlite.Swapper", "(internal/reflectlite.Value).Len"], unfollowed := true, recurses := true, named := ["skipgraph/skipgraphworld.letters", "math/bits.deBruijn32tab"], apart := false, laid := [("math/bits.deBruijn32tab", laid_math_bits_deBruijn32tab), ("skipgraph/skipgraphworld.letters", laid_skipgraph_skipgraphworld_letters)] }
def SearchRunsSaid : Prop := searchRunsRow.holds Tryd.pinned (OpenSpec.ofChange searchRunsSpec)

/-- ITS FALSE NEIGHBOUR: 'it returns false'. Refute it at one input. -/
def searchRunsWrong : ChangeSpec := { name := "searchRuns", fn := fun _ => fun
  | [d1, d2, d3, d4] => { results := [.lit (.bool false)], args := [d1, d2, d3, d4] }
  | _ => none }
def SearchRunsWrongFalsely : Prop := searchRunsRow.holds Tryd.pinned (OpenSpec.ofChange searchRunsWrong)

/-- 'skipgraphlaw8.SearchEnds': WHATEVER THE INPUT: true; the input reads as it did. -/
def searchEndsSpec : ChangeSpec := { name := "searchEnds", fn := fun _ => fun
  | [d1, d2] => { results := [.lit (.bool true)], args := [d1, d2] }
  | _ => none }
def searchEndsRow : OpenClaim := { program := "ytdeamjimjcojhaadoor", sum := "1810db37be5967cea25f5aa2fd6a123a78bfd183ca07b9af606e93263a94098b", func := "skipgraph/skipgraphlaw8.SearchEnds", spec := "searchEnds", inPlace := ["internal/reflectlite.ValueOf", "internal/reflectlite.Swapper", "(internal/reflectlite.Value).Len"], unfollowed := true, recurses := true, named := ["skipgraph/skipgraphworld.letters", "math/bits.deBruijn32tab"], apart := false, laid := [("math/bits.deBruijn32tab", laid_math_bits_deBruijn32tab), ("skipgraph/skipgraphworld.letters", laid_skipgraph_skipgraphworld_letters)] }
def SearchEndsSaid : Prop := searchEndsRow.holds Tryd.pinned (OpenSpec.ofChange searchEndsSpec)

/-- ITS FALSE NEIGHBOUR: 'it returns false'. Refute it at one input. -/
def searchEndsWrong : ChangeSpec := { name := "searchEnds", fn := fun _ => fun
  | [d1, d2] => { results := [.lit (.bool false)], args := [d1, d2] }
  | _ => none }
def SearchEndsWrongFalsely : Prop := searchEndsRow.holds Tryd.pinned (OpenSpec.ofChange searchEndsWrong)

/-- 'skipgraphlaw8.SearchApproaches': WHATEVER THE INPUT: true; the input reads as it did. -/
def searchApproachesSpec : ChangeSpec := { name := "searchApproaches", fn := fun _ => fun
  | [d] => { results := [.lit (.bool true)], args := [d] }
  | _ => none }
def searchApproachesRow : OpenClaim := { program := "ytdeamjimjcojhaadoor", sum := "1810db37be5967cea25f5aa2fd6a123a78bfd183ca07b9af606e93263a94098b", func := "skipgraph/skipgraphlaw8.SearchApproaches", spec := "searchApproaches", inPlace := ["internal/reflectlite.ValueOf", "internal/reflectlite.Swapper", "(internal/reflectlite.Value).Len"], unfollowed := true, recurses := true, named := ["skipgraph/skipgraphworld.letters", "math/bits.deBruijn32tab"], apart := false, laid := [("math/bits.deBruijn32tab", laid_math_bits_deBruijn32tab), ("skipgraph/skipgraphworld.letters", laid_skipgraph_skipgraphworld_letters)] }
def SearchApproachesSaid : Prop := searchApproachesRow.holds Tryd.pinned (OpenSpec.ofChange searchApproachesSpec)

/-- ITS FALSE NEIGHBOUR: 'it returns false'. Refute it at one input. -/
def searchApproachesWrong : ChangeSpec := { name := "searchApproaches", fn := fun _ => fun
  | [d] => { results := [.lit (.bool false)], args := [d] }
  | _ => none }
def SearchApproachesWrongFalsely : Prop := searchApproachesRow.holds Tryd.pinned (OpenSpec.ofChange searchApproachesWrong)

/-- 'skipgraphlaw8.SearchAgrees': WHATEVER THE INPUT: true; the input reads as it did. -/
def searchAgreesSpec : ChangeSpec := { name := "searchAgrees", fn := fun _ => fun
  | [d] => { results := [.lit (.bool true)], args := [d] }
  | _ => none }
def searchAgreesRow : OpenClaim := { program := "ytdeamjimjcojhaadoor", sum := "1810db37be5967cea25f5aa2fd6a123a78bfd183ca07b9af606e93263a94098b", func := "skipgraph/skipgraphlaw8.SearchAgrees", spec := "searchAgrees", inPlace := ["internal/reflectlite.ValueOf", "internal/reflectlite.Swapper", "(internal/reflectlite.Value).Len"], unfollowed := true, recurses := true, named := ["skipgraph/skipgraphworld.letters", "math/bits.deBruijn32tab"], apart := false, laid := [("math/bits.deBruijn32tab", laid_math_bits_deBruijn32tab), ("skipgraph/skipgraphworld.letters", laid_skipgraph_skipgraphworld_letters)] }
def SearchAgreesSaid : Prop := searchAgreesRow.holds Tryd.pinned (OpenSpec.ofChange searchAgreesSpec)

/-- ITS FALSE NEIGHBOUR: 'it returns false'. Refute it at one input. -/
def searchAgreesWrong : ChangeSpec := { name := "searchAgrees", fn := fun _ => fun
  | [d] => { results := [.lit (.bool false)], args := [d] }
  | _ => none }
def SearchAgreesWrongFalsely : Prop := searchAgreesRow.holds Tryd.pinned (OpenSpec.ofChange searchAgreesWrong)

/-- 'skipgraphlaw8.SearchBounds': WHATEVER THE INPUT: true; the input reads as it did. -/
def searchBoundsSpec : ChangeSpec := { name := "searchBounds", fn := fun _ => fun
  | [d1, d2] => { results := [.lit (.bool true)], args := [d1, d2] }
  | _ => none }
def searchBoundsRow : OpenClaim := { program := "ytdeamjimjcojhaadoor", sum := "1810db37be5967cea25f5aa2fd6a123a78bfd183ca07b9af606e93263a94098b", func := "skipgraph/skipgraphlaw8.SearchBounds", spec := "searchBounds", inPlace := ["internal/reflectlite.ValueOf", "internal/reflectlite.Swapper", "(internal/reflectlite.Value).Len"], unfollowed := true, recurses := true, named := ["skipgraph/skipgraphworld.letters", "math/bits.deBruijn32tab"], apart := false, laid := [("math/bits.deBruijn32tab", laid_math_bits_deBruijn32tab), ("skipgraph/skipgraphworld.letters", laid_skipgraph_skipgraphworld_letters)] }
def SearchBoundsSaid : Prop := searchBoundsRow.holds Tryd.pinned (OpenSpec.ofChange searchBoundsSpec)

/-- ITS FALSE NEIGHBOUR: 'it returns false'. Refute it at one input. -/
def searchBoundsWrong : ChangeSpec := { name := "searchBounds", fn := fun _ => fun
  | [d1, d2] => { results := [.lit (.bool false)], args := [d1, d2] }
  | _ => none }
def SearchBoundsWrongFalsely : Prop := searchBoundsRow.holds Tryd.pinned (OpenSpec.ofChange searchBoundsWrong)

/- THE SECOND FORM. 'bulk': how many values and letters a reading holds, each counted each time it is reached (what is shared counts as often as it is met; a slice's spare places count too). A statement '..UptoSaid' is the law's where the arguments, and the package variables that the reading takes, are together of bulk at most 1048576: NARROWER than '..Said'. Prove '..Said' where nothing that the law and all that it calls make is longer than what came in: it says more and counts as full. Else prove '..UptoSaid'. A law counts once. -/
mutual
def uptoBulk {H : Type} : DataW H → Nat
  | .lit (.string bytes) => bytes.length + 1
  | .lit _ => 1
  | .nil => 1
  | .ptr d => uptoBulk d + 1
  | .slice elems spare => uptoBulkAll elems + uptoBulkAll spare + 1
  | .agg parts => uptoBulkAll parts + 1
  | .iface _ d => uptoBulk d + 1
  | .map entries => uptoBulkEntries entries + 1
  | .held _ => 1
def uptoBulkAll {H : Type} : List (DataW H) → Nat
  | [] => 0
  | d :: r => uptoBulk d + uptoBulkAll r
def uptoBulkEntries {H : Type} : List (Lit × DataW H) → Nat
  | [] => 0
  | x :: r => uptoBulkEntry x + uptoBulkEntries r
def uptoBulkEntry {H : Type} : Lit × DataW H → Nat
  | (.string bytes, d) => bytes.length + uptoBulk d + 1
  | (_, d) => uptoBulk d + 1
 end
def uptoSmall : (H : Type) → List (DataW H) → Bool := fun _ ds => decide (uptoBulkAll ds ≤ 1048576)
def OpenSpec.upto (s : _root_.Go.ChangeSpec) : _root_.Go.OpenSpec := { _root_.Go.OpenSpec.ofChange s with cond := some uptoSmall }

/-- 'skipgraphlaw8.SearchRoutes', WHERE WHAT IT READS IS OF BULK AT MOST 1048576: true; the input reads as it did. -/
def searchRoutesUptoRow : OpenClaim := { program := "ytdeamjimjcojhaadoor", sum := "1810db37be5967cea25f5aa2fd6a123a78bfd183ca07b9af606e93263a94098b", func := "skipgraph/skipgraphlaw8.SearchRoutes", spec := "searchRoutes", inPlace := ["internal/reflectlite.ValueOf", "internal/reflectlite.Swapper", "(internal/reflectlite.Value).Len"], unfollowed := true, recurses := true, named := ["skipgraph/skipgraphworld.letters", "math/bits.deBruijn32tab"], apart := false, laid := [("math/bits.deBruijn32tab", laid_math_bits_deBruijn32tab), ("skipgraph/skipgraphworld.letters", laid_skipgraph_skipgraphworld_letters)], narrowed := true }
def SearchRoutesUptoSaid : Prop := searchRoutesUptoRow.holds Tryd.pinned (OpenSpec.upto searchRoutesSpec)

/-- 'skipgraphlaw8.SearchRuns', WHERE WHAT IT READS IS OF BULK AT MOST 1048576: true; the input reads as it did. -/
def searchRunsUptoRow : OpenClaim := { program := "ytdeamjimjcojhaadoor", sum := "1810db37be5967cea25f5aa2fd6a123a78bfd183ca07b9af606e93263a94098b", func := "skipgraph/skipgraphlaw8.SearchRuns", spec := "searchRuns", inPlace := ["internal/reflectlite.ValueOf", "internal/reflectlite.Swapper", "(internal/reflectlite.Value).Len"], unfollowed := true, recurses := true, named := ["skipgraph/skipgraphworld.letters", "math/bits.deBruijn32tab"], apart := false, laid := [("math/bits.deBruijn32tab", laid_math_bits_deBruijn32tab), ("skipgraph/skipgraphworld.letters", laid_skipgraph_skipgraphworld_letters)], narrowed := true }
def SearchRunsUptoSaid : Prop := searchRunsUptoRow.holds Tryd.pinned (OpenSpec.upto searchRunsSpec)

/-- 'skipgraphlaw8.SearchEnds', WHERE WHAT IT READS IS OF BULK AT MOST 1048576: true; the input reads as it did. -/
def searchEndsUptoRow : OpenClaim := { program := "ytdeamjimjcojhaadoor", sum := "1810db37be5967cea25f5aa2fd6a123a78bfd183ca07b9af606e93263a94098b", func := "skipgraph/skipgraphlaw8.SearchEnds", spec := "searchEnds", inPlace := ["internal/reflectlite.ValueOf", "internal/reflectlite.Swapper", "(internal/reflectlite.Value).Len"], unfollowed := true, recurses := true, named := ["skipgraph/skipgraphworld.letters", "math/bits.deBruijn32tab"], apart := false, laid := [("math/bits.deBruijn32tab", laid_math_bits_deBruijn32tab), ("skipgraph/skipgraphworld.letters", laid_skipgraph_skipgraphworld_letters)], narrowed := true }
def SearchEndsUptoSaid : Prop := searchEndsUptoRow.holds Tryd.pinned (OpenSpec.upto searchEndsSpec)

/-- 'skipgraphlaw8.SearchApproaches', WHERE WHAT IT READS IS OF BULK AT MOST 1048576: true; the input reads as it did. -/
def searchApproachesUptoRow : OpenClaim := { program := "ytdeamjimjcojhaadoor", sum := "1810db37be5967cea25f5aa2fd6a123a78bfd183ca07b9af606e93263a94098b", func := "skipgraph/skipgraphlaw8.SearchApproaches", spec := "searchApproaches", inPlace := ["internal/reflectlite.ValueOf", "internal/reflectlite.Swapper", "(internal/reflectlite.Value).Len"], unfollowed := true, recurses := true, named := ["skipgraph/skipgraphworld.letters", "math/bits.deBruijn32tab"], apart := false, laid := [("math/bits.deBruijn32tab", laid_math_bits_deBruijn32tab), ("skipgraph/skipgraphworld.letters", laid_skipgraph_skipgraphworld_letters)], narrowed := true }
def SearchApproachesUptoSaid : Prop := searchApproachesUptoRow.holds Tryd.pinned (OpenSpec.upto searchApproachesSpec)

/-- 'skipgraphlaw8.SearchAgrees', WHERE WHAT IT READS IS OF BULK AT MOST 1048576: true; the input reads as it did. -/
def searchAgreesUptoRow : OpenClaim := { program := "ytdeamjimjcojhaadoor", sum := "1810db37be5967cea25f5aa2fd6a123a78bfd183ca07b9af606e93263a94098b", func := "skipgraph/skipgraphlaw8.SearchAgrees", spec := "searchAgrees", inPlace := ["internal/reflectlite.ValueOf", "internal/reflectlite.Swapper", "(internal/reflectlite.Value).Len"], unfollowed := true, recurses := true, named := ["skipgraph/skipgraphworld.letters", "math/bits.deBruijn32tab"], apart := false, laid := [("math/bits.deBruijn32tab", laid_math_bits_deBruijn32tab), ("skipgraph/skipgraphworld.letters", laid_skipgraph_skipgraphworld_letters)], narrowed := true }
def SearchAgreesUptoSaid : Prop := searchAgreesUptoRow.holds Tryd.pinned (OpenSpec.upto searchAgreesSpec)

/-- 'skipgraphlaw8.SearchBounds', WHERE WHAT IT READS IS OF BULK AT MOST 1048576: true; the input reads as it did. -/
def searchBoundsUptoRow : OpenClaim := { program := "ytdeamjimjcojhaadoor", sum := "1810db37be5967cea25f5aa2fd6a123a78bfd183ca07b9af606e93263a94098b", func := "skipgraph/skipgraphlaw8.SearchBounds", spec := "searchBounds", inPlace := ["internal/reflectlite.ValueOf", "internal/reflectlite.Swapper", "(internal/reflectlite.Value).Len"], unfollowed := true, recurses := true, named := ["skipgraph/skipgraphworld.letters", "math/bits.deBruijn32tab"], apart := false, laid := [("math/bits.deBruijn32tab", laid_math_bits_deBruijn32tab), ("skipgraph/skipgraphworld.letters", laid_skipgraph_skipgraphworld_letters)], narrowed := true }
def SearchBoundsUptoSaid : Prop := searchBoundsUptoRow.holds Tryd.pinned (OpenSpec.upto searchBoundsSpec)

end Rows
end Go.Proofs.YtdeamjimjcojhaaDoor
