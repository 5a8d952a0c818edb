/-
  What two listed variables give the walk: the library's table of trailing zeros, and letters.
-/
import Derived.Test.YtjokbdhineilcaaDoorKwD
import Derived.Test.YtjokbdhineilcaaDoorLwG
namespace Go.Proofs.YtjokbdhineilcaaDoor
open Go.ChangeShapes Go.WideShapes Go.ChangeAt Go.RowKit Go.Joins
set_option maxRecDepth 100000

/-- What the laws' rows list. -/
def laidM : List (String × DataW Unit) := [("math/bits.deBruijn32tab", Rows.laid_math_bits_deBruijn32tab), ("skipgraph/skipgraphworld.letters", Rows.laid_skipgraph_skipgraphworld_letters)]
theorem laidMet_split {P : Program} {x : String × DataW Unit} {l : List (String × DataW Unit)} {w : World} (h : laidMet P (x :: l) w) : laidMet P [x] w ∧ laidMet P l w := by
  obtain ⟨ps, ⟨g, t, cs, fuel, p, q, h1, h2, h3, h4, h5, rfl⟩, hnd, hall⟩ := h
  refine ⟨⟨_, ⟨g, t, cs, fuel, p, [], h1, h2, h3, h4, rfl, rfl⟩, ?_, fun b off hb => hall b off ?_⟩, ⟨q, h5, ?_, fun b off hb => hall b off ?_⟩⟩
  · rw [List.append_nil]
    exact hnd.sublist (List.sublist_append_left _ _)
  · rw [List.append_nil] at hb
    exact List.mem_append_left _ hb
  · exact hnd.sublist (List.sublist_append_right _ _)
  · exact List.mem_append_right _ hb
theorem both_of_laid {W : World} (h : laidMetH Tryd.prog laidM W) : Deb W ∧ Lets W ∧ 0 < W.heap.size := by
  rw [MakeChecks.laidMetH_plain _ _ _ (by kernel_rfl)] at h
  obtain ⟨h1, h2⟩ := laidMet_split h
  have k1 : laidMetH Tryd.prog laidD W := by rw [MakeChecks.laidMetH_plain _ _ _ (by kernel_rfl)]; exact h1
  have k2 : laidMetH Tryd.prog laidL W := by rw [MakeChecks.laidMetH_plain _ _ _ (by kernel_rfl)]; exact h2
  exact ⟨(deb_of_laid k1).1, lets_of_laid k2⟩
end Go.Proofs.YtjokbdhineilcaaDoor
