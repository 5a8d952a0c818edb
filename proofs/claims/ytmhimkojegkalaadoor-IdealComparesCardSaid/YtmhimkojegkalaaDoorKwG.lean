/-
  What the listed variable gives the walk: letters.
-/
import Derived.Test.YtmhimkojegkalaaDoorKwF
import Derived.Test.YtmhimkojegkalaaDoorKwK
import Derived.Test.YtmhimkojegkalaaDoorCards
import Derived.Test.YtmhimkojegkalaaDoorTie
namespace Go.Proofs.YtmhimkojegkalaaDoor
open Go.ChangeShapes Go.WideShapes Go.ChangeAt Go.RowKit Go.Joins
set_option maxRecDepth 100000

theorem gLet : Tryd.prog.globalNamed "skipgraph/skipgraphworld.letters" = some 0 := by kernel_rfl
theorem tLet : (Tryd.prog.globals[0]?).map (·.type) = some 102 := by kernel_rfl
theorem cStr : Tryd.prog.cellsOf 9 = 1 := by kernel_rfl

/-- What the laws' rows list. -/
def laidL : List (String × DataW Unit) := [("skipgraph/skipgraphworld.letters", Rows.laid_skipgraph_skipgraphworld_letters)]

theorem lit_one {a b : List UInt8} (h : some (DataW.lit (H := Unit) (.string a)) = some (DataW.lit (.string b))) : a = b := by simpa using h

/-- The listed variable holds six strings of one byte. -/
theorem lets_of_laid {W : World} (h : laidMetH Tryd.prog laidL W) : Lets W ∧ 0 < W.heap.size := by
  rw [MakeChecks.laidMetH_plain _ _ _ (by kernel_rfl)] at h
  obtain ⟨ps, ⟨g0, t0, cs0, f0, p0, q0, hg0, ht0, hv0, hd0, _, _⟩, _, _⟩ := h
  obtain rfl := Option.some.inj (gLet.symm.trans hg0)
  obtain rfl := Option.some.inj (tLet.symm.trans ht0)
  obtain ⟨xs, m1, rfl, hx1, hlen, hn3, hel⟩ := DataW.trod_array Tryd.underlying102 hd0
  simp only [Prod.mk.injEq] at hx1
  have key : ∀ i, i < 6 → ∃ s : ByteArray, s.size = 1 ∧ W.cell? ⟨0, i, none⟩ = some (.string s) := fun i hi => by
    have he := hel i hi
    have hxi : xs[i]? = some (xs[i]'(by omega)) := List.getElem?_eq_getElem (by omega)
    rw [hxi, cStr] at he
    obtain ⟨s, e1, e2, _⟩ := DataW.trod_string Tryd.underlying9 he
    refine ⟨s, ?_, ?_⟩
    · have e3 : (xs.map (·.1))[i]? = some (.lit (.string s.data.toList)) := by rw [List.getElem?_map, hxi, e2]; rfl
      have e4 : xs.map (·.1) = [.lit (.string [97]), .lit (.string [98]), .lit (.string [99]), .lit (.string [0]), .lit (.string [255]), .lit (.string [109])] := by
        have := hx1.1
        unfold Rows.laid_skipgraph_skipgraphworld_letters at this
        injection this with this
        exact this.symm
      rw [e4] at e3
      have : s.data.toList.length = 1 := by
        have hi6 : i = 0 ∨ i = 1 ∨ i = 2 ∨ i = 3 ∨ i = 4 ∨ i = 5 := by omega
        have e5 : ∃ x : UInt8, s.data.toList = [x] := by
          rcases hi6 with rfl | rfl | rfl | rfl | rfl | rfl <;> exact ⟨_, (lit_one e3).symm⟩
        obtain ⟨x, e5⟩ := e5
        rw [e5]; rfl
      exact this
    · have hcell := World.var?_cell hg0 hv0 i
      rw [hcell]
      have hl1 : cs0[i]? = some (.string s) := by
        have : (cs0.toList.drop (i * 1)).take 1 = [.string s] := e1
        rw [Nat.mul_one] at this
        have h2 := congrArg (·[0]?) this
        simpa [List.getElem?_take, List.getElem?_drop] using h2
      exact hl1
  exact ⟨key, by
    obtain ⟨s, _, hc⟩ := key 0 (by omega)
    have := World.block_lt_of_cell? W _ hc
    exact Nat.lt_of_le_of_lt (Nat.zero_le _) this⟩

end Go.Proofs.YtmhimkojegkalaaDoor
