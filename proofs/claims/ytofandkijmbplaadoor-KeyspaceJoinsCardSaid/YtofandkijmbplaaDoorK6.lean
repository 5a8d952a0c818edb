/-
  The walk of KeyspaceLattice: from whatever arguments it answers true and only makes memory. Conditions: 'letters' holds six strings of one byte; the first argument reads as a slice of ints.
-/
import Derived.Test.YtofandkijmbplaaDoorKsL
import Derived.Test.YtofandkijmbplaaDoorKsR
import Derived.Deep.DeepCutAuto
namespace Go.Proofs.YtofandkijmbplaaDoor
open Go.RowKit

theorem size_set (w : World) (p : Addr) (u : Value) : (w.setCell p u).heap.size = w.heap.size := by simp [World.setCell]
theorem cell_set_same (w : World) (p : Addr) (u : Value) (h : (w.cell? p).isSome = true) : (w.setCell p u).cell? p = some u := World.cell?_setCell_same' w p u h
theorem isSome_set {w : World} {p q : Addr} {u : Value} (h : (w.cell? q).isSome = true) : ((w.setCell p u).cell? q).isSome = true := by
  by_cases e : p = q
  · subst e
    rw [cell_set_same w p u h]
    rfl
  · rw [World.cell?_setCell_other w p q u e]
    exact h
theorem cel_put {w : World} {D : Nat} (x : Rg) (hD : D < w.heap.size) (o0 : (w.cell? ⟨D, 0, none⟩).isSome = true) (o1 : (w.cell? ⟨D, 1, none⟩).isSome = true) (o2 : (w.cell? ⟨D, 2, none⟩).isSome = true) (o3 : (w.cell? ⟨D, 3, none⟩).isSome = true) :
    Cel ((((w.setCell ⟨D, 0, none⟩ (.string x.lo.key)).setCell ⟨D, 1, none⟩ (.bool x.lo.top)).setCell ⟨D, 2, none⟩ (.string x.hi.key)).setCell ⟨D, 3, none⟩ (.bool x.hi.top)) D x := by
  refine ⟨by simp only [size_set]; exact hD, ?_, ?_, ?_, ?_⟩
  · rw [World.cell?_setCell_other _ _ _ _ (by intro e; cases e), World.cell?_setCell_other _ _ _ _ (by intro e; cases e), World.cell?_setCell_other _ _ _ _ (by intro e; cases e)]
    exact cell_set_same _ _ _ o0
  · rw [World.cell?_setCell_other _ _ _ _ (by intro e; cases e), World.cell?_setCell_other _ _ _ _ (by intro e; cases e)]
    exact cell_set_same _ _ _ (isSome_set o1)
  · rw [World.cell?_setCell_other _ _ _ _ (by intro e; cases e)]
    exact cell_set_same _ _ _ (isSome_set (isSome_set o2))
  · exact cell_set_same _ _ _ (isSome_set (isSome_set (isSome_set o3)))
theorem Cel.far {w : World} {b : Nat} {x : Rg} (h : Cel w b x) {p : Addr} (hp : p.block ≠ b) (u : Value) : Cel (w.setCell p u) b x := by
  have k : ∀ o, (w.setCell p u).cell? ⟨b, o, none⟩ = w.cell? ⟨b, o, none⟩ := fun o => World.cell?_setCell_other w p _ u (fun e => hp (by rw [e]))
  exact ⟨by rw [size_set]; exact h.1, (k 0).trans h.2.1, (k 1).trans h.2.2.1, (k 2).trans h.2.2.2.1, (k 3).trans h.2.2.2.2⟩
theorem cels_put2 {w : World} {D E : Nat} (x y : Rg) (hne : D ≠ E) (hD : D < w.heap.size) (hE : E < w.heap.size) (o0 : (w.cell? ⟨D, 0, none⟩).isSome = true) (o1 : (w.cell? ⟨D, 1, none⟩).isSome = true) (o2 : (w.cell? ⟨D, 2, none⟩).isSome = true) (o3 : (w.cell? ⟨D, 3, none⟩).isSome = true)
    (p0 : (w.cell? ⟨E, 0, none⟩).isSome = true) (p1 : (w.cell? ⟨E, 1, none⟩).isSome = true) (p2 : (w.cell? ⟨E, 2, none⟩).isSome = true) (p3 : (w.cell? ⟨E, 3, none⟩).isSome = true) :
    Cel ((((((((w.setCell ⟨D, 0, none⟩ (.string x.lo.key)).setCell ⟨D, 1, none⟩ (.bool x.lo.top)).setCell ⟨D, 2, none⟩ (.string x.hi.key)).setCell ⟨D, 3, none⟩ (.bool x.hi.top)).setCell ⟨E, 0, none⟩ (.string y.lo.key)).setCell ⟨E, 1, none⟩ (.bool y.lo.top)).setCell ⟨E, 2, none⟩ (.string y.hi.key)).setCell ⟨E, 3, none⟩ (.bool y.hi.top)) D x ∧
    Cel ((((((((w.setCell ⟨D, 0, none⟩ (.string x.lo.key)).setCell ⟨D, 1, none⟩ (.bool x.lo.top)).setCell ⟨D, 2, none⟩ (.string x.hi.key)).setCell ⟨D, 3, none⟩ (.bool x.hi.top)).setCell ⟨E, 0, none⟩ (.string y.lo.key)).setCell ⟨E, 1, none⟩ (.bool y.lo.top)).setCell ⟨E, 2, none⟩ (.string y.hi.key)).setCell ⟨E, 3, none⟩ (.bool y.hi.top)) E y :=
  ⟨((((cel_put x hD o0 o1 o2 o3).far (Ne.symm hne) _).far (Ne.symm hne) _).far (Ne.symm hne) _).far (Ne.symm hne) _,
   cel_put y (by simp only [size_set]; exact hE) (isSome_set (isSome_set (isSome_set (isSome_set p0)))) (isSome_set (isSome_set (isSome_set (isSome_set p1)))) (isSome_set (isSome_set (isSome_set (isSome_set p2)))) (isSome_set (isSome_set (isSome_set (isSome_set p3))))⟩
theorem Cel.drew {w : World} {b : Nat} {x : Rg} (h : Cel w b x) : Cel w.drew b x := h
theorem at_cels {w a b : World} {l : List (Nat × TypeId × Array Value)} {g D E : Nat} {x y : Rg} (h : At w l g a ∧ Cel a D x ∧ Cel a E y) (k : Below a.heap.size a b) : At w l g b ∧ Cel b D x ∧ Cel b E y := ⟨h.1.below k, h.2.1.below k, h.2.2.below k⟩

end Go.Proofs.YtofandkijmbplaaDoor
