/-
  Step of the reference of chapter 11. Conditions: the list can be read; no list is long.
-/
import Derived.Test.YtmhbloefmknikaaGreatDoorMbI
namespace Go.Proofs.YtmhbloefmknikaaGreatDoor
open Go.RowKit Go.Maps
namespace Lk
/-- A list laid into the box of the result. -/
theorem own_end {w w8 : World} {B X : Nat} {A1 A2 : Option Addr} {l' : Ls} (hB : B = w.heap.size) (hb : Below B w w8) (h2 : B + 1 + 1 ≤ X) (hm : RdL w8 X A1 A2 l') (u v : Value) :
    RdL ((w8.setCell ⟨B + 1, 0, none⟩ u).setCell ⟨B + 1, 1, none⟩ v) w.heap.size A1 A2 l' ∧ Below w.heap.size w ((w8.setCell ⟨B + 1, 0, none⟩ u).setCell ⟨B + 1, 1, none⟩ v) := by
  subst hB
  refine ⟨(hm.keep (by simp [World.setCell]) fun i h1 h3 => ?_).low (by omega), (hb.setCell (p := ⟨w.heap.size + 1, 0, none⟩) (by simp only; omega) u).setCell (p := ⟨w.heap.size + 1, 1, none⟩) (by simp only; omega) v⟩
  rw [Below.heap_setCell _ ⟨w.heap.size + 1, 1, none⟩ _ _ (by simp only; omega), Below.heap_setCell _ ⟨w.heap.size + 1, 0, none⟩ _ _ (by simp only; omega)]
end Lk
end Go.Proofs.YtmhbloefmknikaaGreatDoor
