/-
  A row of truths that is changed in place; what LockedChanges and LockedMoments keep of the processes. Conditions: those of each.
-/
import Derived.Test.YtmhbloefmknikaaDoorLaH
import Derived.Test.YtmhbloefmknikaaDoorMaM
import Derived.Laws.MakeOwn
namespace Go.Proofs.YtmhbloefmknikaaDoor
open Go.RowKit Go.Maps
namespace Lk
def bc (m : Nat) : Array Value := ((List.replicate m false).flatMap brow).toArray
theorem make_bools (W : World) (m : Nat) (hm : m ≤ 4) : (Instr.makeSlice 31 (.int .i64 (m : Int)) (.int .i64 (m : Int))).run Tryd.prog W = .ok (.slice (some ⟨W.heap.size, 0, none⟩) m m) (W.alloc (.cells (bc m) 4)) := by
  have h : m = 0 ∨ m = 1 ∨ m = 2 ∨ m = 3 ∨ m = 4 := by omega
  rcases h with rfl | rfl | rfl | rfl | rfl <;> (clear hm; show _ = _; kernel_rfl)
theorem bools_mut (W : World) (m : Nat) (hm : m ≤ 4) : MutR brow 1 4 (W.alloc (.cells (bc m) 4)) W.heap.size m (List.replicate m false) := by
  refine ⟨by simp, by unfold maxLen; omega, bc m, Has.new W _ _, ?_, fun i hi j u hu => ?_⟩
  · unfold bc
    rw [List.size_toArray, flat_size (k := 1) (fun _ => rfl)]
    simp
  · unfold bc
    rw [List.getElem?_toArray]
    have hj : j < 1 := by
      rw [show 1 = (brow ((List.replicate m false)[i])).length from rfl]
      exact (List.getElem?_eq_some_iff.1 hu).1
    rw [flat_row (k := 1) (fun _ => rfl) _ i hi j hj]
    exact hu
theorem putB {t : TypeId} {w : World} {G c : Nat} {D : List Bool} (h : MutR brow 1 t w G c D) {q : Nat} (hq : q < D.length) (b : Bool) : MutR brow 1 t (w.setCell ⟨G, q, none⟩ (.bool b)) G c (D.set q b) := by
  have := MutR.put (enc := brow) (k := 1) (fun _ => rfl) h hq (j := 0) (by decide) (.bool b) b rfl
  simpa using this
theorem cellB {t : TypeId} {w : World} {G c : Nat} {D : List Bool} (h : MutR brow 1 t w G c D) {q : Nat} (hq : q < D.length) : w.cell? ⟨G, q, none⟩ = some (.bool (D.getD q false)) := by
  have := MutR.cell h hq (j := 0) rfl
  rw [Nat.mul_one, Nat.add_zero] at this
  rw [this, List.getD_eq_getElem?_getD, List.getElem?_eq_getElem hq]
  rfl
theorem has_decI (L : List Nat) {c : Int} (h : 0 ≤ c) : (nat2 L).contains c = decide (c.toNat ∈ L) := by
  obtain ⟨k, rfl⟩ := Int.eq_ofNat_of_zero_le h
  rw [has_dec, Int.toNat_natCast]
theorem memV_len (l : Ls) : (memV l).length ≤ l.cs.length := by
  unfold memV memI
  rw [List.length_mergeSort]
  exact Nat.le_trans (List.length_filter_le _ _) (by simp)
end Lk
end Go.Proofs.YtmhbloefmknikaaDoor
