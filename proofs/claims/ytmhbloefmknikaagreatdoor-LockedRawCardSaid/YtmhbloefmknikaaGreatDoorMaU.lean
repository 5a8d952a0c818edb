/-
  A row of truths that is changed in place; what LockedChanges and LockedMoments keep of the processes. Conditions: those of each.
-/
import Derived.Test.YtmhbloefmknikaaGreatDoorLaH
import Derived.Test.YtmhbloefmknikaaGreatDoorMaM
import Derived.Laws.MakeOwn
namespace Go.Proofs.YtmhbloefmknikaaGreatDoor
open Go.RowKit Go.Maps
namespace Lk
def bc (m : Nat) : Array Value := ((List.replicate m false).flatMap brow).toArray
theorem make_bools (W : World) (m : Nat) (hm : m ≤ 4) : (Instr.makeSlice 55 (.int .i64 (m : Int)) (.int .i64 (m : Int))).run Tryz.prog W = .ok (.slice (some ⟨W.heap.size, 0, none⟩) m m) (W.alloc (.cells (bc m) 4)) := by
  have h : m = 0 ∨ m = 1 ∨ m = 2 ∨ m = 3 ∨ m = 4 := by omega
  rcases h with rfl | rfl | rfl | rfl | rfl <;> (clear hm; show _ = _; kernel_rfl)
theorem bools_mut (W : World) (m : Nat) (hm : m ≤ 4) : MutR brow 1 4 (W.alloc (.cells (bc m) 4)) W.heap.size m (List.replicate m false) := by
  refine ⟨by simp, by unfold maxLen; omega, bc m, Has.new W _ _, ?_, fun i hi j u hu => ?_⟩
  · unfold bc
    rw [List.size_toArray, flat_size (k := 1) (fun _ => rfl)]
    simp
  · unfold bc
    rw [List.getElem?_toArray]
    have hj : j < 1 := by
      rw [show 1 = (brow ((List.replicate m false)[i])).length from rfl]
      exact (List.getElem?_eq_some_iff.1 hu).1
    rw [flat_row (k := 1) (fun _ => rfl) _ i hi j hj]
    exact hu
theorem putB {t : TypeId} {w : World} {G c : Nat} {D : List Bool} (h : MutR brow 1 t w G c D) {q : Nat} (hq : q < D.length) (b : Bool) : MutR brow 1 t (w.setCell ⟨G, q, none⟩ (.bool b)) G c (D.set q b) := by
  have := MutR.put (enc := brow) (k := 1) (fun _ => rfl) h hq (j := 0) (by decide) (.bool b) b rfl
  simpa using this
theorem cellB {t : TypeId} {w : World} {G c : Nat} {D : List Bool} (h : MutR brow 1 t w G c D) {q : Nat} (hq : q < D.length) : w.cell? ⟨G, q, none⟩ = some (.bool (D.getD q false)) := by
  have := MutR.cell h hq (j := 0) rfl
  rw [Nat.mul_one, Nat.add_zero] at this
  rw [this, List.getD_eq_getElem?_getD, List.getElem?_eq_getElem hq]
  rfl
theorem has_decI (L : List Nat) {c : Int} (h : 0 ≤ c) : (nat2 L).contains c = decide (c.toNat ∈ L) := by
  obtain ⟨k, rfl⟩ := Int.eq_ofNat_of_zero_le h
  rw [has_dec, Int.toNat_natCast]
theorem memV_len (l : Ls) : (memV l).length ≤ l.cs.length := by
  unfold memV memI
  rw [List.length_mergeSort]
  exact Nat.le_trans (List.length_filter_le _ _) (by simp)
/-- What LockedChanges marks. -/
def DidA (l : Ls) (D : List Bool) : Prop := D.length = l.ps.length ∧ ∀ p, p < l.ps.length → DidI (l.pr p) (D.getD p false)
theorem didA_new {l : Ls} {n m : Nat} (h : Fresh l n m) : DidA l (List.replicate m false) :=
  ⟨by rw [List.length_replicate]; exact h.hm.symm, fun p _ => by
    rw [h.pr p, show (List.replicate m false).getD p false = false by
      rw [List.getD_eq_getElem?_getD, List.getElem?_replicate]
      split <;> rfl]
    exact did_zero⟩
theorem didA_beg {l : Ls} {D : List Bool} (h : DidA l D) {q : Nat} (hq : q < l.ps.length) (kd c : Int) : DidA (begV l q kd c) (D.set q false) := by
  refine ⟨by rw [List.length_set, (beg_len l q kd c).2]; exact h.1, fun p hp => ?_⟩
  rw [(beg_len l q kd c).2] at hp
  rw [getD_set _ _ _ _ _ (by rw [h.1]; exact hq)]
  unfold begV
  rw [Ls.pr_setP _ hq]
  by_cases e : p = q
  · rw [if_pos e, if_pos e]; exact did_beg
  · rw [if_neg e, if_neg e]; exact h.2 p hp
theorem didA_step {l l2 : Ls} {D : List Bool} (v : Vld l) (h : DidA l D) {q : Nat} (hq : q < l.ps.length) (e : stepV l q = some l2) : DidA l2 (D.set q (D.getD q false || decide ((l.pr q).phase = 7) || decide ((l.pr q).phase = 10))) := by
  have hm := (bus_step v hq e).2
  have ho := step_own hq e
  refine ⟨by rw [List.length_set, hm]; exact h.1, fun p hp => ?_⟩
  rw [hm] at hp
  rw [getD_set _ _ _ _ _ (by rw [h.1]; exact hq)]
  by_cases ep : p = q
  · subst ep
    rw [if_pos rfl]
    exact did_step ho.1 (h.2 p hp)
  · rw [if_neg ep, ho.2 p ep]; exact h.2 p hp
theorem didA_mark {l l2 : Ls} {D : List Bool} (v : Vld l) (h : DidA l D) {q : Nat} (hq : q < l.ps.length) (e : stepV l q = some l2) (hp : (l.pr q).phase = 7 ∨ (l.pr q).phase = 10) : DidA l2 (D.set q true) := by
  have := didA_step v h hq e
  rcases hp with hp | hp <;> simpa [hp] using this
theorem didA_same {l l2 : Ls} {D : List Bool} (v : Vld l) (h : DidA l D) {q : Nat} (hq : q < l.ps.length) (e : stepV l q = some l2) (h7 : (l.pr q).phase ≠ 7) (h10 : (l.pr q).phase ≠ 10) : DidA l2 D := by
  have := didA_step v h hq e
  rw [decide_eq_false h7, decide_eq_false h10, Bool.or_false, Bool.or_false] at this
  have e2 : D.set q (D.getD q false) = D := by
    have hq2 : q < D.length := by rw [h.1]; exact hq
    rw [List.getD_eq_getElem?_getD, List.getElem?_eq_getElem hq2]
    exact List.set_getElem_self hq2
  rwa [e2] at this
end Lk
end Go.Proofs.YtmhbloefmknikaaGreatDoor
