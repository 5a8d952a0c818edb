/-
  Cells and processes that are made at once. No condition.
-/
import Derived.Test.YtgmffgdhijcfcaaDoorKzX0
import Derived.Laws.MakeOwn
namespace Go.Proofs.YtgmffgdhijcfcaaDoor
open Go.RowKit Go.Maps
namespace Lk

def zc (m : Nat) : Array Value := ((List.replicate m Po.zero).flatMap Po.row).toArray
theorem rep_row {α : Type} (enc : α → List Value) (x : α) (z : List Value) (h : enc x = z) : ∀ m, (List.replicate m x).flatMap enc = (List.replicate m z).flatten
  | 0 => rfl
  | m + 1 => by
    rw [List.replicate_succ, List.flatMap_cons, rep_row enc x z h m, h]
    rfl
theorem make_cells (W : World) : (Instr.makeSlice 32 (.int .i64 2) (.int .i64 2)).run Tryd.prog W = .ok (.slice (some ⟨W.heap.size, 0, none⟩) 2 2) (W.alloc (.cells #[.string ⟨#[]⟩, .int .i64 0, .int .i64 0, .int .i64 0, .bool false, .string ⟨#[]⟩, .int .i64 0, .int .i64 0, .int .i64 0, .bool false] 58)) := by kernel_rfl
theorem make_procs (W : World) (m : Nat) (hm : m ≤ 8) : (Instr.makeSlice 33 (.int .i64 (m : Int)) (.int .i64 (m : Int))).run Tryd.prog W = .ok (.slice (some ⟨W.heap.size, 0, none⟩) m m) (W.alloc (.cells (zc m) 52)) := by
  have h : m = 0 ∨ m = 1 ∨ m = 2 ∨ m = 3 ∨ m = 4 ∨ m = 5 ∨ m = 6 ∨ m = 7 ∨ m = 8 := by omega
  rcases h with rfl | rfl | rfl | rfl | rfl | rfl | rfl | rfl | rfl <;> (clear hm; show _ = _; kernel_rfl)
theorem procs_mut (W : World) (m : Nat) (hm : m ≤ 8) : MutR Po.row 7 52 (W.alloc (.cells (zc m) 52)) W.heap.size m (List.replicate m Po.zero) := by
  refine ⟨by simp, by unfold maxLen; omega, zc m, Has.new W _ _, ?_, fun i hi j u hu => ?_⟩
  · unfold zc
    rw [List.size_toArray, flat_size Po.row_len]
    simp
  · unfold zc
    rw [List.getElem?_toArray]
    have hj : j < 7 := by
      rw [← Po.row_len ((List.replicate m Po.zero)[i])]
      exact (List.getElem?_eq_some_iff.1 hu).1
    rw [flat_row Po.row_len _ i hi j hj]
    exact hu
theorem cells_own (W : World) : OwnR Ce.row 5 58 (W.alloc (.cells #[.string ⟨#[]⟩, .int .i64 0, .int .i64 0, .int .i64 0, .bool false, .string ⟨#[]⟩, .int .i64 0, .int .i64 0, .int .i64 0, .bool false] 58)) W.heap.size (.slice (some ⟨W.heap.size, 0, none⟩) 2 2) [Ce.zero, Ce.zero] :=
  ⟨rfl, .inr ⟨W.heap.size, 2, _, rfl, Nat.le_refl _, Has.new W _ _, Nat.le_refl _, by unfold maxLen; omega, rfl, rfl⟩⟩
/-- A list that New is making: its box, its cells, its processes. -/
structure NewS (base : Nat) (w : World) (X G2 m : Nat) (v1 : Value) (cs : List Ce) : Prop where
  own : OwnR Ce.row 5 58 w base v1 cs
  ps : MutR Po.row 7 52 w G2 m (List.replicate m Po.zero)
  x0 : w.cell? ⟨X, 0, none⟩ = some v1
  x1 : w.cell? ⟨X, 1, none⟩ = some (.slice (some ⟨G2, 0, none⟩) m m)
  fz : ∀ o, w.frozen? ⟨X, o, none⟩ = false
  ne1 : v1.ownBlock ≠ some X
  ne2 : v1.ownBlock ≠ some G2
  ne3 : X ≠ G2
  bX : base ≤ X
  bG : base ≤ G2
def z2 : Array Value := #[.string ⟨#[]⟩, .int .i64 0, .int .i64 0, .int .i64 0, .bool false, .string ⟨#[]⟩, .int .i64 0, .int .i64 0, .int .i64 0, .bool false]
theorem NewS.of {base : Nat} {w : World} {X G1 G2 m : Nat} (hm : m ≤ 8) (hX : Has w X 35 #[.slice (some ⟨G1, 0, none⟩) 2 2, .slice (some ⟨G2, 0, none⟩) m m]) (h1 : Has w G1 58 z2) (h2 : Has w G2 52 (zc m)) (n1 : X ≠ G1) (n2 : X ≠ G2) (n3 : G1 ≠ G2) (b1 : base ≤ X) (b2 : base ≤ G1) (b3 : base ≤ G2) : NewS base w X G2 m (.slice (some ⟨G1, 0, none⟩) 2 2) [Ce.zero, Ce.zero] := by
  have hp := procs_mut w m hm
  obtain ⟨q1, q2, cur, q3, q4, q5⟩ := hp
  have e : cur = zc m := by
    have h := (Has.new w 52 (zc m))
    unfold Has at q3 h
    rw [h] at q3
    injection q3 with q3
    injection q3 with q3
    exact q3.symm
  subst e
  refine ⟨⟨rfl, .inr ⟨G1, 2, _, rfl, b2, h1, Nat.le_refl _, by unfold maxLen; omega, rfl, rfl⟩⟩, ⟨q1, q2, _, h2, q4, q5⟩, hX.cell 0, hX.cell 1, hX.frozen, ?_, ?_, n2, b1, b3⟩
  · intro e
    exact n1 (Option.some.inj e).symm
  · intro e
    exact n3 (Option.some.inj e)
theorem three (w : World) (c1 c2 c3 : Array Value) (t1 t2 t3 : TypeId) : Has (((w.alloc (.cells c1 t1)).alloc (.cells c2 t2)).alloc (.cells c3 t3)).drew w.heap.size t1 c1 ∧ Has (((w.alloc (.cells c1 t1)).alloc (.cells c2 t2)).alloc (.cells c3 t3)).drew (w.heap.size + 1) t2 c2 ∧ Has (((w.alloc (.cells c1 t1)).alloc (.cells c2 t2)).alloc (.cells c3 t3)).drew (w.heap.size + 1 + 1) t3 c3 ∧ Below w.heap.size w (((w.alloc (.cells c1 t1)).alloc (.cells c2 t2)).alloc (.cells c3 t3)).drew := by
  have h1 := Has.new w t1 c1
  have h2 := Has.new (w.alloc (.cells c1 t1)) t2 c2
  have h3 := Has.new ((w.alloc (.cells c1 t1)).alloc (.cells c2 t2)) t3 c3
  have b2 := (Below.refl (w.alloc (.cells c1 t1)).heap.size _).alloc (Nat.le_refl _) (.cells c2 t2)
  have b3 := (Below.refl ((w.alloc (.cells c1 t1)).alloc (.cells c2 t2)).heap.size _).alloc (Nat.le_refl _) (.cells c3 t3)
  have b1 := (Below.refl w.heap.size w).alloc (Nat.le_refl _) (.cells c1 t1)
  rw [World.size_alloc] at h2
  rw [World.size_alloc, World.size_alloc] at h3
  exact ⟨(h1.below b2).below b3.drew, h2.below b3.drew, h3, ((b1.trans (b2.mono b1.size)).trans (b3.mono (Nat.le_trans b1.size b2.size))).drew⟩
section
variable {base : Nat} {w w' : World} {X G2 m : Nat} {v1 : Value} {cs : List Ce}
theorem NewS.below (h : NewS base w X G2 m v1 cs) (k : Below w.heap.size w w') : NewS base w' X G2 m v1 cs := by
  have hX : X < w.heap.size := World.block_lt_of_cell? w _ h.x0
  exact ⟨h.own.below k, h.ps.below k, (k.cell (p := ⟨X, 0, none⟩) hX).trans h.x0, (k.cell (p := ⟨X, 1, none⟩) hX).trans h.x1, fun o => (k.frozen (p := ⟨X, o, none⟩) hX).trans (h.fz o), h.ne1, h.ne2, h.ne3, h.bX, h.bG⟩
/-- Its cells have been appended to, its box is set. -/
theorem NewS.put (h : NewS base w X G2 m v1 cs) {v' : Value} {cs' : List Ce} (ho : OwnR Ce.row 5 58 w' base v' cs') (hg : w.grownBy w' v1.ownBlock) (hat : v'.ownBlock = v1.ownBlock ∨ ∃ q, w.heap.size ≤ q ∧ v'.ownBlock = some q) : NewS base (w'.setCell ⟨X, 0, none⟩ v') X G2 m v' cs' := by
  have hX : X < w.heap.size := World.block_lt_of_cell? w _ h.x0
  have hG := h.ps.lt
  have n1 : v'.ownBlock ≠ some X := by
    rcases hat with e | ⟨q, h1, e⟩
    · rw [e]; exact h.ne1
    · rw [e]; intro e2; have := Option.some.inj e2; omega
  have n2 : v'.ownBlock ≠ some G2 := by
    rcases hat with e | ⟨q, h1, e⟩
    · rw [e]; exact h.ne2
    · rw [e]; intro e2; have := Option.some.inj e2; omega
  have hbX : w'.heap[X]? = w.heap[X]? := hg.block X hX (fun e => h.ne1 e.symm)
  have hbG : w'.heap[G2]? = w.heap[G2]? := hg.block G2 hG (fun e => h.ne2 e.symm)
  have c0 := (World.cell?_of_block (a := ⟨X, 0, none⟩) hbX).trans h.x0
  have c1 := (World.cell?_of_block (a := ⟨X, 1, none⟩) hbX).trans h.x1
  refine ⟨ho.blk fun i h1 h2 h3 => Below.heap_setCell _ _ _ _ (fun e => n1 (by rw [h3, e])), (h.ps.keep hbG).far (p := ⟨X, 0, none⟩) h.ne3 _, ?_, ?_, fun o => ?_, n1, n2, h.ne3, h.bX, h.bG⟩
  · simp [go_sem, c0]
  · simp [go_sem, c1]
  · rw [World.frozen?_setCell]
    exact (World.frozen?_of_block (w := w) hbX).trans (h.fz o)
end
theorem row_right (x : Ce) (v : Int) : ({ x with right := v } : Ce).row = x.row.set 2 (.int .i64 v) := rfl
theorem row_left (x : Ce) (v : Int) : ({ x with left := v } : Ce).row = x.row.set 1 (.int .i64 v) := rfl
end Lk
end Go.Proofs.YtgmffgdhijcfcaaDoor
