/-
  What New answers, as it is built up: plain. No condition.
  Cells and processes that are made at once. No condition.
  New of package locked. Conditions: keys and truths can be read.
-/
import Derived.Test.YtmhbloefmknikaaGreatDoorLzQ
import Derived.Laws.MakeOwn
import Derived.Test.YtmhbloefmknikaaGreatDoorKzV
namespace Go.Proofs.YtmhbloefmknikaaGreatDoor
section
open Go.RowKit Go.Maps
namespace Lk

/-- The error of New. -/
noncomputable def newE (ks : List ByteArray) (is : List Bool) (m : Int) : Int :=
  open Classical in if ks.length > 64 then 3 else if ¬ (1 ≤ m ∧ m ≤ 8) then 2 else if ks.length ≠ is.length ∨ ¬ (∀ k ∈ ks, vk k = true) then 1 else if ¬ ks.Nodup then 5 else 0
def selV (is : List Bool) (i : Nat) : Bool := is.getD (i - 2) false
/-- A list that New returns, or its error. -/
def NewP (ks : List ByteArray) (is : List Bool) (m : Int) (kn : Nat) (w : World) (e : Ending) (w' : World) : Prop :=
  (newE ks is m ≠ 0 ∧ e = .returned (.tuple #[zeroL, .int .i64 (newE ks is m)]) ∧ Below w.heap.size w w') ∨
  (newE ks is m = 0 ∧ ∃ G1 G2 d1 d2, e = .returned (.tuple #[.agg #[.slice (some ⟨G1, 0, none⟩) (kn + 2) d1, .slice (some ⟨G2, 0, none⟩) m.toNat d2], .int .i64 0]) ∧ RdL w' w.heap.size (some ⟨G1, 0, none⟩) (some ⟨G2, 0, none⟩) (newV ks m.toNat (selV is)) ∧ Below w.heap.size w w')
/-- The cells of the first k keys, not linked. -/
def nwC (ks : List ByteArray) (is : List Bool) (k : Nat) : List Ce := Ce.zero :: Ce.zero :: (List.range k).map (fun i => ⟨ks.getD i ⟨#[]⟩, 0, 0, 0, !is.getD i false⟩)
theorem nwC_len (ks : List ByteArray) (is : List Bool) (k : Nat) : (nwC ks is k).length = k + 2 := by simp [nwC]
theorem nwC_next (ks : List ByteArray) (is : List Bool) (k : Nat) : nwC ks is (k + 1) = nwC ks is k ++ [⟨ks.getD k ⟨#[]⟩, 0, 0, 0, !is.getD k false⟩] := by
  unfold nwC
  rw [List.range_succ, List.map_append]
  rfl
def nw0 (ks : List ByteArray) (is : List Bool) (m : Nat) : Ls := ⟨nwC ks is ks.length, List.replicate m Po.zero⟩
theorem nw0_at (ks : List ByteArray) (is : List Bool) (m : Nat) (i : Nat) (h : i < ks.length + 2) : (nw0 ks is m).at_ i = { (nwB ks m).at_ i with gone := decide (2 ≤ i) && !selV is i } := by
  match i, h with
  | 0, _ => rfl
  | 1, _ => rfl
  | i + 2, h =>
    rw [nwB_at ks m (by omega)]
    unfold nw0 nwC Ls.at_ selV
    have h' : i < ks.length := by omega
    simp [List.getD_eq_getElem?_getD, h']
theorem nw0_len (ks : List ByteArray) (is : List Bool) (m : Nat) : (nw0 ks is m).cs.length = ks.length + 2 := nwC_len ks is ks.length
theorem nw0_key (ks : List ByteArray) (is : List Bool) (m i : Nat) : ((nw0 ks is m).at_ i).key = ((nwB ks m).at_ i).key := by
  by_cases h : i < ks.length + 2
  · rw [nw0_at ks is m i h]
  · unfold Ls.at_
    rw [List.getD_eq_getElem?_getD, List.getElem?_eq_none (by rw [nw0_len]; omega), List.getD_eq_getElem?_getD, List.getElem?_eq_none (by rw [nwB_len]; omega)]
theorem nw0_rnk (ks : List ByteArray) (is : List Bool) (m : Nat) : rnk (nw0 ks is m) = rnk (nwB ks m) := funext fun i => rnk_keys (nw0_key ks is m) (by rw [nw0_len, nwB_len]) i
theorem nw0_vld {ks : List ByteArray} {is : List Bool} {m : Nat} (h : NwOk ks m) : Vld (nw0 ks is m) := by
  have hz : ∀ i, i < (nwB ks m).cs.length → ((nw0 ks is m).at_ i).left = 0 ∧ ((nw0 ks is m).at_ i).right = 0 ∧ ((nw0 ks is m).at_ i).lock = 0 := fun i hi => by
    rw [nwB_len] at hi
    rw [nw0_at ks is m i hi]
    exact nwB_zero ks m i
  refine vld_cells (l' := nw0 ks is m) (nwB_vld h) (by rw [nw0_len, nwB_len]) rfl (nw0_key ks is m) (fun i hi => ?_) (fun i hi => ?_) (fun i hi => ?_)
  · rw [(hz i hi).1]; have := nwB_len ks m; omega
  · rw [(hz i hi).2.1]; have := nwB_len ks m; omega
  · rw [(hz i hi).2.2]; omega
theorem nw0_mem {ks : List ByteArray} {is : List Bool} {m : Nat} : memV (nw0 ks is m) = memI (nwB ks m) (selV is) := by
  unfold memV memI
  rw [nw0_rnk, nw0_len, nwB_len]
  congr 1
  refine List.filter_congr fun i hi => ?_
  rw [List.mem_range] at hi
  show (decide (2 ≤ i) && !((nw0 ks is m).at_ i).gone) = _
  rw [nw0_at ks is m i hi]
  by_cases h : 2 ≤ i <;> simp [h]
/-- Cells linked along a list of places. -/
def lkV (l : Ls) (P : List Nat) : Ls := { l with cs := (List.range l.cs.length).map (fun i => { l.at_ i with left := (prvL P i : Nat), right := (nxtL P i : Nat) }) }
theorem lkV_len (l : Ls) (P : List Nat) : (lkV l P).cs.length = l.cs.length := by simp [lkV]
theorem lkV_at (l : Ls) (P : List Nat) {i : Nat} (h : i < l.cs.length) : (lkV l P).at_ i = { l.at_ i with left := (prvL P i : Nat), right := (nxtL P i : Nat) } := by
  unfold lkV
  show ((List.range l.cs.length).map _).getD i Ce.zero = _
  simp [List.getD_eq_getElem?_getD, h]
theorem lkV_new {ks : List ByteArray} {is : List Bool} {m : Nat} : lkV (nw0 ks is m) (ordV ks m (selV is)) = newV ks m (selV is) := by
  unfold lkV newV
  rw [nw0_len]
  congr 1
  refine List.map_congr_left fun i hi => ?_
  rw [List.mem_range] at hi
  rw [nw0_at ks is m i hi]
  have hz := nwB_zero ks m i
  simp only [hz]
theorem lkV_zero {ks : List ByteArray} {is : List Bool} {m : Nat} : lkV (nw0 ks is m) [0] = nw0 ks is m := by
  unfold lkV
  show (Ls.mk _ _) = _
  have e : (List.range (nw0 ks is m).cs.length).map (fun i => ({ (nw0 ks is m).at_ i with left := ((prvL [0] i : Nat) : Int), right := ((nxtL [0] i : Nat) : Int) } : Ce)) = (nw0 ks is m).cs := by
    refine List.ext_getElem (by simp) fun i h1 h2 => ?_
    rw [List.getElem_map, List.getElem_range, Ls.at_lt _ h2]
    have hz := nwB_zero ks m i
    rw [nw0_len] at h2
    rw [nw0_at ks is m i h2]
    simp [prvL, nxtL, hz]
  rw [e]
theorem nxtL_snoc : ∀ {P : List Nat} {b x : Nat}, (P ++ [b]).Nodup → ∀ i, nxtL (P ++ [b] ++ [x]) i = if i = b then x else nxtL (P ++ [b]) i
  | [], b, x, _, i => rfl
  | [a], b, x, h, i => by
    show (if i = a then b else if i = b then x else nxtL [x] i) = if i = b then x else if i = a then b else nxtL [b] i
    have : a ≠ b := by simpa using h
    by_cases e : i = a
    · subst e; simp [this]
    · simp [e, nxtL]
  | a :: a' :: P, b, x, h, i => by
    have h2 : (a' :: P ++ [b]).Nodup := (List.nodup_cons.1 h).2
    have ih := nxtL_snoc (x := x) h2 i
    have hab : a ≠ b := fun e => (List.nodup_cons.1 h).1 (by rw [e]; simp)
    show (if i = a then a' else nxtL (a' :: P ++ [b] ++ [x]) i) = if i = b then x else if i = a then a' else nxtL (a' :: P ++ [b]) i
    rw [ih]
    by_cases e : i = a
    · subst e; simp [hab]
    · simp [e]
theorem prvL_snoc : ∀ {P : List Nat} {b x : Nat}, (P ++ [b] ++ [x]).Nodup → ∀ i, prvL (P ++ [b] ++ [x]) i = if i = x then b else prvL (P ++ [b]) i
  | [], b, x, _, i => rfl
  | [a], b, x, h, i => by
    show (if i = b then a else if i = x then b else prvL [x] i) = if i = x then b else if i = b then a else prvL [b] i
    have : b ≠ x := by simp at h; exact h.2
    by_cases e : i = b
    · subst e; simp [this]
    · simp [e, prvL]
  | a :: a' :: P, b, x, h, i => by
    have h2 : (a' :: P ++ [b] ++ [x]).Nodup := (List.nodup_cons.1 h).2
    have ih := prvL_snoc h2 i
    have hax : a' ≠ x := fun e => (List.nodup_cons.1 h2).1 (by rw [e]; simp)
    show (if i = a' then a else prvL (a' :: P ++ [b] ++ [x]) i) = if i = x then b else if i = a' then a else prvL (a' :: P ++ [b]) i
    rw [ih]
    by_cases e : i = a'
    · subst e; simp [hax]
    · simp [e]
theorem lkV_next {l : Ls} {P : List Nat} {b x : Nat} (h : (P ++ [b] ++ [x]).Nodup) (hb : b < l.cs.length) (hx : x < l.cs.length) :
    lkV l (P ++ [b] ++ [x]) = ((lkV l (P ++ [b])).setC b { (lkV l (P ++ [b])).at_ b with right := (x : Int) }).setC x { ((lkV l (P ++ [b])).setC b { (lkV l (P ++ [b])).at_ b with right := (x : Int) }).at_ x with left := (b : Int) } := by
  have h1 : (P ++ [b]).Nodup := (List.nodup_append.1 h).1
  have hbx : b ≠ x := fun e => by
    have := (List.nodup_append.1 h).2.2 b (by simp) x (by simp)
    exact this e
  have hl : ∀ j, j < l.cs.length → (((lkV l (P ++ [b])).setC b { (lkV l (P ++ [b])).at_ b with right := (x : Int) }).setC x { ((lkV l (P ++ [b])).setC b { (lkV l (P ++ [b])).at_ b with right := (x : Int) }).at_ x with left := (b : Int) }).at_ j = (lkV l (P ++ [b] ++ [x])).at_ j := fun j hj => by
    rw [Ls.at_setC _ (by rw [Ls.len_setC, lkV_len]; exact hx), Ls.at_setC _ (by rw [lkV_len]; exact hb), Ls.at_setC _ (by rw [lkV_len]; exact hb), lkV_at l _ hj, lkV_at l _ hx, lkV_at l _ hb, lkV_at l _ hj, nxtL_snoc h1 j, prvL_snoc h j]
    by_cases e1 : j = x
    · subst e1
      have hjb : ¬ j = b := fun q => hbx q.symm
      simp [hjb]
    · by_cases e2 : j = b
      · subst e2; simp [e1]
      · simp [e1, e2]
  have e : (lkV l (P ++ [b] ++ [x])).cs = (((lkV l (P ++ [b])).setC b { (lkV l (P ++ [b])).at_ b with right := (x : Int) }).setC x { ((lkV l (P ++ [b])).setC b { (lkV l (P ++ [b])).at_ b with right := (x : Int) }).at_ x with left := (b : Int) }).cs := by
    refine List.ext_getElem (by rw [lkV_len, Ls.len_setC, Ls.len_setC, lkV_len]) fun j h1 h2 => ?_
    rw [lkV_len] at h1
    rw [Ls.at_lt, Ls.at_lt, hl j h1]
  show Ls.mk (lkV l (P ++ [b] ++ [x])).cs l.ps = Ls.mk _ _
  rw [e]
  rfl
end Lk
end
section
open Go.RowKit Go.Maps
namespace Lk

def zc (m : Nat) : Array Value := ((List.replicate m Po.zero).flatMap Po.row).toArray
theorem make_cells (W : World) : (Instr.makeSlice 25 (.int .i64 2) (.int .i64 2)).run Tryz.prog W = .ok (.slice (some ⟨W.heap.size, 0, none⟩) 2 2) (W.alloc (.cells #[.string ⟨#[]⟩, .int .i64 0, .int .i64 0, .int .i64 0, .bool false, .string ⟨#[]⟩, .int .i64 0, .int .i64 0, .int .i64 0, .bool false] 66)) := by kernel_rfl
theorem make_procs (W : World) (m : Nat) (hm : m ≤ 8) : (Instr.makeSlice 26 (.int .i64 (m : Int)) (.int .i64 (m : Int))).run Tryz.prog W = .ok (.slice (some ⟨W.heap.size, 0, none⟩) m m) (W.alloc (.cells (zc m) 63)) := by
  have h : m = 0 ∨ m = 1 ∨ m = 2 ∨ m = 3 ∨ m = 4 ∨ m = 5 ∨ m = 6 ∨ m = 7 ∨ m = 8 := by omega
  rcases h with rfl | rfl | rfl | rfl | rfl | rfl | rfl | rfl | rfl <;> (clear hm; show _ = _; kernel_rfl)
theorem procs_mut (W : World) (m : Nat) (hm : m ≤ 8) : MutR Po.row 7 63 (W.alloc (.cells (zc m) 63)) W.heap.size m (List.replicate m Po.zero) := by
  refine ⟨by simp, by unfold maxLen; omega, zc m, Has.new W _ _, ?_, fun i hi j u hu => ?_⟩
  · unfold zc
    rw [List.size_toArray, flat_size Po.row_len]
    simp
  · unfold zc
    rw [List.getElem?_toArray]
    have hj : j < 7 := by
      rw [← Po.row_len ((List.replicate m Po.zero)[i])]
      exact (List.getElem?_eq_some_iff.1 hu).1
    rw [flat_row Po.row_len _ i hi j hj]
    exact hu
/-- A list that New is making: its box, its cells, its processes. -/
structure NewS (base : Nat) (w : World) (X G2 m : Nat) (v1 : Value) (cs : List Ce) : Prop where
  own : OwnR Ce.row 5 66 w base v1 cs
  ps : MutR Po.row 7 63 w G2 m (List.replicate m Po.zero)
  x0 : w.cell? ⟨X, 0, none⟩ = some v1
  x1 : w.cell? ⟨X, 1, none⟩ = some (.slice (some ⟨G2, 0, none⟩) m m)
  fz : ∀ o, w.frozen? ⟨X, o, none⟩ = false
  ne1 : v1.ownBlock ≠ some X
  ne2 : v1.ownBlock ≠ some G2
  ne3 : X ≠ G2
  bX : base ≤ X
  bG : base ≤ G2
def z2 : Array Value := #[.string ⟨#[]⟩, .int .i64 0, .int .i64 0, .int .i64 0, .bool false, .string ⟨#[]⟩, .int .i64 0, .int .i64 0, .int .i64 0, .bool false]
theorem NewS.of {base : Nat} {w : World} {X G1 G2 m : Nat} (hm : m ≤ 8) (hX : Has w X 28 #[.slice (some ⟨G1, 0, none⟩) 2 2, .slice (some ⟨G2, 0, none⟩) m m]) (h1 : Has w G1 66 z2) (h2 : Has w G2 63 (zc m)) (n1 : X ≠ G1) (n2 : X ≠ G2) (n3 : G1 ≠ G2) (b1 : base ≤ X) (b2 : base ≤ G1) (b3 : base ≤ G2) : NewS base w X G2 m (.slice (some ⟨G1, 0, none⟩) 2 2) [Ce.zero, Ce.zero] := by
  have hp := procs_mut w m hm
  obtain ⟨q1, q2, cur, q3, q4, q5⟩ := hp
  have e : cur = zc m := by
    have h := (Has.new w 63 (zc m))
    unfold Has at q3 h
    rw [h] at q3
    injection q3 with q3
    injection q3 with q3
    exact q3.symm
  subst e
  refine ⟨⟨rfl, .inr ⟨G1, 2, _, rfl, b2, h1, Nat.le_refl _, by unfold maxLen; omega, rfl, rfl⟩⟩, ⟨q1, q2, _, h2, q4, q5⟩, hX.cell 0, hX.cell 1, hX.frozen, ?_, ?_, n2, b1, b3⟩
  · intro e
    exact n1 (Option.some.inj e).symm
  · intro e
    exact n3 (Option.some.inj e)
theorem three (w : World) (c1 c2 c3 : Array Value) (t1 t2 t3 : TypeId) : Has (((w.alloc (.cells c1 t1)).alloc (.cells c2 t2)).alloc (.cells c3 t3)).drew w.heap.size t1 c1 ∧ Has (((w.alloc (.cells c1 t1)).alloc (.cells c2 t2)).alloc (.cells c3 t3)).drew (w.heap.size + 1) t2 c2 ∧ Has (((w.alloc (.cells c1 t1)).alloc (.cells c2 t2)).alloc (.cells c3 t3)).drew (w.heap.size + 1 + 1) t3 c3 ∧ Below w.heap.size w (((w.alloc (.cells c1 t1)).alloc (.cells c2 t2)).alloc (.cells c3 t3)).drew := by
  have h1 := Has.new w t1 c1
  have h2 := Has.new (w.alloc (.cells c1 t1)) t2 c2
  have h3 := Has.new ((w.alloc (.cells c1 t1)).alloc (.cells c2 t2)) t3 c3
  have b2 := (Below.refl (w.alloc (.cells c1 t1)).heap.size _).alloc (Nat.le_refl _) (.cells c2 t2)
  have b3 := (Below.refl ((w.alloc (.cells c1 t1)).alloc (.cells c2 t2)).heap.size _).alloc (Nat.le_refl _) (.cells c3 t3)
  have b1 := (Below.refl w.heap.size w).alloc (Nat.le_refl _) (.cells c1 t1)
  rw [World.size_alloc] at h2
  rw [World.size_alloc, World.size_alloc] at h3
  exact ⟨(h1.below b2).below b3.drew, h2.below b3.drew, h3, ((b1.trans (b2.mono b1.size)).trans (b3.mono (Nat.le_trans b1.size b2.size))).drew⟩
section
variable {base : Nat} {w w' : World} {X G2 m : Nat} {v1 : Value} {cs : List Ce}
theorem NewS.below (h : NewS base w X G2 m v1 cs) (k : Below w.heap.size w w') : NewS base w' X G2 m v1 cs := by
  have hX : X < w.heap.size := World.block_lt_of_cell? w _ h.x0
  exact ⟨h.own.below k, h.ps.below k, (k.cell (p := ⟨X, 0, none⟩) hX).trans h.x0, (k.cell (p := ⟨X, 1, none⟩) hX).trans h.x1, fun o => (k.frozen (p := ⟨X, o, none⟩) hX).trans (h.fz o), h.ne1, h.ne2, h.ne3, h.bX, h.bG⟩
/-- Its cells have been appended to, its box is set. -/
theorem NewS.put (h : NewS base w X G2 m v1 cs) {v' : Value} {cs' : List Ce} (ho : OwnR Ce.row 5 66 w' base v' cs') (hg : w.grownBy w' v1.ownBlock) (hat : v'.ownBlock = v1.ownBlock ∨ ∃ q, w.heap.size ≤ q ∧ v'.ownBlock = some q) : NewS base (w'.setCell ⟨X, 0, none⟩ v') X G2 m v' cs' := by
  have hX : X < w.heap.size := World.block_lt_of_cell? w _ h.x0
  have hG := h.ps.lt
  have n1 : v'.ownBlock ≠ some X := by
    rcases hat with e | ⟨q, h1, e⟩
    · rw [e]; exact h.ne1
    · rw [e]; intro e2; have := Option.some.inj e2; omega
  have n2 : v'.ownBlock ≠ some G2 := by
    rcases hat with e | ⟨q, h1, e⟩
    · rw [e]; exact h.ne2
    · rw [e]; intro e2; have := Option.some.inj e2; omega
  have hbX : w'.heap[X]? = w.heap[X]? := hg.block X hX (fun e => h.ne1 e.symm)
  have hbG : w'.heap[G2]? = w.heap[G2]? := hg.block G2 hG (fun e => h.ne2 e.symm)
  have c0 := (World.cell?_of_block (a := ⟨X, 0, none⟩) hbX).trans h.x0
  have c1 := (World.cell?_of_block (a := ⟨X, 1, none⟩) hbX).trans h.x1
  refine ⟨ho.blk fun i h1 h2 h3 => Below.heap_setCell _ _ _ _ (fun e => n1 (by rw [h3, e])), (h.ps.keep hbG).far (p := ⟨X, 0, none⟩) h.ne3 _, ?_, ?_, fun o => ?_, n1, n2, h.ne3, h.bX, h.bG⟩
  · simp [go_sem, c0]
  · simp [go_sem, c1]
  · rw [World.frozen?_setCell]
    exact (World.frozen?_of_block (w := w) hbX).trans (h.fz o)
end
theorem row_right (x : Ce) (v : Int) : ({ x with right := v } : Ce).row = x.row.set 2 (.int .i64 v) := rfl
theorem row_left (x : Ce) (v : Int) : ({ x with left := v } : Ce).row = x.row.set 1 (.int .i64 v) := rfl
end Lk
end
section
open Go.RowKit Go.Maps
namespace Lk
set_option maxRecDepth 100000 in
set_option maxHeartbeats 6400000 in
theorem new_any (A1 A2 : Option Addr) (ks : List ByteArray) (is : List Bool) (kn bn c1 c2 : Nat) (m : Int) (w : World) (hk : ks.length = kn) (hi : is.length = bn) (h1 : RdR trow 1 w 0 A1 ks) (h2 : RdR brow 1 w 0 A2 is) (hk2 : kn ≤ 9223372036854775807) (hb2 : bn ≤ 9223372036854775807) :
    Calls Tryz.prog 46 #[.slice A1 kn c1, .slice A2 bn c2, .int .i64 m] w (NewP ks is m kn w) := by
  have hb := (Below.refl w.heap.size w).alloc (Nat.le_refl _) (.cells #[.slice none 0 0, .slice none 0 0] 28)
  have hy := Has.new w 28 #[.slice none 0 0, .slice none 0 0]
  have HB := Lib.hid hb
  have HY := Lib.hid hy
  have HK := Lib.hid hk
  have HI := Lib.hid hi
  have HR1 := Lib.hid (RdR.below h1 hb)
  have HR2 := Lib.hid (RdR.below h2 hb)
  have hsz : (w.alloc (.cells #[.slice none 0 0, .slice none 0 0] 28)).heap.size = w.heap.size + 1 := World.size_alloc _ _
  clear hb hy hk hi h1 h2
  go_enter Tryz.func46, Tryz.ntmps46
  go_upto_region 1 with fail
  generalize w.alloc (.cells #[.slice none 0 0, .slice none 0 0] 28) = W at *
  obtain ⟨B, hB⟩ : ∃ B, B = w.heap.size := ⟨_, rfl⟩
  have HBB := Lib.hid hB
  rw [← hB] at HB HY hsz ⊢
  clear hB
  have y0 := HY.out.cell 0
  have y1 := HY.out.cell 1
  have z0 := HY.out.frozen 0
  have z1 := HY.out.frozen 1
  by_cases q1 : kn > 64
  · have q1i : ((kn : Int) > 64) := by omega
    have HEQ : Hid (newE ks is m = 3) := Lib.hid (by unfold newE; rw [if_pos (by rw [HK.out]; exact q1)])
    have HNE : Hid (newE ks is m ≠ 0) := Lib.hid (by rw [HEQ.out]; decide)
    go_wp2_with fail
    (try simp only [Exit.inBlock, Exit.then])
    have h2 := twice0 W B (.slice none 0 0) (.slice none 0 0) _ _ y0 y1
    refine bodyPost_ret (results_list1 rfl _ _ B rfl h2.1 h2.2) rfl (.inl ⟨HNE.out, ?_, ?_⟩)
    · rw [HEQ.out]; rfl
    · rw [← HBB.out]
      exact (HB.out.setCell (p := ⟨B, 0, none⟩) (by simp only; omega) _).setCell (p := ⟨B, 1, none⟩) (by simp only; omega) _
  · have q1i : ¬ ((kn : Int) > 64) := by omega
    have q1n : Hid (¬ ks.length > 64) := Lib.hid (by rw [HK.out]; exact q1)
    by_cases q2 : 1 ≤ m ∧ m ≤ 8
    · have HP := Lib.hid ((isProcCount_any m W).mono fun e w' h => h.yes q2)
      by_cases q3 : kn = bn
      · subst q3
        have HLE : Hid (ks.length = is.length) := Lib.hid (by rw [HK.out, HI.out])
        by_cases q4 : ∀ k ∈ ks, vk k = true
        · have HV := Lib.hid ((validKeys_any A1 ks kn c1 0 W HK.out HR1.out (by unfold maxLen; omega)).mono fun e w' h => h.yes q4)
          have HDF := Lib.hid (different_any A1 ks kn c1 W HK.out (HR1.out) (by omega) q4)
          by_cases q5 : ks.Nodup
          · have HD := Lib.hid (HDF.out.mono fun e w' h => h.yes q5)
            obtain ⟨mm, rfl, hmm⟩ : ∃ mm : Nat, m = (mm : Int) ∧ mm ≤ 8 := ⟨m.toNat, by omega, by omega⟩
            have hm1 : 1 ≤ mm := by omega
            have HEQ0 : Hid (newE ks is (mm : Int) = 0) := Lib.hid (by unfold newE; rw [if_neg q1n.out, if_neg (fun q => q q2), if_neg (fun q => q.elim (fun q => q HLE.out) (fun q => q q4)), if_neg (fun q => q q5)])
            have HOK : Hid (NwOk ks mm) := Lib.hid ⟨by have := HK.out; omega, hm1, hmm, q4, q5⟩
            clear q2 q4 q5 HDF
            go_wp2_with (first | (go_at_call 88; with_reducible refine (HP.out).mono ?_; rintro e w' ⟨rfl, rfl⟩) | (go_at_call 89; with_reducible refine (HV.out).mono ?_; rintro e w' ⟨rfl, rfl⟩) | (go_at_call 90; with_reducible refine (HD.out).mono ?_; rintro e w2 ⟨rfl, hb2⟩))
            have m0 : (0 : Int) ≤ (mm : Int) := by omega
            have m9 : (mm : Int) ≤ 8 := by omega
            have HB2 := Lib.hid (HB.out.trans (hb2.mono (by omega)))
            have HY2 := Lib.hid (HY.out.below hb2)
            have HR12 := Lib.hid (RdR.below HR1.out hb2)
            have HR22 := Lib.hid (RdR.below HR2.out hb2)
            have hs2 : B + 1 ≤ w2.heap.size := by have := hb2.size; omega
            clear hb2 y0 y1 z0 z1 HB HY HR1 HR2 HV HD HP
            have hmc := make_cells
            have hmp := fun W => make_procs W mm hmm
            go_cut [8] (fun s wx => ∃ X G1 G2 : Nat, s = .pointer (some ⟨X, 0, none⟩) ∧ NewS w2.heap.size wx X G2 mm (.slice (some ⟨G1, 0, none⟩) 2 2) [Ce.zero, Ce.zero] ∧ Below w2.heap.size w2 wx)
            case first =>
              go_region
              all_goals (go_wp2_with fail; go_meet)
              all_goals first | exact ⟨_, _, _, rfl, NewS.of hmm (three _ _ _ _ _ _ _).1 (three _ _ _ _ _ _ _).2.1 (three _ _ _ _ _ _ _).2.2.1 (by omega) (by omega) (by omega) (by omega) (by omega) (by omega), (three _ _ _ _ _ _ _).2.2.2⟩ | exact ⟨_, _, _, rfl, NewS.of hmm (three _ _ _ _ _ _ _).1 (three _ _ _ _ _ _ _).2.2.1 (three _ _ _ _ _ _ _).2.1 (by omega) (by omega) (by omega) (by omega) (by omega) (by omega), (three _ _ _ _ _ _ _).2.2.2⟩ | exact ⟨_, _, _, rfl, NewS.of hmm (three _ _ _ _ _ _ _).2.1 (three _ _ _ _ _ _ _).1 (three _ _ _ _ _ _ _).2.2.1 (by omega) (by omega) (by omega) (by omega) (by omega) (by omega), (three _ _ _ _ _ _ _).2.2.2⟩ | exact ⟨_, _, _, rfl, NewS.of hmm (three _ _ _ _ _ _ _).2.1 (three _ _ _ _ _ _ _).2.2.1 (three _ _ _ _ _ _ _).1 (by omega) (by omega) (by omega) (by omega) (by omega) (by omega), (three _ _ _ _ _ _ _).2.2.2⟩ | exact ⟨_, _, _, rfl, NewS.of hmm (three _ _ _ _ _ _ _).2.2.1 (three _ _ _ _ _ _ _).1 (three _ _ _ _ _ _ _).2.1 (by omega) (by omega) (by omega) (by omega) (by omega) (by omega), (three _ _ _ _ _ _ _).2.2.2⟩ | exact ⟨_, _, _, rfl, NewS.of hmm (three _ _ _ _ _ _ _).2.2.1 (three _ _ _ _ _ _ _).2.1 (three _ _ _ _ _ _ _).1 (by omega) (by omega) (by omega) (by omega) (by omega) (by omega), (three _ _ _ _ _ _ _).2.2.2⟩
            case rest =>
            obtain ⟨X, G1, G2, rfl, hN, hbc⟩ := hcut
            clear hmc hmp
            go_wp2_with fail
            go_loopw [47] (fun vi wr => ∃ (i : Nat) (v1 : Value), vi = .int .i64 (i : Int) ∧ i ≤ kn ∧ NewS w2.heap.size wr X G2 mm v1 (nwC ks is i) ∧ Below w2.heap.size w2 wr) (fun vi _ => kn - (intOf vi).toNat)
            case atStart => exact ⟨0, _, rfl, Nat.zero_le _, hN, hbc⟩
            case round =>
              obtain ⟨i, v1, rfl, hi, hN1, hB1⟩ := hrel
              clear hN hbc
              have hsz1 := hB1.size
              obtain ⟨A3, q3, hv3⟩ := hN1.own.shape
              have hln := nwC_len ks is i
              rw [hln] at hv3
              subst hv3
              have x0 := hN1.x0
              have x1 := hN1.x1
              have f0 := hN1.fz
              have HN1 := Lib.hid hN1
              have HB1 := Lib.hid hB1
              by_cases hlt : i < kn
              · obtain ⟨b1, o1, e1, -, hb1, t1⟩ := text_at (RdR.below HR12.out hB1) (i := i) (by rw [HK.out]; exact hlt)
                obtain ⟨b2, o2, e2, -, hb2, t2⟩ := bool_at (RdR.below HR22.out hB1) (i := i) (by rw [← HLE.out, HK.out]; exact hlt)
                obtain ⟨xk, hxk⟩ : ∃ xk, ks[i]'(by rw [HK.out]; exact hlt) = xk := ⟨_, rfl⟩
                obtain ⟨xb, hxb⟩ : ∃ xb, is[i]'(by rw [← HLE.out, HK.out]; exact hlt) = xb := ⟨_, rfl⟩
                have HNX : Hid (nwC ks is (i + 1) = nwC ks is i ++ [⟨xk, 0, 0, 0, !xb⟩]) := Lib.hid (by
                  rw [nwC_next, ← hxk, ← hxb, List.getD_eq_getElem?_getD, List.getElem?_eq_getElem (by rw [HK.out]; exact hlt), List.getD_eq_getElem?_getD, List.getElem?_eq_getElem (by rw [← HLE.out, HK.out]; exact hlt)]
                  rfl)
                rw [hxk] at t1
                rw [hxb] at t2
                subst e1 e2
                have i0 : (0 : Int) ≤ (i : Int) := by omega
                have i1 : (i : Int) < (kn : Int) := by omega
                have HLN := Lib.hid hln
                clear hxk hxb hN1 hB1 hln
                have hbn := (Below.refl wr.heap.size wr).alloc (Nat.le_refl _) (.cells #[.string xk, .int .i64 0, .int .i64 0, .int .i64 0, .bool (!xb)] 66)
                have HND := Lib.hid (HN1.out.below hbn.drew)
                have y0 := (hbn.cell (p := ⟨X, 0, none⟩) (World.block_lt_of_cell? wr _ x0)).trans x0
                have u1 := (hbn.cell (p := ⟨b1, o1 + i, none⟩) hb1).trans t1
                have u2 := (hbn.cell (p := ⟨b2, o2 + i, none⟩) hb2).trans t2
                have HNW := Lib.hid (RdR.keep (w' := (wr.alloc (.cells #[.string xk, .int .i64 0, .int .i64 0, .int .i64 0, .bool (!xb)] 66)).drew) (RdR.new (enc := Ce.row) (e := 66) Ce.row_len wr ⟨xk, 0, 0, 0, !xb⟩ _ rfl) (Nat.le_refl _) (fun _ _ _ => rfl))
                have hszd : (wr.alloc (.cells #[.string xk, .int .i64 0, .int .i64 0, .int .i64 0, .bool (!xb)] 66)).drew.heap.size = wr.heap.size + 1 := World.size_alloc _ _
                have HB2 := Lib.hid (HB1.out.trans (hbn.drew.mono hsz1))
                clear hbn
                go_upto_region 13 with fail
                go_region_law (refine step_pushR RowT.ce (o := ⟨some 62, _, _, _, _, _⟩) rfl (.tmp 53) (.tmp 61) rfl w2.heap.size (.slice A3 (i + 2) q3) (nwC ks is i) (wr.alloc (.cells #[.string xk, .int .i64 0, .int .i64 0, .int .i64 0, .bool (!xb)] 66)).drew _ 1 _ ⟨xk, 0, 0, 0, !xb⟩ (by simp [Act.eval]) HND.out.own (by simp [Act.eval]) HNW.out (by have := HLN.out; omega) (by omega) ?_; intro v5 w5 ho5 hg5 hat5; obtain ⟨A5, n5, q5, hv5⟩ := own_sh ho5; subst hv5; have HP5 := Lib.hid (HND.out.put ho5 hg5 (hat5.imp id fun q => ⟨_, Nat.le_refl _, q⟩)); have HG5 := Lib.hid (HB2.out.trans (grown_below hg5 (by omega) (fun j e => (HND.out.own.lt j e).1))); have z5 := (World.cell?_of_block (hg5.block X (World.block_lt_of_cell? _ _ HND.out.x0) (fun e => HND.out.ne1 e.symm))).trans y0; have f5 := (World.frozen?_of_block (a := ⟨X, 0, none⟩) (hg5.block X (World.block_lt_of_cell? _ _ HND.out.x0) (fun e => HND.out.ne1 e.symm))).trans (HND.out.fz 0); clear ho5 hg5 hat5)
                all_goals go_wp2_with fail
                all_goals refine ⟨⟨i + 1, _, by go_num, hlt, by rw [HNX.out]; exact HP5.out, HG5.out.setCell (p := ⟨X, 0, none⟩) HN1.out.bX _⟩, by simp [intOf]; omega⟩
              · obtain rfl : i = kn := by omega
                clear hlt
                have HCE : Hid (nwC ks is i = (nw0 ks is mm).cs) := Lib.hid (by rw [← HK.out]; rfl)
                obtain ⟨G3, q4, hv4, hbG, hmu⟩ := HN1.out.own.mut Ce.row_len (by unfold nwC; exact List.cons_ne_nil _ _)
                rw [hln] at hv4
                injection hv4 with hv4 hv5 hv6
                subst hv4 hv6
                rw [HCE.out] at hmu
                have HXG : Hid (X ≠ G3) := Lib.hid (fun e => HN1.out.ne1 (by rw [← e]; rfl))
                have HX1 := Lib.hid HN1.out.ne3
                have HXB := Lib.hid HN1.out.bX
                have HX7 := Lib.hid (World.block_lt_of_cell? wr _ x0)
                have HM0 := Lib.hid (MemL.mk (l := nw0 ks is mm) hmu HN1.out.ps (fun e => HN1.out.ne2 (by rw [← e]; rfl)) hbG HN1.out.bG)
                have HMB := Lib.hid (members_any (some ⟨G3, 0, none⟩) (some ⟨G2, 0, none⟩) (nw0 ks is mm) (i + 2) mm q3 mm wr (by rw [nw0_len, HK.out]) (by simp [nw0]) (HM0.out.rd.low (Nat.zero_le _)) (nw0_vld HOK.out))
                have HML : Hid ((memV (nw0 ks is mm)).length ≤ 100) := Lib.hid (by have h1 := (nw0_vld (is := is) HOK.out).n66; unfold memV memI; rw [List.length_mergeSort]; refine Nat.le_trans (List.length_filter_le _ _) ?_; rw [List.length_range]; omega)
                clear hmu hbG hN1 hln HN1
                go_wp2_with (first | (go_at_call 59; (with_reducible refine (HMB.out).mono ?_); rintro e w5 ⟨A6, k6, c6, rfl, hk6, hkc6, ho6, hr6, hb6⟩; have HO6 := Lib.hid ho6; have HB6 := Lib.hid hb6; have HK6 := Lib.hid hk6; have hs6 := hb6.size; clear ho6 hr6 hb6 hk6) | (at_builtin; refine wpList_pushR RowT.nu rfl (.tmp 66) (.tmp 67) rfl wr.heap.size (.slice A6 k6 c6) (nat2 (memV (nw0 ks is mm))) w5 (1 : Int) _ rfl (by simp [Act.eval]) HO6.out (by simp [Act.eval]) (by have := HML.out; rw [nat2_len]; omega) hs6 ?_; intro v7 w7 ho7 hg7 hat7; obtain ⟨A7, q7, hv7, _, _, hr7⟩ := ho7.read (fun _ => rfl); have hl7 : (nat2 (memV (nw0 ks is mm)) ++ [(1 : Int)]).length = (memV (nw0 ks is mm)).length + 1 := (by rw [List.length_append, nat2_len]; rfl); rw [hl7] at hv7; obtain ⟨q8, hq8⟩ : ∃ q8, q8 = (memV (nw0 ks is mm)).length + 1 := ⟨_, rfl⟩; rw [← hq8] at hv7; have HQ8 := Lib.hid hq8; clear hq8; subst hv7; have HO7 := Lib.hid hr7; have HB7 := Lib.hid (HB6.out.trans (grown_below hg7 hs6 (fun j e => (HO6.out.lt j e).1))); clear ho7 hg7 hat7 hl7 hr7))
                obtain ⟨L, hL⟩ : ∃ L, L = memV (nw0 ks is mm) ++ [1] := ⟨_, rfl⟩
                have HLD : Hid (0 :: L = ordV ks mm (selV is)) := Lib.hid (by rw [hL, nw0_mem]; rfl)
                have HLL : Hid (L.length = q8) := Lib.hid (by rw [hL, HQ8.out, List.length_append]; rfl)
                have hq9 : q8 ≤ 101 := by have h1 := HQ8.out; have h2 := HML.out; omega
                have HL7 : Hid (RdR nrow 1 w7 wr.heap.size A7 (nat2 L)) := Lib.hid (by rw [hL, show nat2 (memV (nw0 ks is mm) ++ [1]) = nat2 (memV (nw0 ks is mm)) ++ [(1 : Int)] by simp [nat2]]; exact HO7.out)
                have HND : Hid ((0 :: L).Nodup) := Lib.hid (by rw [HLD.out]; exact (ord_asc HOK.out (selV is)).imp (fun h e => by rw [e] at h; exact Nat.lt_irrefl _ h))
                have HLT : Hid (∀ j ∈ (0 :: L), j < i + 2) := Lib.hid (fun j hj => by rw [HLD.out, mem_ord] at hj; have := HK.out; omega)
                have HM7 := Lib.hid (HM0.out.below HB7.out)
                have HC7 := Lib.hid (HB1.out.trans (HB7.out.mono hsz1))
                have HXS := Lib.hid (Nat.lt_of_lt_of_le HX7.out HB7.out.size)
                have hX0 := (HB7.out.cell (p := ⟨X, 0, none⟩) HX7.out).trans x0
                have hX1 := (HB7.out.cell (p := ⟨X, 1, none⟩) HX7.out).trans x1
                have HGL := Lib.hid (HM0.out.cs.lt)
                have HX0 := Lib.hid hX0
                have HX1 := Lib.hid hX1
                clear hL x0 x1 f0 hs6 HO7 HO6 HB6 HMB HK6 hX0 hX1
                go_loopw [11, 70] (fun vb vi wq => ∃ k b : Nat, vb = .int .i64 (b : Int) ∧ vi = .int .i64 (k : Int) ∧ k ≤ q8 ∧ Hid (∃ P, 0 :: L.take k = P ++ [b]) ∧ MemL wq w2.heap.size G3 G2 q3 mm (lkV (nw0 ks is mm) (0 :: L.take k)) ∧ Hid (∀ j, j ≠ G3 → wq.heap[j]? = w7.heap[j]?) ∧ w7.heap.size ≤ wq.heap.size ∧ Below w2.heap.size w2 wq) (fun _ vi _ => q8 - (intOf vi).toNat)
                case atStart => exact ⟨0, 0, rfl, rfl, Nat.zero_le _, Lib.hid ⟨[], rfl⟩, by show MemL _ _ _ _ _ _ (lkV _ [0]); rw [lkV_zero]; exact HM7.out, Lib.hid (fun _ _ => rfl), Nat.le_refl _, HC7.out⟩
                case round =>
                  obtain ⟨k, b, rfl, rfl, hk, HP, hm, HU, hsq, hbq⟩ := hrel
                  have x0 := (World.cell?_of_block (a := ⟨X, 0, none⟩) (HU.out X HXG.out)).trans HX0.out
                  have x1 := (World.cell?_of_block (a := ⟨X, 1, none⟩) (HU.out X HXG.out)).trans HX1.out
                  have hf := hm.fz.1
                  have HM := Lib.hid hm
                  have HBQ := Lib.hid hbq
                  by_cases hlt : k < q8
                  · have hkL : k < L.length := by rw [HLL.out]; exact hlt
                    obtain ⟨x, hx⟩ : ∃ x, L[k]'hkL = x := ⟨_, rfl⟩
                    obtain ⟨b7, o7, e7, hb7, hb8, t7⟩ := num_at HL7.out (i := k) (by rw [nat2_len]; exact hkL)
                    subst e7
                    have hnx : (nat2 L)[k]'(by rw [nat2_len]; exact hkL) = (x : Int) := by rw [← hx]; simp [nat2]
                    rw [hnx] at t7
                    have u7 := (World.cell?_of_block (a := ⟨b7, o7 + k, none⟩) (HU.out b7 (by have := HGL.out; omega))).trans t7
                    have hxm : x ∈ 0 :: L := by rw [← hx]; exact List.mem_cons_of_mem _ (List.getElem_mem _)
                    have hx2 : x < i + 2 := HLT.out x hxm
                    have HTK : Hid (0 :: L.take (k + 1) = (0 :: L.take k) ++ [x]) := Lib.hid (by rw [← hx, List.take_succ_eq_append_getElem hkL]; rfl)
                    have hb2 : b < i + 2 := by
                      obtain ⟨P, hP⟩ := HP.out
                      refine HLT.out b ?_
                      have : b ∈ 0 :: L.take k := by rw [hP]; simp
                      rcases List.mem_cons.1 this with q | q
                      · rw [q]; exact List.mem_cons_self
                      · exact List.mem_cons_of_mem _ (List.mem_of_mem_take q)
                    have hbx : b ≠ x := by
                      obtain ⟨P, hP⟩ := HP.out
                      have h1 : (0 :: L.take (k + 1)).Nodup := by
                        have : (0 :: L.take (k + 1)) = (0 :: L).take (k + 1 + 1) := rfl
                        rw [this]
                        exact List.Nodup.sublist (List.take_sublist _ _) HND.out
                      rw [HTK.out, hP] at h1
                      exact fun e => (List.nodup_append.1 h1).2.2 b (by simp) x (by simp) e
                    have hlb : b < (lkV (nw0 ks is mm) (0 :: L.take k)).cs.length := by rw [lkV_len, nw0_len, HK.out]; exact hb2
                    have hlx : x < (lkV (nw0 ks is mm) (0 :: L.take k)).cs.length := by rw [lkV_len, nw0_len, HK.out]; exact hx2
                    obtain ⟨-, -, g2, -, -⟩ := hm.cell hlb
                    obtain ⟨-, g1, -, -, -⟩ := hm.cell hlx
                    have k0 : (0 : Int) ≤ (k : Int) := by omega
                    have k1 : (k : Int) < (q8 : Int) := by omega
                    have bb0 : (0 : Int) ≤ (b : Int) := by omega
                    have bb1 : (b : Int) < ((i + 2 : Nat) : Int) := by omega
                    have xx0 : (0 : Int) ≤ (x : Int) := by omega
                    have xx1 : (x : Int) < ((i + 2 : Nat) : Int) := by omega
                    have hne : ¬ (b * 5 + 2 = x * 5 + 1) := by omega
                    have hne2 : ¬ (x * 5 + 1 = b * 5 + 2) := by omega
                    have HMX := Lib.hid ((hm.setC hlb 2 (by decide) (.int .i64 (x : Int)) { (lkV (nw0 ks is mm) (0 :: L.take k)).at_ b with right := (x : Int) } (row_right _ _)))
                    have HLX := Lib.hid hlx
                    have HNM : Hid (lkV (nw0 ks is mm) (0 :: L.take (k + 1)) = ((lkV (nw0 ks is mm) (0 :: L.take k)).setC b { (lkV (nw0 ks is mm) (0 :: L.take k)).at_ b with right := (x : Int) }).setC x { ((lkV (nw0 ks is mm) (0 :: L.take k)).setC b { (lkV (nw0 ks is mm) (0 :: L.take k)).at_ b with right := (x : Int) }).at_ x with left := (b : Int) }) := Lib.hid (by
                      obtain ⟨P, hP⟩ := HP.out
                      rw [HTK.out, hP]
                      refine lkV_next ?_ (by rw [nw0_len, HK.out]; exact hb2) (by rw [nw0_len, HK.out]; exact hx2)
                      have : (0 :: L.take (k + 1)) = (0 :: L).take (k + 1 + 1) := rfl
                      rw [← hP, ← HTK.out, this]
                      exact List.Nodup.sublist (List.take_sublist _ _) HND.out)
                    clear hm hbq hx hnx hxm t7 hbx hkL
                    go_upto_region 19 with fail
                    go_region
                    have HMZ := (HMX.out.setC (i := x) (by rw [Ls.len_setC]; exact HLX.out) 1 (by decide) (.int .i64 (b : Int)) { ((lkV (nw0 ks is mm) (0 :: L.take k)).setC b { (lkV (nw0 ks is mm) (0 :: L.take k)).at_ b with right := (x : Int) }).at_ x with left := (b : Int) } (row_left _ _)).drew
                    rw [← HNM.out] at HMZ
                    have HMZ := Lib.hid HMZ
                    have HBZ := Lib.hid (((HBQ.out.setCell (p := ⟨G3, b * 5 + 2, none⟩) HMX.out.b1 (.int .i64 (x : Int))).setCell (p := ⟨G3, x * 5 + 1, none⟩) HMX.out.b1 (.int .i64 (b : Int))).drew)
                    go_wp2_with fail
                    exact ⟨⟨k + 1, x, rfl, by go_num, hlt, Lib.hid ⟨_, HTK.out⟩, HMZ.out, Lib.hid (fun j hj => by
                      show (((wr.setCell ⟨G3, b * 5 + 2, none⟩ _).setCell ⟨G3, x * 5 + 1, none⟩ _)).heap[j]? = _
                      rw [Below.heap_setCell _ _ _ _ hj, Below.heap_setCell _ _ _ _ hj]
                      exact HU.out j hj), by simpa using hsq, HBZ.out⟩, by simp [intOf]; omega⟩
                  · obtain rfl : k = q8 := by omega
                    have hyq := HY2.out.below HBQ.out
                    have y0 := hyq.cell 0
                    have y1 := hyq.cell 1
                    have z0 := hyq.frozen 0
                    have z1 := hyq.frozen 1
                    have HFN : Hid (MemL wr w2.heap.size G3 G2 q3 mm (newV ks mm (selV is))) := Lib.hid (by
                      have := HM.out
                      rw [← HLL.out, List.take_length, HLD.out, lkV_new] at this
                      exact this)
                    clear hyq hm hbq
                    go_wp2_with fail
                    have h2 := twice0 wr B (.slice (some ⟨G3, 0, none⟩) (i + 2) q3) (.slice (some ⟨G2, 0, none⟩) mm mm) _ _ y0 y1
                    have hbw := ((HB2.out.trans (HBQ.out.mono (by omega))).setCell (p := ⟨B, 0, none⟩) (by simp only; omega) (.slice (some ⟨G3, 0, none⟩) (i + 2) q3)).setCell (p := ⟨B, 1, none⟩) (by simp only; omega) (.slice (some ⟨G2, 0, none⟩) mm mm)
                    refine bodyPost_ret (results_list1 rfl _ _ B rfl h2.1 h2.2) rfl (.inr ⟨HEQ0.out, G3, G2, _, _, rfl, ?_, ?_⟩)
                    · refine RdL.low (RdL.keep HFN.out.rd (by simp) (fun j h1 _ => ?_)) (by have := HBB.out; omega)
                      rw [Below.heap_setCell _ _ _ _ (by simp only; omega), Below.heap_setCell _ _ _ _ (by simp only; omega)]
                    · rw [← HBB.out]
                      exact hbw
          · have HD := Lib.hid (HDF.out.mono fun e w' h => h.no q5)
            have HBW := Lib.hid (fun V (q : Below W.heap.size W V) => HY.out.below q)
            have HEQ : Hid (newE ks is m = 5) := Lib.hid (by unfold newE; rw [if_neg q1n.out, if_neg (fun q => q q2), if_neg (fun q => q.elim (fun q => q HLE.out) (fun q => q q4)), if_pos q5])
            have HNE : Hid (newE ks is m ≠ 0) := Lib.hid (by rw [HEQ.out]; decide)
            go_wp2_with (first | (go_at_call 88; with_reducible refine (HP.out).mono ?_; rintro e w' ⟨rfl, rfl⟩) | (go_at_call 89; with_reducible refine (HV.out).mono ?_; rintro e w' ⟨rfl, rfl⟩) | (go_at_call 90; with_reducible refine (HD.out).mono ?_; rintro e w2 ⟨rfl, hb2⟩; have y0 := (HBW.out w2 hb2).cell 0; have y1 := (HBW.out w2 hb2).cell 1; have z0 := (HBW.out w2 hb2).frozen 0; have z1 := (HBW.out w2 hb2).frozen 1; have HB := Lib.hid (HB.out.trans (hb2.mono (by omega)))))
            (try simp only [Exit.inBlock, Exit.then])
            have h2 := twice0 w2 B (.slice none 0 0) (.slice none 0 0) _ _ y0 y1
            refine bodyPost_ret (results_list1 rfl _ _ B rfl h2.1 h2.2) rfl (.inl ⟨HNE.out, ?_, ?_⟩)
            · rw [HEQ.out]; rfl
            · rw [← HBB.out]
              exact (HB.out.setCell (p := ⟨B, 0, none⟩) (by simp only; omega) _).setCell (p := ⟨B, 1, none⟩) (by simp only; omega) _
        · have HV := Lib.hid ((validKeys_any A1 ks kn c1 0 W HK.out HR1.out (by unfold maxLen; omega)).mono fun e w' h => h.no q4)
          have HEQ : Hid (newE ks is m = 1) := Lib.hid (by unfold newE; rw [if_neg q1n.out, if_neg (fun q => q q2), if_pos (.inr q4)])
          have HNE : Hid (newE ks is m ≠ 0) := Lib.hid (by rw [HEQ.out]; decide)
          go_wp2_with (first | (go_at_call 88; with_reducible refine (HP.out).mono ?_; rintro e w' ⟨rfl, rfl⟩) | (go_at_call 89; with_reducible refine (HV.out).mono ?_; rintro e w' ⟨rfl, rfl⟩))
          (try simp only [Exit.inBlock, Exit.then])
          have h2 := twice0 W B (.slice none 0 0) (.slice none 0 0) _ _ y0 y1
          refine bodyPost_ret (results_list1 rfl _ _ B rfl h2.1 h2.2) rfl (.inl ⟨HNE.out, ?_, ?_⟩)
          · rw [HEQ.out]; rfl
          · rw [← HBB.out]
            exact (HB.out.setCell (p := ⟨B, 0, none⟩) (by simp only; omega) _).setCell (p := ⟨B, 1, none⟩) (by simp only; omega) _
      · have q3i : ((kn : Int) != (bn : Int)) = true := by simp; omega
        have q3j : ¬ ((kn : Int) = (bn : Int)) := by omega
        have HEQ : Hid (newE ks is m = 1) := Lib.hid (by unfold newE; rw [if_neg q1n.out, if_neg (fun q => q q2), if_pos (.inl (by rw [HK.out, HI.out]; exact q3))])
        have HNE : Hid (newE ks is m ≠ 0) := Lib.hid (by rw [HEQ.out]; decide)
        go_wp2_with (first | (go_at_call 88; with_reducible refine (HP.out).mono ?_; rintro e w' ⟨rfl, rfl⟩))
        (try simp only [Exit.inBlock, Exit.then])
        have h2 := twice0 W B (.slice none 0 0) (.slice none 0 0) _ _ y0 y1
        refine bodyPost_ret (results_list1 rfl _ _ B rfl h2.1 h2.2) rfl (.inl ⟨HNE.out, ?_, ?_⟩)
        · rw [HEQ.out]; rfl
        · rw [← HBB.out]
          exact (HB.out.setCell (p := ⟨B, 0, none⟩) (by simp only; omega) _).setCell (p := ⟨B, 1, none⟩) (by simp only; omega) _
    · have HP := Lib.hid ((isProcCount_any m W).mono fun e w' h => h.no q2)
      have HEQ : Hid (newE ks is m = 2) := Lib.hid (by unfold newE; rw [if_neg q1n.out, if_pos q2])
      have HNE : Hid (newE ks is m ≠ 0) := Lib.hid (by rw [HEQ.out]; decide)
      go_wp2_with (first | (go_at_call 88; with_reducible refine (HP.out).mono ?_; rintro e w' ⟨rfl, rfl⟩))
      (try simp only [Exit.inBlock, Exit.then])
      have h2 := twice0 W B (.slice none 0 0) (.slice none 0 0) _ _ y0 y1
      refine bodyPost_ret (results_list1 rfl _ _ B rfl h2.1 h2.2) rfl (.inl ⟨HNE.out, ?_, ?_⟩)
      · rw [HEQ.out]; rfl
      · rw [← HBB.out]
        exact (HB.out.setCell (p := ⟨B, 0, none⟩) (by simp only; omega) _).setCell (p := ⟨B, 1, none⟩) (by simp only; omega) _
end Lk
end
end Go.Proofs.YtmhbloefmknikaaGreatDoor
