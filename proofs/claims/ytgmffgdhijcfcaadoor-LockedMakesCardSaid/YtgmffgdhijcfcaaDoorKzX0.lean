/-
  What New answers, as it is built up: plain. No condition.
-/
import Derived.Test.YtgmffgdhijcfcaaDoorKzU
namespace Go.Proofs.YtgmffgdhijcfcaaDoor
open Go.RowKit Go.Maps
namespace Lk

/-- The error of New. -/
noncomputable def newE (ks : List ByteArray) (is : List Bool) (m : Int) : Int :=
  open Classical in if ks.length > 64 then 3 else if ¬ (1 ≤ m ∧ m ≤ 8) then 2 else if ks.length ≠ is.length ∨ ¬ (∀ k ∈ ks, vk k = true) then 1 else if ¬ ks.Nodup then 5 else 0
def selV (is : List Bool) (i : Nat) : Bool := is.getD (i - 2) false
/-- A list that New returns, or its error. -/
def NewP (ks : List ByteArray) (is : List Bool) (m : Int) (kn : Nat) (w : World) (e : Ending) (w' : World) : Prop :=
  (newE ks is m ≠ 0 ∧ e = .returned (.tuple #[zeroL, .int .i64 (newE ks is m)]) ∧ Below w.heap.size w w') ∨
  (newE ks is m = 0 ∧ ∃ G1 G2 d1 d2, e = .returned (.tuple #[.agg #[.slice (some ⟨G1, 0, none⟩) (kn + 2) d1, .slice (some ⟨G2, 0, none⟩) m.toNat d2], .int .i64 0]) ∧ RdL w' w.heap.size (some ⟨G1, 0, none⟩) (some ⟨G2, 0, none⟩) (newV ks m.toNat (selV is)) ∧ Below w.heap.size w w')
/-- The cells of the first k keys, not linked. -/
def nwC (ks : List ByteArray) (is : List Bool) (k : Nat) : List Ce := Ce.zero :: Ce.zero :: (List.range k).map (fun i => ⟨ks.getD i ⟨#[]⟩, 0, 0, 0, !is.getD i false⟩)
theorem nwC_len (ks : List ByteArray) (is : List Bool) (k : Nat) : (nwC ks is k).length = k + 2 := by simp [nwC]
theorem nwC_next (ks : List ByteArray) (is : List Bool) (k : Nat) : nwC ks is (k + 1) = nwC ks is k ++ [⟨ks.getD k ⟨#[]⟩, 0, 0, 0, !is.getD k false⟩] := by
  unfold nwC
  rw [List.range_succ, List.map_append]
  rfl
def nw0 (ks : List ByteArray) (is : List Bool) (m : Nat) : Ls := ⟨nwC ks is ks.length, List.replicate m Po.zero⟩
theorem nw0_at (ks : List ByteArray) (is : List Bool) (m : Nat) (i : Nat) (h : i < ks.length + 2) : (nw0 ks is m).at_ i = { (nwB ks m).at_ i with gone := decide (2 ≤ i) && !selV is i } := by
  match i, h with
  | 0, _ => rfl
  | 1, _ => rfl
  | i + 2, h =>
    rw [nwB_at ks m (by omega)]
    unfold nw0 nwC Ls.at_ selV
    have h' : i < ks.length := by omega
    simp [List.getD_eq_getElem?_getD, h']
theorem nw0_len (ks : List ByteArray) (is : List Bool) (m : Nat) : (nw0 ks is m).cs.length = ks.length + 2 := nwC_len ks is ks.length
theorem nw0_key (ks : List ByteArray) (is : List Bool) (m i : Nat) : ((nw0 ks is m).at_ i).key = ((nwB ks m).at_ i).key := by
  by_cases h : i < ks.length + 2
  · rw [nw0_at ks is m i h]
  · unfold Ls.at_
    rw [List.getD_eq_getElem?_getD, List.getElem?_eq_none (by rw [nw0_len]; omega), List.getD_eq_getElem?_getD, List.getElem?_eq_none (by rw [nwB_len]; omega)]
theorem nw0_rnk (ks : List ByteArray) (is : List Bool) (m : Nat) : rnk (nw0 ks is m) = rnk (nwB ks m) := funext fun i => rnk_keys (nw0_key ks is m) (by rw [nw0_len, nwB_len]) i
theorem nw0_vld {ks : List ByteArray} {is : List Bool} {m : Nat} (h : NwOk ks m) : Vld (nw0 ks is m) := by
  have hz : ∀ i, i < (nwB ks m).cs.length → ((nw0 ks is m).at_ i).left = 0 ∧ ((nw0 ks is m).at_ i).right = 0 ∧ ((nw0 ks is m).at_ i).lock = 0 := fun i hi => by
    rw [nwB_len] at hi
    rw [nw0_at ks is m i hi]
    exact nwB_zero ks m i
  refine vld_cells (l' := nw0 ks is m) (nwB_vld h) (by rw [nw0_len, nwB_len]) rfl (nw0_key ks is m) (fun i hi => ?_) (fun i hi => ?_) (fun i hi => ?_)
  · rw [(hz i hi).1]; have := nwB_len ks m; omega
  · rw [(hz i hi).2.1]; have := nwB_len ks m; omega
  · rw [(hz i hi).2.2]; omega
theorem nw0_mem {ks : List ByteArray} {is : List Bool} {m : Nat} : memV (nw0 ks is m) = memI (nwB ks m) (selV is) := by
  unfold memV memI
  rw [nw0_rnk, nw0_len, nwB_len]
  congr 1
  refine List.filter_congr fun i hi => ?_
  rw [List.mem_range] at hi
  show (decide (2 ≤ i) && !((nw0 ks is m).at_ i).gone) = _
  rw [nw0_at ks is m i hi]
  by_cases h : 2 ≤ i <;> simp [h]
/-- Cells linked along a list of places. -/
def lkV (l : Ls) (P : List Nat) : Ls := { l with cs := (List.range l.cs.length).map (fun i => { l.at_ i with left := (prvL P i : Nat), right := (nxtL P i : Nat) }) }
theorem lkV_len (l : Ls) (P : List Nat) : (lkV l P).cs.length = l.cs.length := by simp [lkV]
theorem lkV_at (l : Ls) (P : List Nat) {i : Nat} (h : i < l.cs.length) : (lkV l P).at_ i = { l.at_ i with left := (prvL P i : Nat), right := (nxtL P i : Nat) } := by
  unfold lkV
  show ((List.range l.cs.length).map _).getD i Ce.zero = _
  simp [List.getD_eq_getElem?_getD, h]
theorem lkV_new {ks : List ByteArray} {is : List Bool} {m : Nat} : lkV (nw0 ks is m) (ordV ks m (selV is)) = newV ks m (selV is) := by
  unfold lkV newV
  rw [nw0_len]
  congr 1
  refine List.map_congr_left fun i hi => ?_
  rw [List.mem_range] at hi
  rw [nw0_at ks is m i hi]
  have hz := nwB_zero ks m i
  simp only [hz]
theorem lkV_zero {ks : List ByteArray} {is : List Bool} {m : Nat} : lkV (nw0 ks is m) [0] = nw0 ks is m := by
  unfold lkV
  show (Ls.mk _ _) = _
  have e : (List.range (nw0 ks is m).cs.length).map (fun i => ({ (nw0 ks is m).at_ i with left := ((prvL [0] i : Nat) : Int), right := ((nxtL [0] i : Nat) : Int) } : Ce)) = (nw0 ks is m).cs := by
    refine List.ext_getElem (by simp) fun i h1 h2 => ?_
    rw [List.getElem_map, List.getElem_range, Ls.at_lt _ h2]
    have hz := nwB_zero ks m i
    rw [nw0_len] at h2
    rw [nw0_at ks is m i h2]
    simp [prvL, nxtL, hz]
  rw [e]
theorem nxtL_snoc : ∀ {P : List Nat} {b x : Nat}, (P ++ [b]).Nodup → ∀ i, nxtL (P ++ [b] ++ [x]) i = if i = b then x else nxtL (P ++ [b]) i
  | [], b, x, _, i => rfl
  | [a], b, x, h, i => by
    show (if i = a then b else if i = b then x else nxtL [x] i) = if i = b then x else if i = a then b else nxtL [b] i
    have : a ≠ b := by simpa using h
    by_cases e : i = a
    · subst e; simp [this]
    · simp [e, nxtL]
  | a :: a' :: P, b, x, h, i => by
    have h2 : (a' :: P ++ [b]).Nodup := (List.nodup_cons.1 h).2
    have ih := nxtL_snoc (x := x) h2 i
    have hab : a ≠ b := fun e => (List.nodup_cons.1 h).1 (by rw [e]; simp)
    show (if i = a then a' else nxtL (a' :: P ++ [b] ++ [x]) i) = if i = b then x else if i = a then a' else nxtL (a' :: P ++ [b]) i
    rw [ih]
    by_cases e : i = a
    · subst e; simp [hab]
    · simp [e]
theorem prvL_snoc : ∀ {P : List Nat} {b x : Nat}, (P ++ [b] ++ [x]).Nodup → ∀ i, prvL (P ++ [b] ++ [x]) i = if i = x then b else prvL (P ++ [b]) i
  | [], b, x, _, i => rfl
  | [a], b, x, h, i => by
    show (if i = b then a else if i = x then b else prvL [x] i) = if i = x then b else if i = b then a else prvL [b] i
    have : b ≠ x := by simp at h; exact h.2
    by_cases e : i = b
    · subst e; simp [this]
    · simp [e, prvL]
  | a :: a' :: P, b, x, h, i => by
    have h2 : (a' :: P ++ [b] ++ [x]).Nodup := (List.nodup_cons.1 h).2
    have ih := prvL_snoc h2 i
    have hax : a' ≠ x := fun e => (List.nodup_cons.1 h2).1 (by rw [e]; simp)
    show (if i = a' then a else prvL (a' :: P ++ [b] ++ [x]) i) = if i = x then b else if i = a' then a else prvL (a' :: P ++ [b]) i
    rw [ih]
    by_cases e : i = a'
    · subst e; simp [hax]
    · simp [e]
theorem lkV_next {l : Ls} {P : List Nat} {b x : Nat} (h : (P ++ [b] ++ [x]).Nodup) (hb : b < l.cs.length) (hx : x < l.cs.length) :
    lkV l (P ++ [b] ++ [x]) = ((lkV l (P ++ [b])).setC b { (lkV l (P ++ [b])).at_ b with right := (x : Int) }).setC x { ((lkV l (P ++ [b])).setC b { (lkV l (P ++ [b])).at_ b with right := (x : Int) }).at_ x with left := (b : Int) } := by
  have h1 : (P ++ [b]).Nodup := (List.nodup_append.1 h).1
  have hbx : b ≠ x := fun e => by
    have := (List.nodup_append.1 h).2.2 b (by simp) x (by simp)
    exact this e
  have hl : ∀ j, j < l.cs.length → (((lkV l (P ++ [b])).setC b { (lkV l (P ++ [b])).at_ b with right := (x : Int) }).setC x { ((lkV l (P ++ [b])).setC b { (lkV l (P ++ [b])).at_ b with right := (x : Int) }).at_ x with left := (b : Int) }).at_ j = (lkV l (P ++ [b] ++ [x])).at_ j := fun j hj => by
    rw [Ls.at_setC _ (by rw [Ls.len_setC, lkV_len]; exact hx), Ls.at_setC _ (by rw [lkV_len]; exact hb), Ls.at_setC _ (by rw [lkV_len]; exact hb), lkV_at l _ hj, lkV_at l _ hx, lkV_at l _ hb, lkV_at l _ hj, nxtL_snoc h1 j, prvL_snoc h j]
    by_cases e1 : j = x
    · subst e1
      have hjb : ¬ j = b := fun q => hbx q.symm
      simp [hjb]
    · by_cases e2 : j = b
      · subst e2; simp [e1]
      · simp [e1, e2]
  have e : (lkV l (P ++ [b] ++ [x])).cs = (((lkV l (P ++ [b])).setC b { (lkV l (P ++ [b])).at_ b with right := (x : Int) }).setC x { ((lkV l (P ++ [b])).setC b { (lkV l (P ++ [b])).at_ b with right := (x : Int) }).at_ x with left := (b : Int) }).cs := by
    refine List.ext_getElem (by rw [lkV_len, Ls.len_setC, Ls.len_setC, lkV_len]) fun j h1 h2 => ?_
    rw [lkV_len] at h1
    rw [Ls.at_lt, Ls.at_lt, hl j h1]
  show Ls.mk (lkV l (P ++ [b] ++ [x])).cs l.ps = Ls.mk _ _
  rw [e]
  rfl
end Lk
end Go.Proofs.YtgmffgdhijcfcaaDoor
