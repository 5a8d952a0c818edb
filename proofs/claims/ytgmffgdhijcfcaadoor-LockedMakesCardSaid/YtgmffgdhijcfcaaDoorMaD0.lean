/-
  Chained of the reference of chapter 11, plain: cells as they are appended, an order as it is inserted into. No condition.
-/
import Derived.Test.YtgmffgdhijcfcaaDoorKzX
import Derived.Test.YtgmffgdhijcfcaaDoorMaA
import Derived.Laws.CopyRow
import Derived.Deep.RegionLaw
namespace Go.Proofs.YtgmffgdhijcfcaaDoor
open Go.RowKit Go.Maps
namespace Lk
/-- The cells of the first i keys, nothing but keys. -/
def chC (ks : List ByteArray) (i : Nat) : List Ce := Ce.zero :: Ce.zero :: (List.range i).map (fun j => ⟨ks.getD j ⟨#[]⟩, 0, 0, 0, false⟩)
theorem chC_len (ks : List ByteArray) (i : Nat) : (chC ks i).length = i + 2 := by simp [chC]
theorem chC_next (ks : List ByteArray) (i : Nat) : chC ks (i + 1) = chC ks i ++ [⟨ks.getD i ⟨#[]⟩, 0, 0, 0, false⟩] := by
  unfold chC
  rw [List.range_succ, List.map_append]
  rfl
theorem chC_key (ks : List ByteArray) (m : Nat) {i j : Nat} (hi : i ≤ ks.length) (hj : j < i + 2) : ((Ls.mk (chC ks i) []).at_ j).key = ((nwB ks m).at_ j).key := by
  match j, hj with
  | 0, _ => rfl
  | 1, _ => rfl
  | j + 2, hj =>
    rw [nwB_at ks m (by omega)]
    unfold chC Ls.at_
    have h1 : j < i := by omega
    have h2 : j < ks.length := by omega
    simp [List.getD_eq_getElem?_getD, h1, h2]
theorem blw_cells {l l' : Ls} {a b : Nat} (ha : (l'.at_ a).key = (l.at_ a).key) (hb : (l'.at_ b).key = (l.at_ b).key) : blw l' a b = blw l a b := by
  unfold blw
  rw [ha, hb]
theorem chC_blw (ks : List ByteArray) (m : Nat) {i a b : Nat} (hi : i ≤ ks.length) (ha : a < i + 2) (hb : b < i + 2) : blw (Ls.mk (chC ks i) []) a b = blw (nwB ks m) a b :=
  blw_cells (chC_key ks m hi ha) (chC_key ks m hi hb)
/-- The order of those that are in, of the first i keys. -/
structure OrdI (ks : List ByteArray) (m : Nat) (is : List Bool) (i : Nat) (O : List Nat) : Prop where
  hd : ∃ r, O = 0 :: r
  asc : O.Pairwise (fun a b => rnk (nwB ks m) a < rnk (nwB ks m) b)
  mem : ∀ j, j ∈ O ↔ j = 0 ∨ (2 ≤ j ∧ j < i + 2 ∧ selV is j = true)
  len : O.length ≤ i + 1
section
variable {ks : List ByteArray} {m : Nat} {is : List Bool} {i : Nat} {O : List Nat}
theorem OrdI.start : OrdI ks m is 0 [0] := ⟨⟨[], rfl⟩, List.pairwise_singleton _ _, (fun j => by simp; omega), Nat.le_refl _⟩
theorem OrdI.skip (h : OrdI ks m is i O) (hs : selV is (i + 2) = false) : OrdI ks m is (i + 1) O := ⟨h.hd, h.asc, (fun j => by
  rw [h.mem]
  constructor
  · rintro (q | ⟨q1, q2, q3⟩)
    · exact .inl q
    · exact .inr ⟨q1, by omega, q3⟩
  · rintro (q | ⟨q1, q2, q3⟩)
    · exact .inl q
    · rcases Nat.lt_or_ge j (i + 2) with q | q
      · exact .inr ⟨q1, q, q3⟩
      · obtain rfl : j = i + 2 := by omega
        rw [hs] at q3; cases q3), by have := h.len; omega⟩
theorem OrdI.lt (h : OrdI ks m is i O) {j : Nat} (hj : j ∈ O) : j < i + 2 := by
  rcases (h.mem j).1 hj with q | ⟨_, q, _⟩ <;> omega
/-- What stands to the left of a place is less, if what stands at it is. -/
theorem OrdI.put (h : OrdI ks m is i O) (ok : NwOk ks m) (hi : i < ks.length) (hs : selV is (i + 2) = true) {a : Nat} (a1 : 1 ≤ a) (ha : a ≤ O.length) (hl : ∀ q : a - 1 < O.length, blw (nwB ks m) (i + 2) O[a - 1] = false) (hr : ∀ j (q : j < O.length), a ≤ j → blw (nwB ks m) (i + 2) O[j] = true) :
    OrdI ks m is (i + 1) (O.take a ++ [i + 2] ++ O.drop a) := by
  have v := nwB_vld ok
  have hn := nwB_len ks m
  have hx : i + 2 ∉ O := fun q => by have := h.lt q; omega
  have hlt : rnk (nwB ks m) (O[a - 1]'(by omega)) < rnk (nwB ks m) (i + 2) := by
    have h1 := hl (by omega)
    have hne : i + 2 ≠ O[a - 1]'(by omega) := fun q => hx (by rw [q]; exact List.getElem_mem _)
    have hm := h.lt (List.getElem_mem (by omega : a - 1 < O.length))
    rcases blw_tri v (by omega : i + 2 < (nwB ks m).cs.length) (by omega) hne with q | q
    · rw [h1] at q; cases q
    · exact rnk_lt (by omega) q
  have hlo : ∀ x ∈ O.take a, rnk (nwB ks m) x < rnk (nwB ks m) (i + 2) := fun x hx => by
    obtain ⟨j, hj, e⟩ := List.getElem_of_mem hx
    rw [List.length_take] at hj
    rw [List.getElem_take] at e
    subst e
    rcases Nat.lt_or_ge j (a - 1) with q | q
    · exact Nat.lt_trans (List.pairwise_iff_getElem.1 h.asc j (a - 1) (by omega) (by omega) q) hlt
    · obtain rfl : j = a - 1 := by omega
      exact hlt
  have hhi : ∀ x ∈ O.drop a, rnk (nwB ks m) (i + 2) < rnk (nwB ks m) x := fun x hx => by
    obtain ⟨j, hj, e⟩ := List.getElem_of_mem hx
    rw [List.length_drop] at hj
    rw [List.getElem_drop] at e
    subst e
    exact rnk_lt (by omega) (hr (a + j) (by omega) (by omega))
  refine ⟨?_, ?_, fun j => ?_, by rw [List.length_append, List.length_append, List.length_take, List.length_drop]; have := h.len; simp; omega⟩
  · obtain ⟨r, hO⟩ := h.hd
    obtain ⟨a', rfl⟩ : ∃ a', a = a' + 1 := ⟨a - 1, by omega⟩
    exact ⟨r.take a' ++ [i + 2] ++ O.drop (a' + 1), by rw [hO]; rfl⟩
  · have hpt := List.Pairwise.sublist (List.take_sublist a O) h.asc
    have hpd := List.Pairwise.sublist (List.drop_sublist a O) h.asc
    rw [List.append_assoc, List.pairwise_append]
    refine ⟨hpt, ?_, fun x hx y hy => ?_⟩
    · rw [List.singleton_append, List.pairwise_cons]
      exact ⟨hhi, hpd⟩
    · rcases List.mem_append.1 hy with q | q
      · simp at q; subst q; exact hlo x hx
      · exact Nat.lt_trans (hlo x hx) (hhi y q)
  · have hd : j ∈ O.take a ++ [i + 2] ++ O.drop a ↔ j = i + 2 ∨ j ∈ O := by
      conv => rhs; rhs; rw [← List.take_append_drop a O]
      simp only [List.mem_append, List.mem_singleton]
      constructor
      · rintro ((q | q) | q)
        · exact .inr (.inl q)
        · exact .inl q
        · exact .inr (.inr q)
      · rintro (q | q | q)
        · exact .inl (.inr q)
        · exact .inl (.inl q)
        · exact .inr q
    rw [hd, h.mem]
    constructor
    · rintro (q | q | ⟨q1, q2, q3⟩)
      · subst q; exact .inr ⟨by omega, by omega, hs⟩
      · exact .inl q
      · exact .inr ⟨q1, by omega, q3⟩
    · rintro (q | ⟨q1, q2, q3⟩)
      · exact .inr (.inl q)
      · rcases Nat.lt_or_ge j (i + 2) with q | q
        · exact .inr (.inr ⟨q1, q, q3⟩)
        · exact .inl (by omega)
theorem OrdI.end_ (h : OrdI ks m is ks.length O) (ok : NwOk ks m) : O ++ [1] = ordV ks m (selV is) := by
  have v := nwB_vld ok
  have hn := nwB_len ks m
  have ha := ord_asc ok (selV is)
  have ha2 : (O ++ [1]).Pairwise (fun a b => rnk (nwB ks m) a < rnk (nwB ks m) b) := by
    rw [List.pairwise_append]
    refine ⟨h.asc, List.pairwise_singleton _ _, fun x hx y hy => ?_⟩
    simp at hy
    subst hy
    have hxl := h.lt hx
    refine rnk_lt (by omega) (blw_one _ ?_)
    rintro rfl
    rcases (h.mem 1).1 hx with q | ⟨q, _⟩ <;> omega
  have hnd : ∀ {L : List Nat}, L.Pairwise (fun a b => rnk (nwB ks m) a < rnk (nwB ks m) b) → L.Nodup := fun q => q.imp (fun h e => by rw [e] at h; exact Nat.lt_irrefl _ h)
  have hp : (O ++ [1]).Perm (ordV ks m (selV is)) := (List.perm_ext_iff_of_nodup (hnd ha2) (hnd ha)).2 fun j => by
    rw [List.mem_append, h.mem, mem_ord, List.mem_singleton]
    constructor
    · rintro ((q | ⟨q1, q2, q3⟩) | q)
      · exact .inl q
      · exact .inr (.inr ⟨by omega, q1, q3⟩)
      · exact .inr (.inl q)
    · rintro (q | q | ⟨q1, q2, q3⟩)
      · exact .inl (.inl q)
      · exact .inr q
      · exact .inl (.inr ⟨q2, by omega, q3⟩)
  exact List.Perm.eq_of_pairwise (le := fun x y => rnk (nwB ks m) x < rnk (nwB ks m) y) (fun a b _ _ h1 h2 => absurd h1 (by omega)) ha2 ha hp
end
/-- Rows by a function of the place. -/
theorem MutR.putF {w : World} {G c n : Nat} {t : TypeId} {f : Nat → Ce} (h : MutR Ce.row 5 t w G c ((List.range n).map f)) {i : Nat} (hi : i < n) {j : Nat} (hj : j < 5) (v : Value) (y : Ce) (hy : y.row = (f i).row.set j v) :
    MutR Ce.row 5 t (w.setCell ⟨G, i * 5 + j, none⟩ v) G c ((List.range n).map (fun k => if k = i then y else f k)) := by
  have := h.put Ce.row_len (i := i) (by simpa using hi) hj v y (by simpa using hy)
  have e : ((List.range n).map f).set i y = (List.range n).map (fun k => if k = i then y else f k) := by
    refine List.ext_getElem (by simp) fun k h1 h2 => ?_
    rw [List.getElem_set]
    by_cases q : i = k
    · subst q; simp
    · have q' : ¬ k = i := fun z => q z.symm
      simp [q, q']
  rwa [e] at this
theorem MutR.cellF {w : World} {G c n : Nat} {t : TypeId} {f : Nat → Ce} (h : MutR Ce.row 5 t w G c ((List.range n).map f)) {i : Nat} (hi : i < n) : CeAt w G (i * 5) (f i) := by
  have hl : i < ((List.range n).map f).length := by simpa using hi
  have e : ((List.range n).map f)[i] = f i := by simp
  refine ⟨?_, ?_, ?_, ?_, ?_⟩
  · exact h.cell hl (j := 0) (by rw [e]; rfl)
  · exact h.cell hl (j := 1) (by rw [e]; rfl)
  · exact h.cell hl (j := 2) (by rw [e]; rfl)
  · exact h.cell hl (j := 3) (by rw [e]; rfl)
  · exact h.cell hl (j := 4) (by rw [e]; rfl)
theorem map_range_congr {n : Nat} {f g : Nat → Ce} (h : ∀ i, i < n → f i = g i) : (List.range n).map f = (List.range n).map g := List.map_congr_left fun i hi => h i (List.mem_range.1 hi)
/-- The cells with those that are in linked to the right. -/
def chR (ks : List ByteArray) (m n : Nat) (P : List Nat) : List Ce := (List.range n).map (fun i => ⟨((nwB ks m).at_ i).key, 0, (nxtL P i : Nat), 0, false⟩)
theorem chR_start (ks : List ByteArray) (m : Nat) : chC ks ks.length = chR ks m (ks.length + 2) [0] := by
  unfold chR
  refine List.ext_getElem (by rw [chC_len]; simp) fun i h1 h2 => ?_
  rw [chC_len] at h1
  rw [List.getElem_map, List.getElem_range]
  have hk := chC_key ks m (Nat.le_refl _) h1
  rw [← hk]
  have e : (Ls.mk (chC ks ks.length) []).at_ i = (chC ks ks.length)[i]'(by rw [chC_len]; exact h1) := by
    unfold Ls.at_
    rw [List.getD_eq_getElem?_getD, List.getElem?_eq_getElem]
    rfl
  rw [e]
  match i, h1 with
  | 0, _ => rfl
  | 1, _ => rfl
  | i + 2, h1 =>
    unfold chC
    simp [nxtL]
def nv (L : List Int) : List Value := L.map (Value.int .i64)
theorem nv_flat (L : List Int) : L.flatMap nrow = nv L := nrow_map L
/-- A row of numbers, opened and shut again. -/
theorem nu_open {w : World} {base : Nat} {v : Value} {L : List Int} (h : OwnR nrow 1 3 w base v L) (hn : L ≠ []) : ∃ G cap pad, v = .slice (some ⟨G, 0, none⟩) L.length cap ∧ base ≤ G ∧ L.length ≤ cap ∧ cap ≤ maxLen ∧ Has w G 3 (nv L ++ pad).toArray ∧ ∀ (w' : World) (L' : List Int), L'.length = L.length → Has w' G 3 (nv L' ++ pad).toArray → OwnR nrow 1 3 w' base (.slice (some ⟨G, 0, none⟩) L.length cap) L' := by
  obtain ⟨h1, ⟨rfl, h2⟩ | ⟨G, cap, cur, rfl, h4, h5, h6, h7, h8, h9⟩⟩ := h
  · exact absurd (List.eq_nil_of_length_eq_zero h2) hn
  · rw [nv_flat] at h9
    have hl : (nv L).length = L.length := by simp [nv]
    refine ⟨G, cap, cur.toList.drop L.length, rfl, h4, h6, h7, ?_, fun w' L' hL' hH => ?_⟩
    · have : nv L ++ cur.toList.drop L.length = cur.toList := by
        conv => rhs; rw [← List.take_append_drop L.length cur.toList]
        rw [← h9, Nat.mul_one]
      rw [this]
      exact h5
    · have hl' : (nv L').length = L'.length := by simp [nv]
      rw [← hL']
      refine ⟨by rw [nv_flat, hl']; omega, .inr ⟨G, cap, _, rfl, h4, hH, by omega, h7, ?_, ?_⟩⟩
      · have q1 : cur.toList.length = cap * 1 := by rw [Array.length_toList]; exact h8
        rw [List.size_toArray, List.length_append, List.length_drop, q1]
        omega
      · rw [nv_flat]
        simp only
        rw [Nat.mul_one, List.take_append_of_le_length (by omega), List.take_of_length_le (by omega)]
theorem nv_shift {O : List Int} {pad : List Value} {a : Nat} (ha : a ≤ O.length) :
    (nv (O ++ [0]) ++ pad).take (a + 1) ++ nv (O.drop a) ++ (nv (O ++ [0]) ++ pad).drop (a + 1 + (nv (O.drop a)).length) = nv ((O ++ [0]).take (a + 1) ++ O.drop a) ++ pad := by
  have h1 : a + 1 + (nv (O.drop a)).length = (nv (O ++ [0])).length := by
    simp [nv]; omega
  rw [h1, List.drop_left, List.take_append_of_le_length (by simp [nv]; omega)]
  simp [nv, List.map_take]
theorem nv_set {O : List Int} {a : Nat} (ha : a ≤ O.length) (x : Int) : ((O ++ [0]).take (a + 1) ++ O.drop a).set a x = O.take a ++ [x] ++ O.drop a := by
  rcases Nat.lt_or_ge a O.length with h | h
  · rw [List.take_append_of_le_length (by omega), List.take_succ_eq_append_getElem h, List.append_assoc, List.set_append_right _ _ (by rw [List.length_take]; omega)]
    rw [List.length_take, Nat.min_eq_left ha, Nat.sub_self, List.append_assoc]
    rfl
  · have e : a = O.length := by omega
    subst e
    rw [List.take_of_length_le (by simp), List.drop_length, List.append_nil, List.append_nil, List.set_append_right _ _ (Nat.le_refl _), Nat.sub_self, List.take_length]
    rfl
theorem nv_ones (L : List Int) : ∀ v ∈ nv L, v.oneCell' = true := fun v hv => by
  obtain ⟨x, _, e⟩ := List.mem_map.1 hv
  subst e; rfl
end Lk
end Go.Proofs.YtgmffgdhijcfcaaDoor
