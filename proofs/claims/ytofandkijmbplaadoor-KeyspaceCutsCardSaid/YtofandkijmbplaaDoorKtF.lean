/-
  Plain facts: a chain of ranges tiles the range from its beginning to its end; one left out, or taken twice, is found at its place. No condition.
-/
import Derived.Test.YtofandkijmbplaaDoorKtD
import Derived.Test.YtofandkijmbplaaDoorKsO
namespace Go.Proofs.YtofandkijmbplaaDoor
open Go.RowKit

theorem ch_le {a b : Bd} {l : List Rg} (h : Ch a l b) : a.cmp b ≤ 0 := by
  induction l generalizing a with
  | nil => cases h; rw [cmp_self]; omega
  | cons x l ih =>
    obtain ⟨rfl, h1, _, h2⟩ := h
    have := cmp_lt_le h1 (ih h2)
    omega
theorem ch_ok {a b : Bd} {l : List Rg} (ha : a.ok = true) (h : Ch a l b) : b.ok = true ∧ ∀ x ∈ l, x.emp = false := by
  induction l generalizing a with
  | nil => cases h; exact ⟨ha, fun _ h => by cases h⟩
  | cons x l ih =>
    obtain ⟨rfl, h1, h2, h3⟩ := h
    obtain ⟨k1, k2⟩ := ih h2 h3
    refine ⟨k1, fun y hy => ?_⟩
    rcases List.mem_cons.1 hy with rfl | hy
    · exact emp_false.2 ⟨ha, h2, h1⟩
    · exact k2 y hy
theorem ch_split {a b : Bd} {l m : List Rg} (h : Ch a (l ++ m) b) : ∃ c, Ch a l c ∧ Ch c m b := by
  induction l generalizing a with
  | nil => exact ⟨a, rfl, h⟩
  | cons x l ih =>
    obtain ⟨h0, h1, h2, h3⟩ := h
    obtain ⟨c, k1, k2⟩ := ih h3
    exact ⟨c, ⟨h0, h1, h2, k1⟩, k2⟩
theorem tileK_zero {x : Rg} {pos fin : Bd} (h : x.emp = false) (h1 : x.lo = pos) (h2 : x.hi.cmp fin ≤ 0) : tileK x pos fin = 0 := tileK_ok h (by rw [h1, cmp_self]) h2
theorem tilesF_app {a mid fin : Bd} {l m : List Rg} (ha : a.ok = true) (h : Ch a l mid) (hf : mid.cmp fin ≤ 0) (i : Nat) : tilesF (l ++ m) i a fin = tilesF m (i + l.length) mid fin := by
  induction l generalizing a i with
  | nil => cases h; rfl
  | cons x l ih =>
    have he := (ch_ok ha h).2 x (.head _)
    obtain ⟨h0, h1, h2, h3⟩ := h
    have h4 : x.hi.cmp fin ≤ 0 := cmp_le_trans (ch_le h3) hf
    show (if tileK x _ fin = 0 then tilesF (l ++ m) (_ + 1) x.hi fin else _) = _
    rw [if_pos (tileK_zero he h0 h4), ih h2 h3]
    congr 1
    simp
    omega
theorem ch_cov {a b : Bd} {l : List Rg} (h : Ch a l b) (p : Bd) : Cov l p ↔ a.cmp p ≤ 0 ∧ p.cmp b < 0 := by
  induction l generalizing a with
  | nil =>
    have h : a = b := h
    subst h
    have := cmp_swap a p
    exact ⟨fun h => absurd h (cov_nil p), fun h => by omega⟩
  | cons x l ih =>
    obtain ⟨h0, h1, h2, h3⟩ := h
    rw [cov_cons, ih h3, h0]
    have h4 := ch_le h3
    have s1 := cmp_swap p x.hi
    rw [h0] at h1
    constructor
    · rintro (⟨p1, p2⟩ | ⟨p1, p2⟩)
      · exact ⟨p1, cmp_lt_le p2 h4⟩
      · exact ⟨by have := cmp_lt_le h1 p1; omega, p2⟩
    · rintro ⟨p1, p2⟩
      by_cases h5 : p.cmp x.hi < 0
      · exact .inl ⟨p1, h5⟩
      · exact .inr ⟨by omega, p2⟩

structure Cuts (r : Rg) (l : List Rg) (i : Nat) (x : Rg) : Prop where
  all : tilesK l r = (l.length, 0)
  uni : ∀ u, Uni l u → u = [r]
  out : tilesK (l.take i ++ l.drop (i + 1)) r = (i, 9)
  twice : tilesK (l.take i ++ [x] ++ l.drop i) r = (i + 1, 10)

theorem cuts {r : Rg} {l : List Rg} (hr : r.emp = false) (h : Ch r.lo l r.hi) {i : Nat} (hi : i < l.length) : Cuts r l i l[i] := by
  obtain ⟨k1, k2, k3⟩ := emp_false.1 hr
  have hok : r.ok = true := by unfold Rg.ok; rw [k1, k2]; simp; omega
  have hT : ∀ m, tilesK m r = tilesF m 0 r.lo r.hi := fun m => by unfold tilesK; rw [hok]; rfl
  have hs : l.take i ++ l[i] :: l.drop (i + 1) = l := by rw [← List.drop_eq_getElem_cons hi, List.take_append_drop]
  have h' := h
  rw [← hs] at h'
  obtain ⟨mid, c1, c2⟩ := ch_split h'
  obtain ⟨d0, d1, d2, d3⟩ := c2
  have hmid : mid.ok = true := (ch_ok k1 c1).1
  have hx : l[i].emp = false := emp_false.2 ⟨by rw [d0]; exact hmid, d2, d1⟩
  have hlen : (l.take i).length = i := by rw [List.length_take]; omega
  have hm : mid.cmp r.hi < 0 := by rw [← d0]; exact cmp_lt_le d1 (ch_le d3)
  refine ⟨?_, ?_, ?_, ?_⟩
  · rw [hT]
    have := tilesF_app (m := []) k1 h (fin := r.hi) (by rw [cmp_self]; omega) 0
    rw [List.append_nil] at this
    rw [this]
    show (if r.hi.cmp r.hi < 0 then _ else _) = _
    rw [if_neg (by rw [cmp_self]; omega), Nat.zero_add]
  · intro u hu
    refine canon_unique hu.1 (canon_one hr) fun p => ?_
    have hk : keep l = l := List.filter_eq_self.2 fun y hy => by rw [(ch_ok k1 h).2 y hy]; rfl
    rw [hu.2.1, hk, ch_cov h, cov_one]
  · rw [hT, tilesF_app k1 c1 (by omega), hlen, Nat.zero_add]
    cases hd : l.drop (i + 1) with
    | nil =>
      show (if mid.cmp r.hi < 0 then _ else _) = _
      rw [if_pos hm]
    | cons y t =>
      rw [hd] at d3
      have hy := (ch_ok d2 d3).2 y (.head _)
      obtain ⟨e0, e1, e2, e3⟩ := d3
      have h9 : tileK y mid r.hi = 9 := tileK_gap hy (by rw [e0]; have := cmp_swap l[i].lo l[i].hi; rw [← d0]; omega)
      show (if tileK y mid r.hi = 0 then _ else (i, tileK y mid r.hi)) = _
      rw [h9]
      rfl
  · have hz : tileK l[i] mid r.hi = 0 := tileK_zero hx d0 (ch_le d3)
    have h10 : tileK l[i] l[i].hi r.hi = 10 := tileK_over hx d1
    rw [hT, List.append_assoc, tilesF_app k1 c1 (by omega), hlen, Nat.zero_add, List.drop_eq_getElem_cons hi]
    show (if tileK l[i] mid r.hi = 0 then (if tileK l[i] l[i].hi r.hi = 0 then _ else (i + 1, tileK l[i] l[i].hi r.hi)) else _) = _
    rw [if_pos hz, h10]
    rfl
end Go.Proofs.YtofandkijmbplaaDoor
