/-
  Lists of cells and processes as they are written, what Valid asks, the order of the cells and their ranks: plain. No condition.
  One step on a list as it is written, and that it is the step of the plain state: plain. No condition.
  A valid list stays valid: plain. No condition.
  Lists that New, Start and Step lead to: the invariant, the chain: plain. No condition.
  What Check answers, and that it is true of every list that is led to: plain. No condition.
  Neighbours in a list, the cells by their keys (Members): plain. No condition.
  What New gives, and that the invariant holds of it: plain. No condition.
  Which steps change the members, and what a result says of them: plain. No condition.
  The moments at which a result is right: plain. No condition.
  At most Bound steps are left, somebody can step, in the end all cells are free: plain. No condition.
  One process after another: plain. No condition.
  The example of chapter 11: plain. No condition.
-/
import Derived.Test.YtmhbloefmknikaaGreatDoorLsP
import Derived.Test.YtmhbloefmknikaaGreatDoorKyA
namespace Go.Proofs.YtmhbloefmknikaaGreatDoor
section
open Go.RowKit Go.Maps

namespace Lk
/-- A cell and a process as they are written: numbers of any size. -/
structure Ce where
  key : ByteArray
  left : Int
  right : Int
  lock : Int
  gone : Bool
structure Po where
  kind : Int
  cell : Int
  phase : Int
  pred : Int
  succ : Int
  next : Int
  res : Bool
structure Ls where
  cs : List Ce
  ps : List Po
def Ce.zero : Ce := ⟨⟨#[]⟩, 0, 0, 0, false⟩
def Po.zero : Po := ⟨0, 0, 0, 0, 0, 0, false⟩
def Ls.at_ (l : Ls) (i : Nat) : Ce := l.cs.getD i Ce.zero
def Ls.pr (l : Ls) (p : Nat) : Po := l.ps.getD p Po.zero
/-- One cell is less than another. -/
def blw (l : Ls) (a b : Nat) : Bool := if a = b ∨ a = 1 ∨ b = 0 then false else if a = 0 ∨ b = 1 then true else kl (l.at_ a).key (l.at_ b).key
def ixB (i : Int) (n : Nat) : Bool := decide (0 ≤ i) && decide (i < n)
/-- What Valid asks. -/
structure Vld (l : Ls) : Prop where
  n2 : 2 ≤ l.cs.length
  n66 : l.cs.length ≤ 66
  m1 : 1 ≤ l.ps.length
  m8 : l.ps.length ≤ 8
  e0 : (l.at_ 0).key = ⟨#[]⟩
  e1 : (l.at_ 1).key = ⟨#[]⟩
  vk : ∀ i, i < l.cs.length → vk (l.at_ i).key = true
  df : ∀ i, 2 ≤ i → i < l.cs.length → ∀ j, 2 ≤ j → j < l.cs.length → (l.at_ i).key = (l.at_ j).key → i = j
  lf : ∀ i, i < l.cs.length → 0 ≤ (l.at_ i).left ∧ (l.at_ i).left < l.cs.length
  rg : ∀ i, i < l.cs.length → 0 ≤ (l.at_ i).right ∧ (l.at_ i).right < l.cs.length
  lk : ∀ i, i < l.cs.length → 0 ≤ (l.at_ i).lock ∧ (l.at_ i).lock ≤ l.ps.length
  ce : ∀ p, p < l.ps.length → 0 ≤ (l.pr p).cell ∧ (l.pr p).cell < l.cs.length
  pd : ∀ p, p < l.ps.length → 0 ≤ (l.pr p).pred ∧ (l.pr p).pred < l.cs.length
  sc : ∀ p, p < l.ps.length → 0 ≤ (l.pr p).succ ∧ (l.pr p).succ < l.cs.length
  nx : ∀ p, p < l.ps.length → 0 ≤ (l.pr p).next ∧ (l.pr p).next < l.cs.length
  kd : ∀ p, p < l.ps.length → 0 ≤ (l.pr p).kind ∧ (l.pr p).kind ≤ 3
  ph : ∀ p, p < l.ps.length → (l.pr p).phase = 18 ∨ (0 ≤ (l.pr p).phase ∧ (l.pr p).phase ≤ 13)
  id : ∀ p, p < l.ps.length → ((l.pr p).kind = 0 ↔ (l.pr p).phase = 0)
/-- The rank of a cell: how many are below it. -/
def rnk (l : Ls) (i : Nat) : Nat := ((List.range l.cs.length).filter (fun j => blw l j i)).length
theorem blw_irr (l : Ls) (a : Nat) : blw l a a = false := if_pos (.inl rfl)
theorem blw_zero (l : Ls) {a : Nat} (h : a ≠ 0) : blw l 0 a = true := by
  unfold blw; rw [if_neg (by omega), if_pos (.inl rfl)]
theorem blw_one (l : Ls) {a : Nat} (h : a ≠ 1) : blw l a 1 = true := by
  unfold blw; rw [if_neg (by omega), if_pos (.inr rfl)]
theorem blw_key (l : Ls) {a b : Nat} (ha : 2 ≤ a) (hb : 2 ≤ b) : blw l a b = kl (l.at_ a).key (l.at_ b).key := by
  unfold blw
  by_cases h : a = b
  · rw [if_pos (.inl h), h, kl_irrefl]
  · rw [if_neg (by omega), if_neg (by omega)]
theorem blw_from1 (l : Ls) (b : Nat) : blw l 1 b = false := if_pos (.inr (.inl rfl))
theorem blw_to0 (l : Ls) (a : Nat) : blw l a 0 = false := if_pos (.inr (.inr rfl))
theorem blw_trans (l : Ls) {a b c : Nat} (h : blw l a b = true) (k : blw l b c = true) : blw l a c = true := by
  have ha1 : a ≠ 1 := fun e => by rw [e, blw_from1] at h; cases h
  have hb1 : b ≠ 1 := fun e => by rw [e, blw_from1] at k; cases k
  have hb0 : b ≠ 0 := fun e => by rw [e, blw_to0] at h; cases h
  have hc0 : c ≠ 0 := fun e => by rw [e, blw_to0] at k; cases k
  by_cases a0 : a = 0
  · subst a0; exact blw_zero l hc0
  · by_cases c1 : c = 1
    · subst c1; exact blw_one l ha1
    · rw [blw_key l (by omega) (by omega)] at h k ⊢
      exact kl_trans h k
theorem blw_tri {l : Ls} (v : Vld l) {a b : Nat} (ha : a < l.cs.length) (hb : b < l.cs.length) (hne : a ≠ b) : blw l a b = true ∨ blw l b a = true := by
  by_cases a0 : a = 0
  · subst a0; exact .inl (blw_zero l (Ne.symm hne))
  · by_cases b0 : b = 0
    · subst b0; exact .inr (blw_zero l hne)
    · by_cases a1 : a = 1
      · subst a1; exact .inr (blw_one l (Ne.symm hne))
      · by_cases b1 : b = 1
        · subst b1; exact .inl (blw_one l hne)
        · rw [blw_key l (by omega) (by omega), blw_key l (by omega) (by omega)]
          cases h : kl (l.at_ a).key (l.at_ b).key with
          | true => exact .inl rfl
          | false => 
            cases k : kl (l.at_ b).key (l.at_ a).key with
            | true => exact .inr rfl
            | false => exact absurd (v.df a (by omega) ha b (by omega) hb (kl_tri h k)) hne
theorem filt_le {p q : Nat → Bool} (h : ∀ i, p i = true → q i = true) : ∀ s : List Nat, (s.filter p).length ≤ (s.filter q).length
  | [] => Nat.le_refl _
  | x :: s => by
    have ih := filt_le h s
    rw [List.filter_cons, List.filter_cons]
    cases hp : p x with
    | true => rw [h x hp]; simpa using ih
    | false => cases hq : q x <;> simp <;> omega
theorem filt_lt {p q : Nat → Bool} (h : ∀ i, p i = true → q i = true) {y : Nat} (hy : p y = false) (hq : q y = true) : ∀ s : List Nat, y ∈ s → (s.filter p).length < (s.filter q).length
  | [], m => by cases m
  | x :: s, m => by
    rw [List.filter_cons, List.filter_cons]
    rcases List.mem_cons.1 m with rfl | m
    · rw [hy, hq]
      have := filt_le h s
      simp
      omega
    · have ih := filt_lt h hy hq s m
      cases hp : p x with
      | true => rw [h x hp]; simpa using ih
      | false => cases hx : q x <;> simp <;> omega
theorem rnk_lt {l : Ls} {a b : Nat} (ha : a < l.cs.length) (h : blw l a b = true) : rnk l a < rnk l b :=
  filt_lt (p := fun j => blw l j a) (q := fun j => blw l j b) (fun _ k => blw_trans l k h) (blw_irr l a) h _ (List.mem_range.2 ha)
theorem rnk_iff {l : Ls} (v : Vld l) {a b : Nat} (ha : a < l.cs.length) (hb : b < l.cs.length) : blw l a b = true ↔ rnk l a < rnk l b := by
  refine ⟨rnk_lt ha, fun h => ?_⟩
  by_cases e : a = b
  · subst e; omega
  · rcases blw_tri v ha hb e with k | k
    · exact k
    · have := rnk_lt hb k; omega
theorem rnk_n {l : Ls} {a : Nat} (ha : a < l.cs.length) : rnk l a < l.cs.length := by
  have h := filt_lt (p := fun j => blw l j a) (q := fun _ => true) (fun _ _ => rfl) (blw_irr l a) rfl _ (List.mem_range.2 ha)
  rw [List.filter_eq_self.2 (fun _ _ => rfl), List.length_range] at h
  exact h
theorem rnk_odr {l : Ls} (v : Vld l) : Odr l.cs.length (rnk l) where
  two := v.n2
  inj a b ha hb e := by
    by_cases h : a = b
    · exact h
    · rcases blw_tri v ha hb h with k | k
      · have := rnk_lt ha k; omega
      · have := rnk_lt hb k; omega
  fst a ha h := rnk_lt (by have := v.n2; omega) (blw_zero l h)
  lst a ha h := rnk_lt ha (blw_one l h)
/-- Only keys count for the order. -/
theorem blw_keys {l l' : Ls} (h : ∀ i, (l'.at_ i).key = (l.at_ i).key) (a b : Nat) : blw l' a b = blw l a b := by
  unfold blw; rw [h, h]
theorem rnk_keys {l l' : Ls} (h : ∀ i, (l'.at_ i).key = (l.at_ i).key) (hn : l'.cs.length = l.cs.length) (i : Nat) : rnk l' i = rnk l i := by
  unfold rnk
  rw [hn]
  congr 2
  funext j
  exact blw_keys h j i
end Lk
end
section
open Go.RowKit Go.Maps

namespace Lk
def kdOf (k : Int) : Kd := if k = 1 then .ins else if k = 2 then .rem else if k = 3 then .fnd else .none
def phOf (k : Int) : Ph :=
  if k = 0 then .idle else if k = 1 then .find else if k = 2 then .lockP else if k = 3 then .lockS else if k = 4 then .check else if k = 5 then .retry
  else if k = 6 then .link0 else if k = 7 then .link1 else if k = 8 then .link2 else if k = 9 then .lockN else if k = 10 then .un0 else if k = 11 then .un1
  else if k = 12 then .un2 else if k = 13 then .rel else .done
def toCl (c : Ce) : Cl := ⟨c.left.toNat, c.right.toNat, c.lock.toNat, c.gone⟩
def toPr (x : Po) : Pr := ⟨kdOf x.kind, phOf x.phase, x.cell.toNat, x.pred.toNat, x.succ.toNat, x.next.toNat, x.res⟩
def toSt (l : Ls) : St := ⟨fun i => toCl (l.at_ i), fun p => toPr (l.pr p)⟩
def Ls.setC (l : Ls) (i : Nat) (c : Ce) : Ls := { l with cs := l.cs.set i c }
def Ls.setP (l : Ls) (p : Nat) (x : Po) : Ls := { l with ps := l.ps.set p x }
def Ls.free (l : Ls) (p : Nat) : Ls := { l with cs := l.cs.map (fun c => if c.lock = (p : Int) + 1 then { c with lock := 0 } else c) }
/-- A step of an active process; none: it waits. -/
def stepV (l : Ls) (p : Nat) : Option Ls :=
  let x := l.pr p
  let pd := x.pred.toNat
  let sc := x.succ.toNat
  let ce := x.cell.toNat
  let nx := x.next.toNat
  if x.phase = 1 then
    if blw l sc ce = true then some (l.setP p { x with pred := x.succ, succ := (l.at_ sc).right })
    else some (l.setP p { x with phase := if x.kind = 3 then 4 else 2 })
  else if x.phase = 2 then
    if (l.at_ pd).lock ≠ 0 then none else some ((l.setC pd { l.at_ pd with lock := (p : Int) + 1 }).setP p { x with phase := 3 })
  else if x.phase = 3 then
    if (l.at_ sc).lock ≠ 0 then none else some ((l.setC sc { l.at_ sc with lock := (p : Int) + 1 }).setP p { x with phase := 4 })
  else if x.phase = 4 then
    if x.kind = 3 then some (l.setP p { x with res := decide (x.succ = x.cell) && !(l.at_ ce).gone, phase := 18 })
    else if (l.at_ pd).gone = true ∨ (l.at_ sc).gone = true ∨ (l.at_ pd).right ≠ x.succ then some (l.setP p { x with phase := 5 })
    else if x.kind = 1 ∧ x.succ ≠ x.cell then some (l.setP p { x with phase := 6 })
    else if x.kind = 2 ∧ x.succ = x.cell then some (l.setP p { x with phase := 9 })
    else some (l.setP p { x with phase := 13 })
  else if x.phase = 5 then some ((l.free p).setP p { x with pred := 0, succ := (l.at_ 0).right, phase := 1 })
  else if x.phase = 6 then some ((l.setC ce { l.at_ ce with left := x.pred, right := x.succ }).setP p { x with phase := 7 })
  else if x.phase = 7 then
    let l1 := l.setC pd { l.at_ pd with right := x.cell }
    some ((l1.setC ce { l1.at_ ce with gone := false }).setP p { x with phase := 8 })
  else if x.phase = 8 then some ((l.setC sc { l.at_ sc with left := x.cell }).setP p { x with res := true, phase := 13 })
  else if x.phase = 9 then
    let n := (l.at_ ce).right
    if (l.at_ n.toNat).lock ≠ 0 then none else some ((l.setC n.toNat { l.at_ n.toNat with lock := (p : Int) + 1 }).setP p { x with next := n, phase := 10 })
  else if x.phase = 10 then some ((l.setC ce { l.at_ ce with gone := true }).setP p { x with phase := 11 })
  else if x.phase = 11 then some ((l.setC pd { l.at_ pd with right := x.next }).setP p { x with phase := 12 })
  else if x.phase = 12 then some ((l.setC nx { l.at_ nx with left := x.pred }).setP p { x with res := true, phase := 13 })
  else if x.phase = 13 then some ((l.free p).setP p { x with phase := 18 })
  else none
theorem getD_set {α : Type} (l : List α) (i j : Nat) (x z : α) (h : i < l.length) : (l.set i x).getD j z = if j = i then x else l.getD j z := by
  rw [List.getD_eq_getElem?_getD, List.getD_eq_getElem?_getD, List.getElem?_set]
  by_cases e : i = j
  · subst e; simp [h]
  · rw [if_neg e, if_neg (Ne.symm e)]
theorem Ls.at_setC (l : Ls) {i : Nat} (h : i < l.cs.length) (c : Ce) (j : Nat) : (l.setC i c).at_ j = if j = i then c else l.at_ j := getD_set _ _ _ _ _ h
theorem Ls.pr_setP (l : Ls) {p : Nat} (h : p < l.ps.length) (x : Po) (j : Nat) : (l.setP p x).pr j = if j = p then x else l.pr j := getD_set _ _ _ _ _ h
theorem Ls.at_setP (l : Ls) (p : Nat) (x : Po) (j : Nat) : (l.setP p x).at_ j = l.at_ j := rfl
theorem Ls.pr_setC (l : Ls) (i : Nat) (c : Ce) (j : Nat) : (l.setC i c).pr j = l.pr j := rfl
theorem Ls.at_free (l : Ls) (p j : Nat) : (l.free p).at_ j = if (l.at_ j).lock = (p : Int) + 1 then { l.at_ j with lock := 0 } else l.at_ j := by
  unfold Ls.at_ Ls.free
  simp only [List.getD_eq_getElem?_getD, List.getElem?_map]
  cases h : l.cs[j]? with
  | none =>
    show Ce.zero = if Ce.zero.lock = (p : Int) + 1 then _ else Ce.zero
    have hz : ¬ Ce.zero.lock = (p : Int) + 1 := by
      show ¬ (0 : Int) = (p : Int) + 1
      omega
    rw [if_neg hz]
  | some c => simp
theorem Ls.len_setC (l : Ls) (i : Nat) (c : Ce) : (l.setC i c).cs.length = l.cs.length := List.length_set ..
theorem Ls.len_setP (l : Ls) (p : Nat) (x : Po) : (l.setP p x).ps.length = l.ps.length := List.length_set ..
theorem Ls.len_free (l : Ls) (p : Nat) : (l.free p).cs.length = l.cs.length := List.length_map ..
theorem toSt_setC (l : Ls) {i : Nat} (h : i < l.cs.length) (c : Ce) : toSt (l.setC i c) = (toSt l).setC i (toCl c) := by
  unfold toSt St.setC
  congr 1
  funext j
  rw [Ls.at_setC l h]
  split <;> rfl
theorem toSt_setP (l : Ls) {p : Nat} (h : p < l.ps.length) (x : Po) : toSt (l.setP p x) = (toSt l).setP p (toPr x) := by
  unfold toSt St.setP
  congr 1
  funext j
  rw [Ls.pr_setP l h]
  split <;> rfl
theorem toSt_free (l : Ls) (p : Nat) : toSt (l.free p) = (toSt l).free p := by
  unfold toSt St.free
  congr 1
  funext j
  rw [Ls.at_free]
  show toCl (if _ then _ else _) = if (l.at_ j).lock.toNat = p + 1 then _ else _
  by_cases h : (l.at_ j).lock = (p : Int) + 1
  · rw [if_pos h, if_pos (by omega)]; rfl
  · rw [if_neg h, if_neg (by omega)]
theorem toSt_CP (l : Ls) {i : Nat} (h : i < l.cs.length) (c : Ce) {p : Nat} (hp : p < l.ps.length) (x : Po) : toSt ((l.setC i c).setP p x) = ((toSt l).setC i (toCl c)).setP p (toPr x) := by
  rw [toSt_setP _ (show p < (l.setC i c).ps.length from hp), toSt_setC l h]
theorem toSt_CCP (l : Ls) {i j : Nat} (h : i < l.cs.length) (c : Ce) (hj : j < l.cs.length) (d : Ce) {p : Nat} (hp : p < l.ps.length) (x : Po) : toSt (((l.setC i c).setC j d).setP p x) = (((toSt l).setC i (toCl c)).setC j (toCl d)).setP p (toPr x) := by
  rw [toSt_CP (l.setC i c) (by rw [Ls.len_setC]; exact hj) d (show p < (l.setC i c).ps.length from hp), toSt_setC l h]
theorem toSt_FP (l : Ls) {p : Nat} (hp : p < l.ps.length) (x : Po) : toSt ((l.free p).setP p x) = ((toSt l).free p).setP p (toPr x) := by
  rw [toSt_setP _ (show p < (l.free p).ps.length from hp), toSt_free l]
theorem kd_none {k : Int} (h0 : 0 ≤ k) (h3 : k ≤ 3) : kdOf k = .none ↔ k = 0 := by
  rcases (by omega : k = 0 ∨ k = 1 ∨ k = 2 ∨ k = 3) with rfl | rfl | rfl | rfl <;> decide
theorem kd_all (k : Int) : (kdOf k = .ins ↔ k = 1) ∧ (kdOf k = .rem ↔ k = 2) ∧ (kdOf k = .fnd ↔ k = 3) := by
  unfold kdOf
  by_cases h1 : k = 1
  · subst h1; decide
  · by_cases h2 : k = 2
    · subst h2; decide
    · by_cases h3 : k = 3
      · subst h3; decide
      · simp [h1, h2, h3]
theorem kd_ins (k : Int) : kdOf k = .ins ↔ k = 1 := (kd_all k).1
theorem kd_rem (k : Int) : kdOf k = .rem ↔ k = 2 := (kd_all k).2.1
theorem kd_fnd (k : Int) : kdOf k = .fnd ↔ k = 3 := (kd_all k).2.2
theorem nat_eq {a b : Int} (ha : 0 ≤ a) (hb : 0 ≤ b) : a.toNat = b.toNat ↔ a = b := by omega
/-- THE STEP is that of the plain state. -/
theorem step_st {l : Ls} (v : Vld l) {p : Nat} (hp : p < l.ps.length) : stp (rnk l) (toSt l) p = (stepV l p).map toSt := by
  obtain ⟨hc0, hc⟩ := v.ce p hp
  obtain ⟨hd0, hd⟩ := v.pd p hp
  obtain ⟨hs0, hs⟩ := v.sc p hp
  obtain ⟨hn0, hn⟩ := v.nx p hp
  have hP : (toSt l).p p = toPr (l.pr p) := rfl
  have hC : ∀ i, (toSt l).c i = toCl (l.at_ i) := fun _ => rfl
  have hb := rnk_iff v (a := (l.pr p).succ.toNat) (b := (l.pr p).cell.toNat) (by omega) (by omega)
  have hlk : ∀ i, i < l.cs.length → ((l.at_ i).lock.toNat ≠ 0 ↔ (l.at_ i).lock ≠ 0) := fun i hi => by have := v.lk i hi; omega
  have hrg := v.rg (l.pr p).pred.toNat (by omega)
  have hrc := v.rg (l.pr p).cell.toNat (by omega)
  have hph := v.ph p hp
  have hst : stepV l p = stepV l p := rfl
  generalize hx : l.pr p = x at *
  obtain ⟨kind, cell, phase, pred, succ, next, res⟩ := x
  simp only at *
  have hpd : pred.toNat < l.cs.length := by omega
  have hsd : succ.toNat < l.cs.length := by omega
  have hcd : cell.toNat < l.cs.length := by omega
  have hnd : next.toNat < l.cs.length := by omega
  have hrd : (l.at_ cell.toNat).right.toNat < l.cs.length := by omega
  have e1 := nat_eq hs0 hc0
  have e2 := nat_eq hrg.1 hs0
  have hq : phase = 18 ∨ phase = 0 ∨ phase = 1 ∨ phase = 2 ∨ phase = 3 ∨ phase = 4 ∨ phase = 5 ∨ phase = 6 ∨ phase = 7 ∨ phase = 8 ∨ phase = 9 ∨ phase = 10 ∨ phase = 11 ∨ phase = 12 ∨ phase = 13 := by omega
  unfold stp stepV
  rw [hx, hP]
  rcases hq with rfl | rfl | rfl | rfl | rfl | rfl | rfl | rfl | rfl | rfl | rfl | rfl | rfl | rfl | rfl
  · simp [toPr, phOf]
  · simp [toPr, phOf]
  · simp only [toPr, phOf]
    by_cases h : blw l succ.toNat cell.toNat = true
    · simp [h, hb.1 h, toSt_setP l hp, hC, toCl, toPr, phOf]
    · have hn2 : ¬ rnk l succ.toNat < rnk l cell.toNat := fun k => h (hb.2 k)
      simp only [h, hn2]
      by_cases k : kind = 3
      · subst k; simp [toSt_setP l hp, toPr, phOf, kdOf]
      · have k2 : ¬ kdOf kind = .fnd := fun e => k ((kd_fnd kind).1 e)
        simp [k, k2, toSt_setP l hp, toPr, phOf]
  · by_cases k : (l.at_ pred.toNat).lock = 0
    · have k2 : ¬ ((toSt l).c pred.toNat).lock ≠ 0 := by show ¬ (l.at_ pred.toNat).lock.toNat ≠ 0; rw [k]; simp
      show (if ((toSt l).c pred.toNat).lock ≠ 0 then none else some _) = Option.map toSt (if (l.at_ pred.toNat).lock ≠ 0 then none else some _)
      rw [if_neg k2, if_neg (not_not_intro k), Option.map_some, toSt_CP l hpd _ hp]
      rfl
    · have k2 : ((toSt l).c pred.toNat).lock ≠ 0 := (hlk _ hpd).2 k
      show (if ((toSt l).c pred.toNat).lock ≠ 0 then none else some _) = Option.map toSt (if (l.at_ pred.toNat).lock ≠ 0 then none else some _)
      rw [if_pos k2, if_pos k]
      rfl
  · by_cases k : (l.at_ succ.toNat).lock = 0
    · have k2 : ¬ ((toSt l).c succ.toNat).lock ≠ 0 := by show ¬ (l.at_ succ.toNat).lock.toNat ≠ 0; rw [k]; simp
      show (if ((toSt l).c succ.toNat).lock ≠ 0 then none else some _) = Option.map toSt (if (l.at_ succ.toNat).lock ≠ 0 then none else some _)
      rw [if_neg k2, if_neg (not_not_intro k), Option.map_some, toSt_CP l hsd _ hp]
      rfl
    · have k2 : ((toSt l).c succ.toNat).lock ≠ 0 := (hlk _ hsd).2 k
      show (if ((toSt l).c succ.toNat).lock ≠ 0 then none else some _) = Option.map toSt (if (l.at_ succ.toNat).lock ≠ 0 then none else some _)
      rw [if_pos k2, if_pos k]
      rfl
  · by_cases k3 : kind = 3
    · subst k3
      show some ((toSt l).setP p { toPr _ with res := decide (succ.toNat = cell.toNat) && !(l.at_ cell.toNat).gone, ph := .done }) = Option.map toSt (some _)
      rw [Option.map_some, toSt_setP l hp, decide_eq_decide.2 e1]
      rfl
    · have k3' : ¬ kdOf kind = .fnd := fun e => k3 ((kd_fnd kind).1 e)
      show (if kdOf kind = .fnd then _ else if (l.at_ pred.toNat).gone = true ∨ (l.at_ succ.toNat).gone = true ∨ (l.at_ pred.toNat).right.toNat ≠ succ.toNat then some _ else if kdOf kind = .ins ∧ succ.toNat ≠ cell.toNat then some _ else if kdOf kind = .rem ∧ succ.toNat = cell.toNat then some _ else some _) = Option.map toSt (if kind = 3 then _ else if (l.at_ pred.toNat).gone = true ∨ (l.at_ succ.toNat).gone = true ∨ (l.at_ pred.toNat).right ≠ succ then some _ else if kind = 1 ∧ succ ≠ cell then some _ else if kind = 2 ∧ succ = cell then some _ else some _)
      rw [if_neg k3, if_neg k3']
      by_cases q1 : (l.at_ pred.toNat).gone = true ∨ (l.at_ succ.toNat).gone = true ∨ (l.at_ pred.toNat).right ≠ succ
      · rw [if_pos q1, if_pos (by rcases q1 with q | q | q; exact .inl q; exact .inr (.inl q); exact .inr (.inr (fun e => q (e2.1 e)))), Option.map_some, toSt_setP l hp]
        rfl
      · rw [if_neg q1, if_neg (fun h => q1 (by rcases h with q | q | q; exact .inl q; exact .inr (.inl q); exact .inr (.inr (fun e => q (e2.2 e)))))]
        by_cases q2 : kind = 1 ∧ succ ≠ cell
        · rw [if_pos q2, if_pos ⟨(kd_ins kind).2 q2.1, fun e => q2.2 (e1.1 e)⟩, Option.map_some, toSt_setP l hp]
          rfl
        · rw [if_neg q2, if_neg (fun h => q2 ⟨(kd_ins kind).1 h.1, fun e => h.2 (e1.2 e)⟩)]
          by_cases q3 : kind = 2 ∧ succ = cell
          · rw [if_pos q3, if_pos ⟨(kd_rem kind).2 q3.1, e1.2 q3.2⟩, Option.map_some, toSt_setP l hp]
            rfl
          · rw [if_neg q3, if_neg (fun h => q3 ⟨(kd_rem kind).1 h.1, e1.1 h.2⟩), Option.map_some, toSt_setP l hp]
            rfl
  · show some _ = Option.map toSt (some _)
    rw [Option.map_some, toSt_FP l hp]
    rfl
  · show some _ = Option.map toSt (some _)
    rw [Option.map_some, toSt_CP l hcd _ hp]
    rfl
  · have hs1 := toSt_setC l hpd { l.at_ pred.toNat with right := cell }
    show some ((((toSt l).setC pred.toNat (toCl { l.at_ pred.toNat with right := cell })).setC cell.toNat { ((toSt l).setC pred.toNat (toCl { l.at_ pred.toNat with right := cell })).c cell.toNat with gone := false }).setP p _) = Option.map toSt (some _)
    rw [Option.map_some, toSt_CP (l.setC pred.toNat { l.at_ pred.toNat with right := cell }) (by rw [Ls.len_setC]; exact hcd) _ hp, ← hs1]
    rfl
  · show some _ = Option.map toSt (some _)
    rw [Option.map_some, toSt_CP l hsd _ hp]
    rfl
  · by_cases k : (l.at_ (l.at_ cell.toNat).right.toNat).lock = 0
    · have k2 : ¬ ((toSt l).c (l.at_ cell.toNat).right.toNat).lock ≠ 0 := by show ¬ (l.at_ (l.at_ cell.toNat).right.toNat).lock.toNat ≠ 0; rw [k]; simp
      show (if ((toSt l).c (l.at_ cell.toNat).right.toNat).lock ≠ 0 then none else some _) = Option.map toSt (if (l.at_ (l.at_ cell.toNat).right.toNat).lock ≠ 0 then none else some _)
      rw [if_neg k2, if_neg (not_not_intro k), Option.map_some, toSt_CP l hrd _ hp]
      rfl
    · have k2 : ((toSt l).c (l.at_ cell.toNat).right.toNat).lock ≠ 0 := (hlk _ hrd).2 k
      show (if ((toSt l).c (l.at_ cell.toNat).right.toNat).lock ≠ 0 then none else some _) = Option.map toSt (if (l.at_ (l.at_ cell.toNat).right.toNat).lock ≠ 0 then none else some _)
      rw [if_pos k2, if_pos k]
      rfl
  · show some _ = Option.map toSt (some _)
    rw [Option.map_some, toSt_CP l hcd _ hp]
    rfl
  · show some _ = Option.map toSt (some _)
    rw [Option.map_some, toSt_CP l hpd _ hp]
    rfl
  · show some _ = Option.map toSt (some _)
    rw [Option.map_some, toSt_CP l hnd _ hp]
    rfl
  · show some _ = Option.map toSt (some _)
    rw [Option.map_some, toSt_FP l hp]
    rfl
end Lk
end
section
open Go.RowKit Go.Maps

namespace Lk
/-- Start on a list as it is written. -/
def begV (l : Ls) (p : Nat) (k c : Int) : Ls := l.setP p ⟨k, c, 1, 0, (l.at_ 0).right, 0, false⟩
theorem beg_st {l : Ls} {p : Nat} (hp : p < l.ps.length) {k c : Int} : toSt (begV l p k c) = beg (toSt l) p (kdOf k) c.toNat := by
  unfold begV
  rw [toSt_setP l hp]
  rfl
/-- What a change of cells or of one process may do and leave the list valid. -/
theorem vld_setP {l : Ls} (v : Vld l) {p : Nat} (hp : p < l.ps.length) {x : Po} (h1 : 0 ≤ x.cell ∧ x.cell < l.cs.length) (h2 : 0 ≤ x.pred ∧ x.pred < l.cs.length) (h3 : 0 ≤ x.succ ∧ x.succ < l.cs.length) (h4 : 0 ≤ x.next ∧ x.next < l.cs.length) (h5 : 0 ≤ x.kind ∧ x.kind ≤ 3) (h6 : x.phase = 18 ∨ (0 ≤ x.phase ∧ x.phase ≤ 13)) (h7 : x.kind = 0 ↔ x.phase = 0) : Vld (l.setP p x) where
  n2 := v.n2
  n66 := v.n66
  m1 := by rw [Ls.len_setP]; exact v.m1
  m8 := by rw [Ls.len_setP]; exact v.m8
  e0 := v.e0
  e1 := v.e1
  vk := v.vk
  df := v.df
  lf := v.lf
  rg := v.rg
  lk i hi := by rw [Ls.len_setP]; exact v.lk i hi
  ce q hq := by rw [Ls.len_setP] at hq; rw [Ls.pr_setP l hp]; split; exact h1; exact v.ce q hq
  pd q hq := by rw [Ls.len_setP] at hq; rw [Ls.pr_setP l hp]; split; exact h2; exact v.pd q hq
  sc q hq := by rw [Ls.len_setP] at hq; rw [Ls.pr_setP l hp]; split; exact h3; exact v.sc q hq
  nx q hq := by rw [Ls.len_setP] at hq; rw [Ls.pr_setP l hp]; split; exact h4; exact v.nx q hq
  kd q hq := by rw [Ls.len_setP] at hq; rw [Ls.pr_setP l hp]; split; exact h5; exact v.kd q hq
  ph q hq := by rw [Ls.len_setP] at hq; rw [Ls.pr_setP l hp]; split; exact h6; exact v.ph q hq
  id q hq := by rw [Ls.len_setP] at hq; rw [Ls.pr_setP l hp]; split; exact h7; exact v.id q hq
theorem vld_cells {l l' : Ls} (v : Vld l) (hn : l'.cs.length = l.cs.length) (hps : l'.ps = l.ps) (hk : ∀ i, (l'.at_ i).key = (l.at_ i).key) (hl : ∀ i, i < l.cs.length → 0 ≤ (l'.at_ i).left ∧ (l'.at_ i).left < l.cs.length) (hr : ∀ i, i < l.cs.length → 0 ≤ (l'.at_ i).right ∧ (l'.at_ i).right < l.cs.length) (hk2 : ∀ i, i < l.cs.length → 0 ≤ (l'.at_ i).lock ∧ (l'.at_ i).lock ≤ l.ps.length) : Vld l' where
  n2 := by rw [hn]; exact v.n2
  n66 := by rw [hn]; exact v.n66
  m1 := by rw [hps]; exact v.m1
  m8 := by rw [hps]; exact v.m8
  e0 := by rw [hk]; exact v.e0
  e1 := by rw [hk]; exact v.e1
  vk i hi := by rw [hk]; rw [hn] at hi; exact v.vk i hi
  df i a hi j b hj := by rw [hk, hk]; rw [hn] at hi hj; exact v.df i a hi j b hj
  lf i hi := by rw [hn] at hi ⊢; exact hl i hi
  rg i hi := by rw [hn] at hi ⊢; exact hr i hi
  lk i hi := by rw [hn] at hi; rw [hps]; exact hk2 i hi
  ce q hq := by rw [hps] at hq; rw [hn]; unfold Ls.pr; rw [hps]; exact v.ce q hq
  pd q hq := by rw [hps] at hq; rw [hn]; unfold Ls.pr; rw [hps]; exact v.pd q hq
  sc q hq := by rw [hps] at hq; rw [hn]; unfold Ls.pr; rw [hps]; exact v.sc q hq
  nx q hq := by rw [hps] at hq; rw [hn]; unfold Ls.pr; rw [hps]; exact v.nx q hq
  kd q hq := by rw [hps] at hq; unfold Ls.pr; rw [hps]; exact v.kd q hq
  ph q hq := by rw [hps] at hq; unfold Ls.pr; rw [hps]; exact v.ph q hq
  id q hq := by rw [hps] at hq; unfold Ls.pr; rw [hps]; exact v.id q hq
theorem vld_setC {l : Ls} (v : Vld l) {i : Nat} (hi : i < l.cs.length) {c : Ce} (hk : c.key = (l.at_ i).key) (h1 : 0 ≤ c.left ∧ c.left < l.cs.length) (h2 : 0 ≤ c.right ∧ c.right < l.cs.length) (h3 : 0 ≤ c.lock ∧ c.lock ≤ l.ps.length) : Vld (l.setC i c) :=
  vld_cells v (Ls.len_setC ..) rfl (fun j => by rw [Ls.at_setC l hi]; split; (rename_i e; rw [e]; exact hk); rfl)
    (fun j hj => by rw [Ls.at_setC l hi]; split; exact h1; exact v.lf j hj)
    (fun j hj => by rw [Ls.at_setC l hi]; split; exact h2; exact v.rg j hj)
    (fun j hj => by rw [Ls.at_setC l hi]; split; exact h3; exact v.lk j hj)
theorem vld_free {l : Ls} (v : Vld l) (p : Nat) : Vld (l.free p) :=
  vld_cells v (Ls.len_free ..) rfl (fun j => by rw [Ls.at_free]; split <;> rfl)
    (fun j hj => by rw [Ls.at_free]; split; exact v.lf j hj; exact v.lf j hj)
    (fun j hj => by rw [Ls.at_free]; split; exact v.rg j hj; exact v.rg j hj)
    (fun j hj => by rw [Ls.at_free]; split; (refine ⟨Int.le_refl _, ?_⟩; show (0 : Int) ≤ _; omega); exact v.lk j hj)
theorem beg_vld {l : Ls} (v : Vld l) {p : Nat} (hp : p < l.ps.length) {k c : Int} (hc : 0 ≤ c ∧ c < l.cs.length) (hk : 1 ≤ k ∧ k ≤ 3) : Vld (begV l p k c) := by
  have hn := v.n2
  exact vld_setP v hp hc ⟨Int.le_refl _, by show (0 : Int) < _; omega⟩ (v.rg 0 (by omega)) ⟨Int.le_refl _, by show (0 : Int) < _; omega⟩ ⟨by show 0 ≤ k; omega, hk.2⟩ (.inr ⟨by show (0 : Int) ≤ 1; omega, by show (1 : Int) ≤ 13; omega⟩) ⟨fun e => by have : k = 0 := e; omega, fun e => by have : (1 : Int) = 0 := e; omega⟩
/-- What a step leaves as it is. -/
structure Kin (l l' : Ls) : Prop where
  n : l'.cs.length = l.cs.length
  m : l'.ps.length = l.ps.length
  k : ∀ i, (l'.at_ i).key = (l.at_ i).key
theorem Kin.rnk {l l' : Ls} (h : Kin l l') : rnk l' = rnk l := funext fun i => rnk_keys h.k h.n i
theorem Kin.setP {l l' : Ls} (h : Kin l l') (p : Nat) (x : Po) : Kin l (l'.setP p x) := ⟨h.n, by rw [Ls.len_setP]; exact h.m, h.k⟩
theorem Kin.refl (l : Ls) : Kin l l := ⟨rfl, rfl, fun _ => rfl⟩
theorem Kin.setC {l l' : Ls} (h : Kin l l') {i : Nat} (hi : i < l'.cs.length) {c : Ce} (hk : c.key = (l'.at_ i).key) : Kin l (l'.setC i c) :=
  ⟨by rw [Ls.len_setC]; exact h.n, h.m, fun j => by rw [Ls.at_setC l' hi]; split; (rename_i e; rw [e, hk]; exact h.k i); exact h.k j⟩
theorem Kin.free {l l' : Ls} (h : Kin l l') (p : Nat) : Kin l (l'.free p) :=
  ⟨by rw [Ls.len_free]; exact h.n, h.m, fun j => by rw [Ls.at_free]; split <;> exact h.k j⟩
theorem step_vld {l l' : Ls} (v : Vld l) {p : Nat} (hp : p < l.ps.length) (h : stepV l p = some l') : Vld l' ∧ Kin l l' := by
  have hce := v.ce p hp
  have hpd := v.pd p hp
  have hsc := v.sc p hp
  have hnx := v.nx p hp
  have hkd := v.kd p hp
  have hid := v.id p hp
  have hm := v.m1
  have hn2 := v.n2
  unfold stepV at h
  generalize l.pr p = x at *
  obtain ⟨kind, cell, phase, pred, succ, next, res⟩ := x
  simp only at *
  have ipd : pred.toNat < l.cs.length := by omega
  have isc : succ.toNat < l.cs.length := by omega
  have ice : cell.toNat < l.cs.length := by omega
  have inx : next.toNat < l.cs.length := by omega
  have hk0 : phase ≠ 0 → kind ≠ 0 := fun a b => a (hid.1 b)
  have hrs := v.rg succ.toNat isc
  have hrc := v.rg cell.toNat ice
  have hr0 := v.rg 0 (by omega)
  have irc : (l.at_ cell.toNat).right.toNat < l.cs.length := by omega
  have hz : (0 : Int) ≤ 0 ∧ (0 : Int) < l.cs.length := ⟨Int.le_refl _, by omega⟩
  have hpm : 0 ≤ (p : Int) + 1 ∧ (p : Int) + 1 ≤ l.ps.length := ⟨by omega, by omega⟩
  have P : ∀ {l1 : Ls}, Vld l1 → Kin l l1 → ∀ (x : Po), phase ≠ 0 → x.kind = kind → (0 ≤ x.cell ∧ x.cell < l.cs.length) → (0 ≤ x.pred ∧ x.pred < l.cs.length) → (0 ≤ x.succ ∧ x.succ < l.cs.length) → (0 ≤ x.next ∧ x.next < l.cs.length) → (x.phase = 18 ∨ (1 ≤ x.phase ∧ x.phase ≤ 13)) → some (l1.setP p x) = some l' → Vld l' ∧ Kin l l' := by
    intro l1 v1 k1 x f0 a1 a2 a3 a4 a5 a6 e
    injection e with e
    subst e
    rw [← k1.n] at a2 a3 a4 a5
    exact ⟨vld_setP v1 (by rw [k1.m]; exact hp) a2 a3 a4 a5 (by rw [a1]; exact hkd) (by omega) (by rw [a1]; have := hk0 f0; omega), k1.setP p x⟩
  have C : ∀ {l1 : Ls}, Vld l1 → Kin l l1 → ∀ (i : Nat) (c : Ce), i < l.cs.length → c.key = (l1.at_ i).key → (0 ≤ c.left ∧ c.left < l.cs.length) → (0 ≤ c.right ∧ c.right < l.cs.length) → (0 ≤ c.lock ∧ c.lock ≤ l.ps.length) → Vld (l1.setC i c) ∧ Kin l (l1.setC i c) := by
    intro l1 v1 k1 i c a0 a1 a2 a3 a4
    rw [← k1.n] at a0 a2 a3
    rw [← k1.m] at a4
    exact ⟨vld_setC v1 a0 a1 a2 a3 a4, k1.setC a0 a1⟩
  have L := fun i hi => v.lf i hi
  have R := fun i hi => v.rg i hi
  have K := fun i hi => v.lk i hi
  have k0 := Kin.refl l
  have fv := vld_free v p
  have fk := k0.free p
  by_cases f1 : phase = 1
  · rw [if_pos f1] at h
    by_cases g : blw l succ.toNat cell.toNat = true
    · rw [if_pos g] at h
      exact P v k0 _ (by omega) rfl hce hsc hrs hnx (.inr (by show 1 ≤ phase ∧ phase ≤ 13; omega)) h
    · rw [if_neg g] at h
      exact P v k0 _ (by omega) rfl hce hpd hsc hnx (.inr (by show 1 ≤ (if kind = 3 then (4 : Int) else 2) ∧ (if kind = 3 then (4 : Int) else 2) ≤ 13; split <;> omega)) h
  rw [if_neg f1] at h
  by_cases f2 : phase = 2
  · rw [if_pos f2] at h
    by_cases g : (l.at_ pred.toNat).lock ≠ 0
    · rw [if_pos g] at h; cases h
    · rw [if_neg g] at h
      have c := C v k0 _ { l.at_ pred.toNat with lock := (p : Int) + 1 } ipd rfl (L _ ipd) (R _ ipd) hpm
      exact P c.1 c.2 _ (by omega) rfl hce hpd hsc hnx (.inr (by show (1 : Int) ≤ 3 ∧ (3 : Int) ≤ 13; omega)) h
  rw [if_neg f2] at h
  by_cases f3 : phase = 3
  · rw [if_pos f3] at h
    by_cases g : (l.at_ succ.toNat).lock ≠ 0
    · rw [if_pos g] at h; cases h
    · rw [if_neg g] at h
      have c := C v k0 _ { l.at_ succ.toNat with lock := (p : Int) + 1 } isc rfl (L _ isc) (R _ isc) hpm
      exact P c.1 c.2 _ (by omega) rfl hce hpd hsc hnx (.inr (by show (1 : Int) ≤ 4 ∧ (4 : Int) ≤ 13; omega)) h
  rw [if_neg f3] at h
  by_cases f4 : phase = 4
  · rw [if_pos f4] at h
    by_cases g : kind = 3
    · rw [if_pos g] at h
      exact P v k0 _ (by omega) rfl hce hpd hsc hnx (.inl rfl) h
    rw [if_neg g] at h
    by_cases g2 : (l.at_ pred.toNat).gone = true ∨ (l.at_ succ.toNat).gone = true ∨ (l.at_ pred.toNat).right ≠ succ
    · rw [if_pos g2] at h
      exact P v k0 _ (by omega) rfl hce hpd hsc hnx (.inr (by show (1 : Int) ≤ 5 ∧ (5 : Int) ≤ 13; omega)) h
    rw [if_neg g2] at h
    by_cases g3 : kind = 1 ∧ succ ≠ cell
    · rw [if_pos g3] at h
      exact P v k0 _ (by omega) rfl hce hpd hsc hnx (.inr (by show (1 : Int) ≤ 6 ∧ (6 : Int) ≤ 13; omega)) h
    rw [if_neg g3] at h
    by_cases g4 : kind = 2 ∧ succ = cell
    · rw [if_pos g4] at h
      exact P v k0 _ (by omega) rfl hce hpd hsc hnx (.inr (by show (1 : Int) ≤ 9 ∧ (9 : Int) ≤ 13; omega)) h
    · rw [if_neg g4] at h
      exact P v k0 _ (by omega) rfl hce hpd hsc hnx (.inr (by show (1 : Int) ≤ 13 ∧ (13 : Int) ≤ 13; omega)) h
  rw [if_neg f4] at h
  by_cases f5 : phase = 5
  · rw [if_pos f5] at h
    exact P fv fk _ (by omega) rfl hce hz hr0 hnx (.inr (by show (1 : Int) ≤ 1 ∧ (1 : Int) ≤ 13; omega)) h
  rw [if_neg f5] at h
  by_cases f6 : phase = 6
  · rw [if_pos f6] at h
    have c := C v k0 _ { l.at_ cell.toNat with left := pred, right := succ } ice rfl hpd hsc (K _ ice)
    exact P c.1 c.2 _ (by omega) rfl hce hpd hsc hnx (.inr (by show (1 : Int) ≤ 7 ∧ (7 : Int) ≤ 13; omega)) h
  rw [if_neg f6] at h
  by_cases f7 : phase = 7
  · rw [if_pos f7] at h
    have c := C v k0 _ { l.at_ pred.toNat with right := cell } ipd rfl (L _ ipd) hce (K _ ipd)
    have hq := c.1
    have i2 : cell.toNat < (l.setC pred.toNat { l.at_ pred.toNat with right := cell }).cs.length := by rw [Ls.len_setC]; exact ice
    have d := C c.1 c.2 _ { (l.setC pred.toNat { l.at_ pred.toNat with right := cell }).at_ cell.toNat with gone := false } ice rfl (by have := hq.lf _ i2; rw [Ls.len_setC] at this; exact this) (by have := hq.rg _ i2; rw [Ls.len_setC] at this; exact this) (hq.lk _ i2)
    exact P d.1 d.2 _ (by omega) rfl hce hpd hsc hnx (.inr (by show (1 : Int) ≤ 8 ∧ (8 : Int) ≤ 13; omega)) h
  rw [if_neg f7] at h
  by_cases f8 : phase = 8
  · rw [if_pos f8] at h
    have c := C v k0 _ { l.at_ succ.toNat with left := cell } isc rfl hce (R _ isc) (K _ isc)
    exact P c.1 c.2 _ (by omega) rfl hce hpd hsc hnx (.inr (by show (1 : Int) ≤ 13 ∧ (13 : Int) ≤ 13; omega)) h
  rw [if_neg f8] at h
  by_cases f9 : phase = 9
  · rw [if_pos f9] at h
    by_cases g : (l.at_ (l.at_ cell.toNat).right.toNat).lock ≠ 0
    · rw [if_pos g] at h; cases h
    · rw [if_neg g] at h
      have c := C v k0 _ { l.at_ (l.at_ cell.toNat).right.toNat with lock := (p : Int) + 1 } irc rfl (L _ irc) (R _ irc) hpm
      exact P c.1 c.2 _ (by omega) rfl hce hpd hsc hrc (.inr (by show (1 : Int) ≤ 10 ∧ (10 : Int) ≤ 13; omega)) h
  rw [if_neg f9] at h
  by_cases f10 : phase = 10
  · rw [if_pos f10] at h
    have c := C v k0 _ { l.at_ cell.toNat with gone := true } ice rfl (L _ ice) (R _ ice) (K _ ice)
    exact P c.1 c.2 _ (by omega) rfl hce hpd hsc hnx (.inr (by show (1 : Int) ≤ 11 ∧ (11 : Int) ≤ 13; omega)) h
  rw [if_neg f10] at h
  by_cases f11 : phase = 11
  · rw [if_pos f11] at h
    have c := C v k0 _ { l.at_ pred.toNat with right := next } ipd rfl (L _ ipd) hnx (K _ ipd)
    exact P c.1 c.2 _ (by omega) rfl hce hpd hsc hnx (.inr (by show (1 : Int) ≤ 12 ∧ (12 : Int) ≤ 13; omega)) h
  rw [if_neg f11] at h
  by_cases f12 : phase = 12
  · rw [if_pos f12] at h
    have c := C v k0 _ { l.at_ next.toNat with left := pred } inx rfl hpd (R _ inx) (K _ inx)
    exact P c.1 c.2 _ (by omega) rfl hce hpd hsc hnx (.inr (by show (1 : Int) ≤ 13 ∧ (13 : Int) ≤ 13; omega)) h
  rw [if_neg f12] at h
  by_cases f13 : phase = 13
  · rw [if_pos f13] at h
    exact P fv fk _ (by omega) rfl hce hpd hsc hnx (.inl rfl) h
  rw [if_neg f13] at h
  cases h
end Lk
end
section
open Go.RowKit Go.Maps

namespace Lk
/-- A list that New, Start and Step lead to. -/
def Led (l : Ls) : Prop := Vld l ∧ ∃ K, Ivt l.cs.length l.ps.length (rnk l) (toSt l) K
theorem led_step {l l' : Ls} (h : Led l) {p : Nat} (hp : p < l.ps.length) (e : stepV l p = some l') : Led l' := by
  obtain ⟨v, K, hi⟩ := h
  obtain ⟨v', k'⟩ := step_vld v hp e
  have hs := step_st v hp
  rw [e] at hs
  obtain ⟨K', hi'⟩ := pres (rnk_odr v) hi hp hs
  refine ⟨v', K', ?_⟩
  rw [k'.rnk, k'.n, k'.m]
  exact hi'
theorem ph_idle {x : Po} (h : x.phase = 0 ∨ x.phase = 18) : (toPr x).ph = .idle ∨ (toPr x).ph = .done := by
  show phOf x.phase = _ ∨ phOf x.phase = _
  rcases h with h | h <;> rw [h]
  · exact .inl rfl
  · exact .inr rfl
theorem beg_kin (l : Ls) (p : Nat) (k c : Int) : Kin l (begV l p k c) := (Kin.refl l).setP p _
theorem led_beg {l : Ls} (h : Led l) {p : Nat} (hp : p < l.ps.length) {k c : Int} (hc : 2 ≤ c ∧ c < l.cs.length) (hk : 1 ≤ k ∧ k ≤ 3) (ha : (l.pr p).phase = 0 ∨ (l.pr p).phase = 18) : Led (begV l p k c) := by
  obtain ⟨v, K, hi⟩ := h
  have k' := beg_kin l p k c
  refine ⟨beg_vld v hp ⟨by omega, hc.2⟩ hk, K, ?_⟩
  rw [k'.rnk, k'.n, k'.m, beg_st hp]
  refine pres_beg (rnk_odr v) hi hp (ph_idle ha) ?_ (by omega) (by omega)
  intro e
  have := (kd_none (by omega) hk.2).1 e
  omega
/-- The chain from a cell to the tail; none: it does not ascend to it. -/
def chnV (l : Ls) : Nat → Nat → Option (List Nat)
  | 0, _ => none
  | f + 1, a => if a = 1 then some [1] else if blw l a (l.at_ a).right.toNat = true then (chnV l f (l.at_ a).right.toNat).map (a :: ·) else none
theorem chn_led {l : Ls} (v : Vld l) {K : Nat → Prop} (hi : Ivt l.cs.length l.ps.length (rnk l) (toSt l) K) : ∀ f a, K a → l.cs.length ≤ rnk l a + f → ∃ ch, chnV l f a = some ch ∧ (∀ i, i ∈ ch ↔ K i ∧ rnk l a ≤ rnk l i) ∧ ch.head? = some a
  | 0, a, ka, hf => by have := rnk_n (hi.kn a ka); omega
  | f + 1, a, ka, hf => by
    have o := rnk_odr v
    have ha := hi.kn a ka
    unfold chnV
    by_cases h1 : a = 1
    · subst h1
      refine ⟨[1], if_pos rfl, fun i => ⟨fun h => ?_, fun h => ?_⟩, rfl⟩
      · obtain rfl : i = 1 := by simpa using h
        exact ⟨ka, Nat.le_refl _⟩
      · by_cases e : i = 1
        · subst e; simp
        · have := o.lst i (hi.kn i h.1) e
          omega
    · obtain ⟨k1, k2, k3⟩ := hi.kR a ka h1
      have hb : blw l a (l.at_ a).right.toNat = true := (rnk_iff v ha (hi.kn _ k1)).2 k2
      obtain ⟨ch, hc, hm, -⟩ := chn_led v hi f (l.at_ a).right.toNat k1 (by have : rnk l a < rnk l (l.at_ a).right.toNat := k2; omega)
      refine ⟨a :: ch, by rw [if_neg h1, if_pos hb, hc]; rfl, fun i => ?_, rfl⟩
      rw [List.mem_cons, hm]
      constructor
      · rintro (rfl | ⟨h2, h3⟩)
        · exact ⟨ka, Nat.le_refl _⟩
        · have : rnk l a < rnk l (l.at_ a).right.toNat := k2
          exact ⟨h2, by omega⟩
      · rintro ⟨h2, h3⟩
        by_cases e : i = a
        · exact .inl e
        · have hne : rnk l a ≠ rnk l i := fun q => e (o.inj _ _ (hi.kn i h2) ha q.symm)
          exact .inr ⟨h2, k3 i h2 (by omega)⟩
end Lk
end
section
open Go.RowKit Go.Maps

namespace Lk
/-- Which cells a process holds. -/
def holdB (x : Po) (i : Nat) : Bool := if x.kind = 3 ∨ x.phase = 0 ∨ x.phase = 18 ∨ x.phase = 1 ∨ x.phase = 2 then false else decide (x.pred = (i : Int)) || (decide (x.succ = (i : Int)) && decide (x.phase ≠ 3)) || (decide (x.next = (i : Int)) && decide (x.next ≠ 0) && decide (10 ≤ x.phase ∧ x.phase ≤ 13))
theorem ph_of (k : Int) : (phOf k = .idle ↔ k = 0) ∧ (phOf k = .find ↔ k = 1) ∧ (phOf k = .lockP ↔ k = 2) ∧ (phOf k = .lockS ↔ k = 3) ∧ (phOf k = .un0 ↔ k = 10) ∧ (phOf k = .un1 ↔ k = 11) ∧ (phOf k = .un2 ↔ k = 12) ∧ (phOf k = .rel ↔ k = 13) := by
  by_cases h : 0 ≤ k ∧ k ≤ 13
  · have hq : k = 0 ∨ k = 1 ∨ k = 2 ∨ k = 3 ∨ k = 4 ∨ k = 5 ∨ k = 6 ∨ k = 7 ∨ k = 8 ∨ k = 9 ∨ k = 10 ∨ k = 11 ∨ k = 12 ∨ k = 13 := by omega
    rcases hq with rfl | rfl | rfl | rfl | rfl | rfl | rfl | rfl | rfl | rfl | rfl | rfl | rfl | rfl <;> decide
  · have hd : phOf k = .done := by
      unfold phOf
      simp only [show ¬ k = 0 by omega, show ¬ k = 1 by omega, show ¬ k = 2 by omega, show ¬ k = 3 by omega, show ¬ k = 4 by omega, show ¬ k = 5 by omega, show ¬ k = 6 by omega, show ¬ k = 7 by omega, show ¬ k = 8 by omega, show ¬ k = 9 by omega, show ¬ k = 10 by omega, show ¬ k = 11 by omega, show ¬ k = 12 by omega, show ¬ k = 13 by omega, if_false]
    rw [hd]
    refine ⟨⟨fun e => (by cases e), fun e => by omega⟩, ⟨fun e => (by cases e), fun e => by omega⟩, ⟨fun e => (by cases e), fun e => by omega⟩, ⟨fun e => (by cases e), fun e => by omega⟩, ⟨fun e => (by cases e), fun e => by omega⟩, ⟨fun e => (by cases e), fun e => by omega⟩, ⟨fun e => (by cases e), fun e => by omega⟩, ⟨fun e => (by cases e), fun e => by omega⟩⟩
theorem ph_done {k : Int} (h : k = 18 ∨ (0 ≤ k ∧ k ≤ 13)) : phOf k = .done ↔ k = 18 := by
  have hq : k = 18 ∨ k = 0 ∨ k = 1 ∨ k = 2 ∨ k = 3 ∨ k = 4 ∨ k = 5 ∨ k = 6 ∨ k = 7 ∨ k = 8 ∨ k = 9 ∨ k = 10 ∨ k = 11 ∨ k = 12 ∨ k = 13 := by omega
  rcases hq with rfl | rfl | rfl | rfl | rfl | rfl | rfl | rfl | rfl | rfl | rfl | rfl | rfl | rfl | rfl <;> decide
theorem holdB_iff {l : Ls} (v : Vld l) {p : Nat} (hp : p < l.ps.length) (i : Nat) : holdB (l.pr p) i = true ↔ holds ((toSt l).p p) i := by
  have h1 := v.pd p hp
  have h2 := v.sc p hp
  have h3 := v.nx p hp
  have h5 := ph_done (v.ph p hp)
  show holdB (l.pr p) i = true ↔ holds (toPr (l.pr p)) i
  generalize l.pr p = x at *
  obtain ⟨q0, q1, q2, q3, q10, q11, q12, q13⟩ := ph_of x.phase
  have qk := kd_fnd x.kind
  unfold holds
  show _ ↔ kdOf x.kind ≠ .fnd ∧ phOf x.phase ≠ .idle ∧ phOf x.phase ≠ .find ∧ phOf x.phase ≠ .lockP ∧ phOf x.phase ≠ .done ∧ (i = x.pred.toNat ∨ (i = x.succ.toNat ∧ phOf x.phase ≠ .lockS) ∨ (i = x.next.toNat ∧ x.next.toNat ≠ 0 ∧ (phOf x.phase = .un0 ∨ phOf x.phase = .un1 ∨ phOf x.phase = .un2 ∨ phOf x.phase = .rel)))
  simp only [ne_eq, q0, q1, q2, q3, q10, q11, q12, q13, qk, h5]
  unfold holdB
  by_cases c : x.kind = 3 ∨ x.phase = 0 ∨ x.phase = 18 ∨ x.phase = 1 ∨ x.phase = 2
  · rw [if_pos c]
    constructor
    · intro e; cases e
    · intro e; omega
  · rw [if_neg c]
    simp only [Bool.or_eq_true, Bool.and_eq_true, decide_eq_true_eq]
    constructor
    · intro e
      refine ⟨by omega, by omega, by omega, by omega, by omega, ?_⟩
      rcases e with (e | ⟨e1, e2⟩) | ⟨⟨e1, e2⟩, e3⟩
      · exact .inl (by omega)
      · exact .inr (.inl ⟨by omega, e2⟩)
      · exact .inr (.inr ⟨by omega, by omega, by omega⟩)
    · rintro ⟨-, -, -, -, -, e | ⟨e1, e2⟩ | ⟨e1, e2, e3⟩⟩
      · exact .inl (.inl (by omega))
      · exact .inl (.inr ⟨by omega, e2⟩)
      · exact .inr ⟨⟨by omega, by omega⟩, by omega⟩
def unlB (l : Ls) (i : Nat) : Bool := l.ps.any (fun x => decide (x.phase = 11) && decide (x.cell = (i : Int)))
/-- Each cell's Left is the cell before it. -/
def bckB (l : Ls) : List Nat → Bool
  | a :: b :: r => decide ((l.at_ b).left = (a : Int)) && bckB l (b :: r)
  | _ => true
noncomputable def vldB (l : Ls) : Bool := @decide (Vld l) (Classical.propDecidable _)
/-- What Check answers. -/
noncomputable def chkB (l : Ls) : Bool := vldB l && !(l.at_ 0).gone && !(l.at_ 1).gone && match chnV l l.cs.length 0 with
  | none => false
  | some ch => ((List.range l.cs.length).all fun i => (if (l.at_ i).gone then !ch.contains i || unlB l i else ch.contains i) && (List.range l.ps.length).all fun p => holdB (l.pr p) i == decide ((l.at_ i).lock = (p : Int) + 1)) && (!(l.cs.all fun c => decide (c.lock = 0)) || bckB l ch)
theorem chn_head {l : Ls} {f a : Nat} {ch : List Nat} (h : chnV l f a = some ch) : ∃ r, ch = a :: r := by
  cases f with
  | zero => cases h
  | succ f =>
    unfold chnV at h
    split at h
    · rename_i e
      injection h with h
      exact ⟨[], by rw [← h, e]⟩
    · split at h
      · cases hc : chnV l f (l.at_ a).right.toNat with
        | none => rw [hc] at h; cases h
        | some r => rw [hc] at h; injection h with h; exact ⟨r, h.symm⟩
      · cases h
theorem bck_chn {l : Ls} : ∀ {f a : Nat} {ch : List Nat}, chnV l f a = some ch → (∀ i, i ∈ ch → i ≠ 1 → (l.at_ (l.at_ i).right.toNat).left = (i : Int)) → bckB l ch = true
  | 0, _, _, h, _ => by cases h
  | f + 1, a, ch, h, hl => by
    unfold chnV at h
    split at h
    · injection h with h
      rw [← h]
      rfl
    · rename_i h1
      split at h
      · cases hc : chnV l f (l.at_ a).right.toNat with
        | none => rw [hc] at h; cases h
        | some r =>
          rw [hc] at h
          injection h with h
          have h : a :: r = ch := h
          obtain ⟨r2, hr⟩ := chn_head hc
          have ih := bck_chn hc (fun i hi => hl i (by rw [← h]; exact List.mem_cons_of_mem _ hi))
          rw [← h, hr]
          rw [hr] at ih
          show (decide _ && _) = true
          rw [ih, Bool.and_true, decide_eq_true_eq]
          exact hl a (by rw [← h]; exact List.mem_cons_self ..) h1
      · cases h
theorem led_chk {l : Ls} (h : Led l) : chkB l = true := by
  obtain ⟨v, K, hi⟩ := h
  have hn := v.n2
  obtain ⟨ch, hc, hm, -⟩ := chn_led v hi l.cs.length 0 hi.k0 (by omega)
  have hz : ∀ i, K i → rnk l 0 ≤ rnk l i := fun i k => by
    by_cases e : i = 0
    · subst e; omega
    · have := (rnk_odr v).fst i (hi.kn i k) e
      omega
  have hk : ∀ i, ch.contains i = true ↔ K i := fun i => by
    rw [List.contains_iff_mem, hm]
    exact ⟨fun q => q.1, fun q => ⟨q, hz i q⟩⟩
  have hg0 : (l.at_ 0).gone = false := hi.g0
  have hg1 : (l.at_ 1).gone = false := hi.g1
  have hv : vldB l = true := by unfold vldB; simp [v]
  unfold chkB
  rw [hv, hg0, hg1, hc]
  show (_ && _ && _ && (_ && _)) = true
  simp only [Bool.not_false, Bool.and_true, Bool.true_and, Bool.and_eq_true]
  refine ⟨?_, ?_⟩
  · rw [List.all_eq_true]
    intro i hin
    have hin := List.mem_range.1 hin
    rw [Bool.and_eq_true]
    constructor
    · cases hg : (l.at_ i).gone with
      | false =>
        show ch.contains i = true
        rw [hk]
        by_cases e0 : i = 0
        · subst e0; exact hi.k0
        · by_cases e1 : i = 1
          · subst e1; exact hi.k1
          · exact hi.gK i (by omega) hin hg
      | true =>
        show (!ch.contains i || unlB l i) = true
        cases hq : ch.contains i with
        | false => rfl
        | true =>
          obtain ⟨p, hp, hph, hcl⟩ := hi.gU i ((hk i).1 hq) hg
          show (false || unlB l i) = true
          rw [Bool.false_or]
          unfold unlB
          rw [List.any_eq_true]
          have hpr : l.pr p = l.ps[p] := by unfold Ls.pr; rw [List.getD_eq_getElem?_getD, List.getElem?_eq_getElem hp]; rfl
          refine ⟨l.ps[p], List.getElem_mem hp, ?_⟩
          rw [← hpr, Bool.and_eq_true, decide_eq_true_eq, decide_eq_true_eq]
          have a1 := (ph_of (l.pr p).phase).2.2.2.2.2.1.1 hph
          have a2 : (l.pr p).cell.toNat = i := hcl
          have a3 := v.ce p hp
          exact ⟨a1, by omega⟩
    · rw [List.all_eq_true]
      intro p hp
      have hp := List.mem_range.1 hp
      have h1 := hi.lk i hin p hp
      have h2 := holdB_iff v hp i
      have h3 : (l.at_ i).lock.toNat = p + 1 ↔ holds ((toSt l).p p) i := h1
      have h4 : (l.at_ i).lock = (p : Int) + 1 ↔ holdB (l.pr p) i = true := by
        rw [h2, ← h3]; omega
      rw [beq_iff_eq]
      cases hb : holdB (l.pr p) i with
      | true => rw [hb] at h4; simp [h4]
      | false => rw [hb] at h4; simp [h4]
  · cases hf : l.cs.all fun c => decide (c.lock = 0) with
    | false => rfl
    | true =>
      show (false || _) = true
      rw [Bool.false_or]
      refine bck_chn hc fun i hic h1 => ?_
      have hKi := (hm i).1 hic
      have hfr : ∀ j, j < l.cs.length → ((toSt l).c j).lock = 0 := fun j hj => by
        have hcj := (List.all_eq_true.1 hf) l.cs[j] (List.getElem_mem hj)
        have hat : l.at_ j = l.cs[j] := by unfold Ls.at_; rw [List.getD_eq_getElem?_getD, List.getElem?_eq_getElem hj]; rfl
        rw [decide_eq_true_eq, ← hat] at hcj
        show (l.at_ j).lock.toNat = 0
        omega
      have hl := free_left hi hfr i hKi.1 h1
      have hl2 : (l.at_ (l.at_ i).right.toNat).left.toNat = i := hl
      have hr := (hi.kR i hKi.1 h1).1
      have := v.lf _ (hi.kn _ hr)
      have h0 : 0 ≤ (l.at_ (l.at_ i).right.toNat).left := this.1
      omega
end Lk
end
section
open Go.RowKit Go.Maps

namespace Lk
/-- The element after one in a list, the one before; 0: there is none. -/
def nxtL : List Nat → Nat → Nat
  | a :: b :: r, x => if x = a then b else nxtL (b :: r) x
  | _, _ => 0
def prvL : List Nat → Nat → Nat
  | a :: b :: r, x => if x = b then a else prvL (b :: r) x
  | _, _ => 0
section
variable {rk : Nat → Nat}
theorem nxt_out : ∀ {L : List Nat} {x : Nat}, x ∉ L → nxtL L x = 0
  | [], _, _ => rfl
  | [_], _, _ => rfl
  | a :: b :: r, x, h => by
    show (if x = a then b else nxtL (b :: r) x) = 0
    rw [if_neg (fun e => h (by rw [e]; simp))]
    exact nxt_out (fun m => h (List.mem_cons_of_mem _ m))
theorem prv_out : ∀ {L : List Nat} {x : Nat}, x ∉ L → prvL L x = 0
  | [], _, _ => rfl
  | [_], _, _ => rfl
  | a :: b :: r, x, h => by
    show (if x = b then a else prvL (b :: r) x) = 0
    rw [if_neg (fun e => h (by rw [e]; simp))]
    exact prv_out (fun m => h (List.mem_cons_of_mem _ m))
theorem asc_ne {a : Nat} {L : List Nat} (h : (a :: L).Pairwise (fun x y => rk x < rk y)) {x : Nat} (m : x ∈ L) : x ≠ a := fun e => by
  have := (List.pairwise_cons.1 h).1 x m
  rw [e] at this
  omega
theorem nxt_in : ∀ {L : List Nat} {z x : Nat}, L.Pairwise (fun x y => rk x < rk y) → L.getLast? = some z → x ∈ L → x ≠ z → nxtL L x ∈ L ∧ rk x < rk (nxtL L x) ∧ (∀ d, d ∈ L → rk x < rk d → rk (nxtL L x) ≤ rk d) ∧ prvL L (nxtL L x) = x
  | [], _, _, _, _, m, _ => by cases m
  | [a], z, x, _, hz, m, hne => by
    have h1 : a = z := by simpa using hz
    have h2 : x = a := by simpa using m
    exact absurd (h2.trans h1) hne
  | a :: b :: r, z, x, h, hz, m, hne => by
    have hbr := (List.pairwise_cons.1 h).2
    have hab := (List.pairwise_cons.1 h).1
    have hz2 : (b :: r).getLast? = some z := by rw [← hz, List.getLast?_cons_cons]
    by_cases e : x = a
    · subst e
      have e1 : nxtL (x :: b :: r) x = b := if_pos rfl
      rw [e1]
      refine ⟨by simp, hab b (by simp), fun d hd hlt => ?_, if_pos rfl⟩
      rcases List.mem_cons.1 hd with rfl | hd
      · omega
      · rcases List.mem_cons.1 hd with rfl | hd
        · exact Nat.le_refl _
        · exact Nat.le_of_lt ((List.pairwise_cons.1 hbr).1 d hd)
    · have m2 : x ∈ b :: r := (List.mem_cons.1 m).resolve_left e
      obtain ⟨i1, i2, i3, i4⟩ := nxt_in hbr hz2 m2 hne
      have e1 : nxtL (a :: b :: r) x = nxtL (b :: r) x := if_neg e
      rw [e1]
      refine ⟨List.mem_cons_of_mem _ i1, i2, fun d hd hlt => ?_, ?_⟩
      · rcases List.mem_cons.1 hd with rfl | hd
        · have := hab x m2; omega
        · exact i3 d hd hlt
      · have hnb : nxtL (b :: r) x ≠ b := fun q => by
          rw [q] at i2
          rcases List.mem_cons.1 m2 with rfl | m3
          · omega
          · have := (List.pairwise_cons.1 hbr).1 x m3; omega
        show (if nxtL (b :: r) x = b then a else prvL (b :: r) (nxtL (b :: r) x)) = x
        rw [if_neg hnb]
        exact i4
theorem nxt_last : ∀ {L : List Nat} {z : Nat}, L.Pairwise (fun x y => rk x < rk y) → L.getLast? = some z → nxtL L z = 0
  | [], _, _, _ => rfl
  | [_], _, _, _ => rfl
  | a :: b :: r, z, h, hz => by
    have hz2 : (b :: r).getLast? = some z := by rw [← hz, List.getLast?_cons_cons]
    have hm : z ∈ b :: r := List.mem_of_getLast? hz2
    show (if z = a then b else nxtL (b :: r) z) = 0
    rw [if_neg (asc_ne h hm)]
    exact nxt_last (List.pairwise_cons.1 h).2 hz2
theorem prv_mem : ∀ {L : List Nat} {x : Nat}, prvL L x = 0 ∨ prvL L x ∈ L
  | [], _ => .inl rfl
  | [_], _ => .inl rfl
  | a :: b :: r, x => by
    show (if x = b then a else prvL (b :: r) x) = 0 ∨ (if x = b then a else prvL (b :: r) x) ∈ _
    by_cases e : x = b
    · rw [if_pos e]; exact .inr (by simp)
    · rw [if_neg e]; exact (prv_mem (L := b :: r) (x := x)).imp id (List.mem_cons_of_mem _)
end
/-- The cells from 2 on that are chosen, by their keys. -/
def memI (l : Ls) (sel : Nat → Bool) : List Nat := ((List.range l.cs.length).filter (fun i => decide (2 ≤ i) && sel i)).mergeSort (fun a b => decide (rnk l a ≤ rnk l b))
theorem mem_memI (l : Ls) (sel : Nat → Bool) (i : Nat) : i ∈ memI l sel ↔ i < l.cs.length ∧ 2 ≤ i ∧ sel i = true := by
  unfold memI
  rw [List.mem_mergeSort, List.mem_filter, List.mem_range, Bool.and_eq_true, decide_eq_true_eq]
theorem memI_asc {l : Ls} (v : Vld l) (sel : Nat → Bool) : (memI l sel).Pairwise (fun a b => rnk l a < rnk l b) := by
  have o := rnk_odr v
  have h1 : (memI l sel).Pairwise (fun a b => decide (rnk l a ≤ rnk l b) = true) := List.pairwise_mergeSort (fun a b c => by simp; omega) (fun a b => by simp; omega) _
  have h2 : (memI l sel).Nodup := by
    unfold memI
    exact (List.mergeSort_perm _ _).nodup_iff.2 ((List.nodup_range).filter _)
  have h3 : (memI l sel).Pairwise (fun a b => rnk l a ≤ rnk l b ∧ a ≠ b) := List.Pairwise.and (h1.imp (fun h => by simpa using h)) h2
  refine List.Pairwise.imp_of_mem (fun {a b} ha hb h => ?_) h3
  have ha := ((mem_memI l sel a).1 ha).1
  have hb := ((mem_memI l sel b).1 hb).1
  have : rnk l a ≠ rnk l b := fun e => h.2 (o.inj a b ha hb e)
  omega
/-- What Members answers of a valid list. -/
def memV (l : Ls) : List Nat := memI l (fun i => !(l.at_ i).gone)
end Lk
end
section
open Go.RowKit Go.Maps

namespace Lk
/-- The cells of some keys, none linked; processes that do nothing. -/
def nwB (keys : List ByteArray) (m : Nat) : Ls := ⟨Ce.zero :: Ce.zero :: keys.map (fun k => ⟨k, 0, 0, 0, false⟩), List.replicate m Po.zero⟩
/-- When New gives a list. -/
structure NwOk (keys : List ByteArray) (m : Nat) : Prop where
  n : keys.length ≤ 64
  m1 : 1 ≤ m
  m8 : m ≤ 8
  v : ∀ k, k ∈ keys → vk k = true
  d : keys.Nodup
theorem nwB_len (keys : List ByteArray) (m : Nat) : (nwB keys m).cs.length = keys.length + 2 := by simp [nwB]
theorem nwB_at (keys : List ByteArray) (m : Nat) {i : Nat} (h : i < keys.length) : (nwB keys m).at_ (i + 2) = ⟨keys[i], 0, 0, 0, false⟩ := by
  unfold nwB Ls.at_
  simp [List.getD_eq_getElem?_getD, h]
theorem nw_pr (cs : List Ce) (m p : Nat) : (Ls.mk cs (List.replicate m Po.zero)).pr p = Po.zero := by
  unfold Ls.pr
  rw [List.getD_eq_getElem?_getD, List.getElem?_replicate]
  split <;> rfl
theorem nwB_zero (keys : List ByteArray) (m i : Nat) : ((nwB keys m).at_ i).left = 0 ∧ ((nwB keys m).at_ i).right = 0 ∧ ((nwB keys m).at_ i).lock = 0 := by
  match i with
  | 0 => exact ⟨rfl, rfl, rfl⟩
  | 1 => exact ⟨rfl, rfl, rfl⟩
  | i + 2 =>
    by_cases h : i < keys.length
    · rw [nwB_at keys m h]; exact ⟨rfl, rfl, rfl⟩
    · have e : (nwB keys m).at_ (i + 2) = Ce.zero := by
        unfold Ls.at_
        rw [List.getD_eq_getElem?_getD, List.getElem?_eq_none (by rw [nwB_len]; omega)]
        rfl
      rw [e]; exact ⟨rfl, rfl, rfl⟩
theorem nwB_vld {keys : List ByteArray} {m : Nat} (h : NwOk keys m) : Vld (nwB keys m) := by
  have hn := nwB_len keys m
  have hm : (nwB keys m).ps.length = m := by simp [nwB]
  have hz := nwB_zero keys m
  have hp : ∀ p, (nwB keys m).pr p = Po.zero := fun p => nw_pr _ m p
  have h1 := h.m1
  have hx : ∀ (a b : Int), a = 0 → b ≥ 2 → 0 ≤ a ∧ a < b := fun a b e f => by omega
  refine ⟨by omega, by have := h.n; omega, by omega, by have := h.m8; omega, rfl, rfl, ?_, ?_, ?_, ?_, ?_, ?_, ?_, ?_, ?_, ?_, ?_, ?_⟩
  · intro i hi
    match i with
    | 0 => show vk Ce.zero.key = true; decide
    | 1 => show vk Ce.zero.key = true; decide
    | i + 2 => rw [nwB_at keys m (by omega)]; exact h.v _ (List.getElem_mem _)
  · intro i hi hin j hj hjn e
    obtain ⟨i, rfl⟩ : ∃ k, i = k + 2 := ⟨i - 2, by omega⟩
    obtain ⟨j, rfl⟩ : ∃ k, j = k + 2 := ⟨j - 2, by omega⟩
    rw [nwB_at keys m (by omega), nwB_at keys m (by omega)] at e
    have hp := List.pairwise_iff_getElem.1 h.d
    rcases Nat.lt_trichotomy i j with q | q | q
    · exact absurd e (hp i j (by omega) (by omega) q)
    · omega
    · exact absurd e.symm (hp j i (by omega) (by omega) q)
  · intro i hi; exact hx _ _ (hz i).1 (by omega)
  · intro i hi; exact hx _ _ (hz i).2.1 (by omega)
  · intro i hi; rw [(hz i).2.2]; exact ⟨Int.le_refl _, by omega⟩
  · intro p _; rw [hp]; exact hx _ _ rfl (by omega)
  · intro p _; rw [hp]; exact hx _ _ rfl (by omega)
  · intro p _; rw [hp]; exact hx _ _ rfl (by omega)
  · intro p _; rw [hp]; exact hx _ _ rfl (by omega)
  · intro p _; rw [hp]; decide
  · intro p _; rw [hp]; decide
  · intro p _; rw [hp]; decide
/-- The order of the members between the head and the tail. -/
def ordV (keys : List ByteArray) (m : Nat) (sel : Nat → Bool) : List Nat := 0 :: (memI (nwB keys m) sel ++ [1])
/-- What New answers. -/
def newV (keys : List ByteArray) (m : Nat) (sel : Nat → Bool) : Ls :=
  ⟨(List.range (keys.length + 2)).map (fun i => ⟨((nwB keys m).at_ i).key, (prvL (ordV keys m sel) i : Nat), (nxtL (ordV keys m sel) i : Nat), 0, decide (2 ≤ i) && !sel i⟩), List.replicate m Po.zero⟩
theorem newV_len (keys : List ByteArray) (m : Nat) (sel : Nat → Bool) : (newV keys m sel).cs.length = keys.length + 2 := by simp [newV]
theorem newV_at (keys : List ByteArray) (m : Nat) (sel : Nat → Bool) {i : Nat} (h : i < keys.length + 2) : (newV keys m sel).at_ i = ⟨((nwB keys m).at_ i).key, (prvL (ordV keys m sel) i : Nat), (nxtL (ordV keys m sel) i : Nat), 0, decide (2 ≤ i) && !sel i⟩ := by
  unfold newV Ls.at_
  simp [List.getD_eq_getElem?_getD, h]
theorem ord_asc {keys : List ByteArray} {m : Nat} (h : NwOk keys m) (sel : Nat → Bool) : (ordV keys m sel).Pairwise (fun a b => rnk (nwB keys m) a < rnk (nwB keys m) b) := by
  have v := nwB_vld h
  have o := rnk_odr v
  have hn := nwB_len keys m
  unfold ordV
  rw [List.pairwise_cons, List.pairwise_append]
  refine ⟨fun a ha => ?_, memI_asc v sel, List.pairwise_singleton _ _, fun a ha b hb => ?_⟩
  · rcases List.mem_append.1 ha with ha | ha
    · have := (mem_memI _ _ _).1 ha
      exact o.fst a this.1 (by omega)
    · obtain rfl : a = 1 := by simpa using ha
      exact o.fst 1 (by omega) (by omega)
  · obtain rfl : b = 1 := by simpa using hb
    have := (mem_memI _ _ _).1 ha
    exact o.lst a this.1 (by omega)
theorem ord_last (keys : List ByteArray) (m : Nat) (sel : Nat → Bool) : (ordV keys m sel).getLast? = some 1 := by
  unfold ordV
  rw [← List.cons_append, List.getLast?_append]
  simp
theorem mem_ord {keys : List ByteArray} {m : Nat} {sel : Nat → Bool} (i : Nat) : i ∈ ordV keys m sel ↔ i = 0 ∨ i = 1 ∨ (i < keys.length + 2 ∧ 2 ≤ i ∧ sel i = true) := by
  unfold ordV
  rw [List.mem_cons, List.mem_append, mem_memI, nwB_len, List.mem_singleton]
  constructor
  · rintro (h | h | h)
    · exact .inl h
    · exact .inr (.inr h)
    · exact .inr (.inl h)
  · rintro (h | h | h)
    · exact .inl h
    · exact .inr (.inr h)
    · exact .inr (.inl h)
theorem led_new {keys : List ByteArray} {m : Nat} (h : NwOk keys m) (sel : Nat → Bool) : Led (newV keys m sel) := by
  have v := nwB_vld h
  have o := rnk_odr v
  have hn := nwB_len keys m
  have hn2 := newV_len keys m sel
  have ha := ord_asc h sel
  have hz := ord_last keys m sel
  have hps : (newV keys m sel).ps = (nwB keys m).ps := rfl
  have hml : (newV keys m sel).ps.length = m := by simp [newV]
  have hp : ∀ p, (newV keys m sel).pr p = Po.zero := fun p => nw_pr _ m p
  have hol : ∀ i, i ∈ ordV keys m sel → i < keys.length + 2 := fun i q => by
    rcases (mem_ord i).1 q with q | q | q <;> omega
  have hnx : ∀ i, nxtL (ordV keys m sel) i < keys.length + 2 := fun i => by
    by_cases q : i ∈ ordV keys m sel
    · by_cases e : i = 1
      · subst e; rw [nxt_last ha hz]; omega
      · exact hol _ (nxt_in ha hz q e).1
    · rw [nxt_out q]; omega
  have hpv : ∀ i, prvL (ordV keys m sel) i < keys.length + 2 := fun i => by
    rcases prv_mem (L := ordV keys m sel) (x := i) with q | q
    · rw [q]; omega
    · exact hol _ q
  have hk : ∀ i, ((newV keys m sel).at_ i).key = ((nwB keys m).at_ i).key := fun i => by
    by_cases q : i < keys.length + 2
    · rw [newV_at keys m sel q]
    · unfold Ls.at_
      rw [List.getD_eq_getElem?_getD, List.getD_eq_getElem?_getD, List.getElem?_eq_none (by omega), List.getElem?_eq_none (by omega)]
  have v' : Vld (newV keys m sel) := vld_cells v (by rw [hn, hn2]) hps hk
    (fun i hi => by rw [newV_at keys m sel (by omega)]; have := hpv i; exact ⟨by show (0 : Int) ≤ (prvL _ i : Nat); omega, by show ((prvL _ i : Nat) : Int) < _; omega⟩)
    (fun i hi => by rw [newV_at keys m sel (by omega)]; have := hnx i; exact ⟨by show (0 : Int) ≤ (nxtL _ i : Nat); omega, by show ((nxtL _ i : Nat) : Int) < _; omega⟩)
    (fun i hi => by rw [newV_at keys m sel (by omega)]; exact ⟨Int.le_refl _, by show (0 : Int) ≤ _; omega⟩)
  have hr : rnk (newV keys m sel) = rnk (nwB keys m) := funext fun i => rnk_keys hk (by rw [hn, hn2]) i
  have hR : ∀ i, ((toSt (newV keys m sel)).c i).right = nxtL (ordV keys m sel) i := fun i => by
    show ((newV keys m sel).at_ i).right.toNat = _
    by_cases q : i < keys.length + 2
    · rw [newV_at keys m sel q]; rfl
    · have e : (newV keys m sel).at_ i = Ce.zero := by
        unfold Ls.at_
        rw [List.getD_eq_getElem?_getD, List.getElem?_eq_none (by omega)]
        rfl
      rw [e, nxt_out (fun k => q (hol i k))]
      rfl
  have hLf : ∀ i, i < keys.length + 2 → ((toSt (newV keys m sel)).c i).left = prvL (ordV keys m sel) i := fun i q => by
    show ((newV keys m sel).at_ i).left.toNat = _
    rw [newV_at keys m sel q]; rfl
  have hG : ∀ i, i < keys.length + 2 → ((toSt (newV keys m sel)).c i).gone = (decide (2 ≤ i) && !sel i) := fun i q => by
    show ((newV keys m sel).at_ i).gone = _
    rw [newV_at keys m sel q]
  have hK : ∀ i, i < keys.length + 2 → ((toSt (newV keys m sel)).c i).lock = 0 := fun i q => by
    show ((newV keys m sel).at_ i).lock.toNat = _
    rw [newV_at keys m sel q]; rfl
  have hP : ∀ p, (toSt (newV keys m sel)).p p = toPr Po.zero := fun p => by
    show toPr ((newV keys m sel).pr p) = _
    rw [hp]
  refine ⟨v', fun i => i ∈ ordV keys m sel, ?_⟩
  rw [hr, hn2, hml]
  refine ⟨(mem_ord 0).2 (.inl rfl), (mem_ord 1).2 (.inr (.inl rfl)), hol, ?_, ?_, ?_, ?_, ?_, ?_, ?_, ?_, ?_, ?_, ?_, ?_, ?_⟩
  · intro i hi h1
    rw [hR]
    obtain ⟨a1, a2, a3, -⟩ := nxt_in ha hz hi h1
    exact ⟨a1, a2, a3⟩
  · rw [hG 0 (by omega)]; rfl
  · rw [hG 1 (by omega)]; rfl
  · intro i hi hin hg
    rw [hG i hin] at hg
    refine (mem_ord i).2 (.inr (.inr ⟨hin, hi, ?_⟩))
    cases hs : sel i with
    | true => rfl
    | false => rw [hs, decide_eq_true hi] at hg; cases hg
  · intro i hi hg
    rw [hG i (hol i hi)] at hg
    rcases (mem_ord i).1 hi with q | q | ⟨-, -, q⟩
    · subst q; cases hg
    · subst q; cases hg
    · rw [q] at hg; simp at hg
  · intro i hi p _
    rw [hK i hi, hP]
    constructor
    · intro e; omega
    · intro e; exact absurd rfl e.2.1
  · intro i hi; rw [hK i hi]; omega
  · intro i hi; rw [hR]; exact hnx i
  · intro i hi h0
    rw [hR] at h0
    rw [hR, hR]
    have him : i ∈ ordV keys m sel := Classical.byContradiction fun q => h0 (nxt_out q)
    have hi1 : i ≠ 1 := fun e => by subst e; exact h0 (nxt_last ha hz)
    obtain ⟨a1, a2, -, -⟩ := nxt_in ha hz him hi1
    refine ⟨a2, fun q => ?_⟩
    obtain ⟨b1, b2, -, -⟩ := nxt_in ha hz a1 q
    intro e
    rw [e] at b2
    have := o.fst _ (by rw [hn]; exact hol _ a1) h0
    omega
  · intro i hi h1
    left
    rw [hR]
    obtain ⟨a1, -, -, a4⟩ := nxt_in ha hz hi h1
    rw [hLf _ (hol _ a1), a4]
  · intro p _; rw [hP]; trivial
  · intro p _; rw [hP]; show (0 : Nat) < _; omega
  · intro p _; rw [hP]; exact .inl rfl
end Lk
end
section
open Go.RowKit Go.Maps

namespace Lk
theorem mem_memV {l : Ls} (i : Nat) : i ∈ memV l ↔ i < l.cs.length ∧ 2 ≤ i ∧ (l.at_ i).gone = false := by
  unfold memV
  rw [mem_memI]
  simp
theorem memV_nodup (l : Ls) : (memV l).Nodup := by
  unfold memV memI
  exact (List.mergeSort_perm _ _).nodup_iff.2 ((List.nodup_range).filter _)
/-- A step that neither links nor unlinks leaves the members. -/
theorem mem_step {l l' : Ls} (v : Vld l) {p : Nat} (hp : p < l.ps.length) (e : stepV l p = some l') (h7 : (l.pr p).phase ≠ 7) (h10 : (l.pr p).phase ≠ 10) : memV l' = memV l := by
  obtain ⟨v', k'⟩ := step_vld v hp e
  have hs := step_st v hp
  rw [e] at hs
  have hq := ph_of (l.pr p).phase
  have h6 : phOf (l.pr p).phase = .link1 ↔ (l.pr p).phase = 7 := by
    have := v.ph p hp
    have hh : (l.pr p).phase = 18 ∨ (l.pr p).phase = 0 ∨ (l.pr p).phase = 1 ∨ (l.pr p).phase = 2 ∨ (l.pr p).phase = 3 ∨ (l.pr p).phase = 4 ∨ (l.pr p).phase = 5 ∨ (l.pr p).phase = 6 ∨ (l.pr p).phase = 7 ∨ (l.pr p).phase = 8 ∨ (l.pr p).phase = 9 ∨ (l.pr p).phase = 10 ∨ (l.pr p).phase = 11 ∨ (l.pr p).phase = 12 ∨ (l.pr p).phase = 13 := by omega
    rcases hh with q | q | q | q | q | q | q | q | q | q | q | q | q | q | q <;> rw [q] <;> decide
  have hg := mem_same hs (fun q => h7 (h6.1 q)) (fun q => h10 (hq.2.2.2.2.1.1 q))
  have hf : (fun i => !(l'.at_ i).gone) = (fun i => !(l.at_ i).gone) := funext fun i => by
    have : (l'.at_ i).gone = (l.at_ i).gone := hg i
    rw [this]
  unfold memV memI
  rw [k'.n, k'.rnk, hf]
theorem mem_step7 {l l' : Ls} (h : Led l) {p : Nat} (hp : p < l.ps.length) (e : stepV l p = some l') (h7 : (l.pr p).phase = 7) : (l.pr p).cell.toNat ∉ memV l ∧ (l.pr p).cell.toNat ∈ memV l' ∧ (memV l').length = (memV l).length + 1 ∧ ∀ i, i ∈ memV l' ↔ i = (l.pr p).cell.toNat ∨ i ∈ memV l := by
  obtain ⟨v, K, hi⟩ := h
  obtain ⟨v', k'⟩ := step_vld v hp e
  have hs := step_st v hp
  rw [e] at hs
  have hph : ((toSt l).p p).ph = .link1 := by show phOf (l.pr p).phase = _; rw [h7]; rfl
  obtain ⟨g1, g2⟩ := mem_link (rnk_odr v) hi hp hs hph
  have hpi := hi.pi p hp
  unfold PI at hpi
  rw [hph] at hpi
  have c2 : 2 ≤ (l.pr p).cell.toNat := hpi.1
  have cn : (l.pr p).cell.toNat < l.cs.length := hpi.2.1
  have g1' : (l.at_ (l.pr p).cell.toNat).gone = true := g1
  have g2' : ∀ i, (l'.at_ i).gone = if i = (l.pr p).cell.toNat then false else (l.at_ i).gone := g2
  have hm : ∀ i, i ∈ memV l' ↔ i = (l.pr p).cell.toNat ∨ i ∈ memV l := fun i => by
    rw [mem_memV, mem_memV, k'.n, g2']
    by_cases q : i = (l.pr p).cell.toNat
    · rw [if_pos q]; exact ⟨fun _ => .inl q, fun _ => ⟨by omega, by omega, rfl⟩⟩
    · rw [if_neg q]; exact ⟨fun x => .inr x, fun x => x.resolve_left q⟩
  have hno : (l.pr p).cell.toNat ∉ memV l := fun q => by
    have := ((mem_memV _).1 q).2.2
    rw [g1'] at this
    cases this
  refine ⟨hno, (hm _).2 (.inl rfl), ?_, hm⟩
  have := ((List.perm_ext_iff_of_nodup (memV_nodup l') (List.nodup_cons.2 ⟨hno, memV_nodup l⟩)).2 fun i => by rw [hm, List.mem_cons]).length_eq
  simpa using this
theorem mem_step10 {l l' : Ls} (h : Led l) {p : Nat} (hp : p < l.ps.length) (e : stepV l p = some l') (h10 : (l.pr p).phase = 10) : (l.pr p).cell.toNat ∈ memV l ∧ (l.pr p).cell.toNat ∉ memV l' ∧ (memV l).length = (memV l').length + 1 ∧ ∀ i, i ∈ memV l' ↔ i ≠ (l.pr p).cell.toNat ∧ i ∈ memV l := by
  obtain ⟨v, K, hi⟩ := h
  obtain ⟨v', k'⟩ := step_vld v hp e
  have hs := step_st v hp
  rw [e] at hs
  have hph : ((toSt l).p p).ph = .un0 := by show phOf (l.pr p).phase = _; rw [h10]; rfl
  obtain ⟨g1, g2⟩ := mem_unlink hi hp hs hph
  have hpi := hi.pi p hp
  unfold PI at hpi
  rw [hph] at hpi
  have c2 : 2 ≤ (l.pr p).cell.toNat := hpi.1
  have cn : (l.pr p).cell.toNat < l.cs.length := hpi.2.1
  have g1' : (l.at_ (l.pr p).cell.toNat).gone = false := g1
  have g2' : ∀ i, (l'.at_ i).gone = if i = (l.pr p).cell.toNat then true else (l.at_ i).gone := g2
  have hm : ∀ i, i ∈ memV l' ↔ i ≠ (l.pr p).cell.toNat ∧ i ∈ memV l := fun i => by
    rw [mem_memV, mem_memV, k'.n, g2']
    by_cases q : i = (l.pr p).cell.toNat
    · rw [if_pos q]; exact ⟨fun x => (by cases x.2.2), fun x => absurd q x.1⟩
    · rw [if_neg q]; exact ⟨fun x => ⟨q, x⟩, fun x => x.2⟩
  have hin : (l.pr p).cell.toNat ∈ memV l := (mem_memV _).2 ⟨cn, c2, g1'⟩
  have hno : (l.pr p).cell.toNat ∉ memV l' := fun q => ((hm _).1 q).1 rfl
  refine ⟨hin, hno, ?_, hm⟩
  have := ((List.perm_ext_iff_of_nodup (memV_nodup l) (List.nodup_cons.2 ⟨hno, memV_nodup l'⟩)).2 fun i => by
    rw [List.mem_cons, hm]
    by_cases q : i = (l.pr p).cell.toNat
    · exact ⟨fun _ => .inl q, fun _ => by rw [q]; exact hin⟩
    · exact ⟨fun x => .inr ⟨q, x⟩, fun x => (x.resolve_left q).2⟩).length_eq
  simpa using this
/-- A process before and after its step. -/
def Own (x y : Po) : Prop := y.kind = x.kind ∧ y.cell = x.cell ∧ ((x.phase = 1 ∧ y.res = x.res ∧ (y.phase = 1 ∨ y.phase = 2 ∨ y.phase = 4)) ∨ (x.phase = 2 ∧ y.res = x.res ∧ (y.phase = 3)) ∨ (x.phase = 3 ∧ y.res = x.res ∧ (y.phase = 4)) ∨ (x.phase = 4 ∧ x.kind = 3 ∧ y.phase = 18) ∨ (x.phase = 4 ∧ x.kind ≠ 3 ∧ y.res = x.res ∧ (y.phase = 5 ∨ y.phase = 6 ∨ y.phase = 9 ∨ y.phase = 13)) ∨ (x.phase = 5 ∧ y.res = x.res ∧ (y.phase = 1)) ∨ (x.phase = 6 ∧ y.res = x.res ∧ (y.phase = 7)) ∨ (x.phase = 7 ∧ y.res = x.res ∧ (y.phase = 8)) ∨ (x.phase = 8 ∧ y.res = true ∧ (y.phase = 13)) ∨ (x.phase = 9 ∧ y.res = x.res ∧ (y.phase = 10)) ∨ (x.phase = 10 ∧ y.res = x.res ∧ (y.phase = 11)) ∨ (x.phase = 11 ∧ y.res = x.res ∧ (y.phase = 12)) ∨ (x.phase = 12 ∧ y.res = true ∧ (y.phase = 13)) ∨ (x.phase = 13 ∧ y.res = x.res ∧ (y.phase = 18)))
theorem step_own {l l' : Ls} {p : Nat} (hp : p < l.ps.length) (h : stepV l p = some l') : Own (l.pr p) (l'.pr p) ∧ ∀ q, q ≠ p → l'.pr q = l.pr q := by
  have Q : ∀ (l1 : Ls) (y : Po), some (l1.setP p y) = some l' → (∀ q, l1.pr q = l.pr q) → l1.ps.length = l.ps.length → Own (l.pr p) y → Own (l.pr p) (l'.pr p) ∧ ∀ q, q ≠ p → l'.pr q = l.pr q := by
    intro l1 y h4 h1 h2 h3
    injection h4 with h4
    subst h4
    refine ⟨by rw [Ls.pr_setP l1 (by omega), if_pos rfl]; exact h3, fun q hq => by rw [Ls.pr_setP l1 (by omega), if_neg hq]; exact h1 q⟩
  unfold stepV at h
  generalize l.pr p = x at *
  obtain ⟨kind, cell, phase, pred, succ, next, res⟩ := x
  simp only at *
  by_cases f1 : phase = 1
  · rw [if_pos f1] at h
    by_cases g : blw l succ.toNat cell.toNat = true
    · rw [if_pos g] at h
      exact Q _ _ h (fun _ => rfl) rfl (⟨rfl, rfl, .inl ⟨f1, rfl, .inl f1⟩⟩)
    · rw [if_neg g] at h
      refine Q _ _ h (fun _ => rfl) rfl (⟨rfl, rfl, .inl ⟨f1, rfl, ?_⟩⟩)
      show (if kind = 3 then (4 : Int) else 2) = 1 ∨ (if kind = 3 then (4 : Int) else 2) = 2 ∨ (if kind = 3 then (4 : Int) else 2) = 4
      split <;> simp
  rw [if_neg f1] at h
  by_cases f2 : phase = 2
  · rw [if_pos f2] at h
    by_cases g : (l.at_ pred.toNat).lock ≠ 0
    · rw [if_pos g] at h; cases h
    · rw [if_neg g] at h
      exact Q _ _ h (fun _ => rfl) rfl (⟨rfl, rfl, .inr (.inl ⟨f2, rfl, rfl⟩)⟩)
  rw [if_neg f2] at h
  by_cases f3 : phase = 3
  · rw [if_pos f3] at h
    by_cases g : (l.at_ succ.toNat).lock ≠ 0
    · rw [if_pos g] at h; cases h
    · rw [if_neg g] at h
      exact Q _ _ h (fun _ => rfl) rfl (⟨rfl, rfl, .inr (.inr (.inl ⟨f3, rfl, rfl⟩))⟩)
  rw [if_neg f3] at h
  by_cases f4 : phase = 4
  · rw [if_pos f4] at h
    by_cases g : kind = 3
    · rw [if_pos g] at h
      exact Q _ _ h (fun _ => rfl) rfl (⟨rfl, rfl, .inr (.inr (.inr (.inl ⟨f4, g, rfl⟩)))⟩)
    rw [if_neg g] at h
    by_cases g2 : (l.at_ pred.toNat).gone = true ∨ (l.at_ succ.toNat).gone = true ∨ (l.at_ pred.toNat).right ≠ succ
    · rw [if_pos g2] at h
      exact Q _ _ h (fun _ => rfl) rfl (⟨rfl, rfl, .inr (.inr (.inr (.inr (.inl ⟨f4, g, rfl, .inl rfl⟩))))⟩)
    rw [if_neg g2] at h
    by_cases g3 : kind = 1 ∧ succ ≠ cell
    · rw [if_pos g3] at h
      exact Q _ _ h (fun _ => rfl) rfl (⟨rfl, rfl, .inr (.inr (.inr (.inr (.inl ⟨f4, g, rfl, .inr (.inl rfl)⟩))))⟩)
    rw [if_neg g3] at h
    by_cases g4 : kind = 2 ∧ succ = cell
    · rw [if_pos g4] at h
      exact Q _ _ h (fun _ => rfl) rfl (⟨rfl, rfl, .inr (.inr (.inr (.inr (.inl ⟨f4, g, rfl, .inr (.inr (.inl rfl))⟩))))⟩)
    · rw [if_neg g4] at h
      exact Q _ _ h (fun _ => rfl) rfl (⟨rfl, rfl, .inr (.inr (.inr (.inr (.inl ⟨f4, g, rfl, .inr (.inr (.inr rfl))⟩))))⟩)
  rw [if_neg f4] at h
  by_cases f5 : phase = 5
  · rw [if_pos f5] at h
    exact Q _ _ h (fun _ => rfl) rfl (⟨rfl, rfl, .inr (.inr (.inr (.inr (.inr (.inl ⟨f5, rfl, rfl⟩)))))⟩)
  rw [if_neg f5] at h
  by_cases f6 : phase = 6
  · rw [if_pos f6] at h
    exact Q _ _ h (fun _ => rfl) rfl (⟨rfl, rfl, .inr (.inr (.inr (.inr (.inr (.inr (.inl ⟨f6, rfl, rfl⟩))))))⟩)
  rw [if_neg f6] at h
  by_cases f7 : phase = 7
  · rw [if_pos f7] at h
    exact Q _ _ h (fun _ => rfl) rfl (⟨rfl, rfl, .inr (.inr (.inr (.inr (.inr (.inr (.inr (.inl ⟨f7, rfl, rfl⟩)))))))⟩)
  rw [if_neg f7] at h
  by_cases f8 : phase = 8
  · rw [if_pos f8] at h
    exact Q _ _ h (fun _ => rfl) rfl (⟨rfl, rfl, .inr (.inr (.inr (.inr (.inr (.inr (.inr (.inr (.inl ⟨f8, rfl, rfl⟩))))))))⟩)
  rw [if_neg f8] at h
  by_cases f9 : phase = 9
  · rw [if_pos f9] at h
    by_cases g : (l.at_ (l.at_ cell.toNat).right.toNat).lock ≠ 0
    · rw [if_pos g] at h; cases h
    · rw [if_neg g] at h
      exact Q _ _ h (fun _ => rfl) rfl (⟨rfl, rfl, .inr (.inr (.inr (.inr (.inr (.inr (.inr (.inr (.inr (.inl ⟨f9, rfl, rfl⟩)))))))))⟩)
  rw [if_neg f9] at h
  by_cases f10 : phase = 10
  · rw [if_pos f10] at h
    exact Q _ _ h (fun _ => rfl) rfl (⟨rfl, rfl, .inr (.inr (.inr (.inr (.inr (.inr (.inr (.inr (.inr (.inr (.inl ⟨f10, rfl, rfl⟩))))))))))⟩)
  rw [if_neg f10] at h
  by_cases f11 : phase = 11
  · rw [if_pos f11] at h
    exact Q _ _ h (fun _ => rfl) rfl (⟨rfl, rfl, .inr (.inr (.inr (.inr (.inr (.inr (.inr (.inr (.inr (.inr (.inr (.inl ⟨f11, rfl, rfl⟩)))))))))))⟩)
  rw [if_neg f11] at h
  by_cases f12 : phase = 12
  · rw [if_pos f12] at h
    exact Q _ _ h (fun _ => rfl) rfl (⟨rfl, rfl, .inr (.inr (.inr (.inr (.inr (.inr (.inr (.inr (.inr (.inr (.inr (.inr (.inl ⟨f12, rfl, rfl⟩))))))))))))⟩)
  rw [if_neg f12] at h
  by_cases f13 : phase = 13
  · rw [if_pos f13] at h
    exact Q _ _ h (fun _ => rfl) rfl (⟨rfl, rfl, .inr (.inr (.inr (.inr (.inr (.inr (.inr (.inr (.inr (.inr (.inr (.inr (.inr (⟨f13, rfl, rfl⟩)))))))))))))⟩)
  rw [if_neg f13] at h
  cases h
/-- The operation changed the members. -/
def DidI (x : Po) (d : Bool) : Prop := x.kind = 3 ∨ x.phase = 0 ∨ (d = true ↔ x.res = true ∨ x.phase = 8 ∨ x.phase = 11 ∨ x.phase = 12)
theorem did_step {x y : Po} {d : Bool} (h : Own x y) (i : DidI x d) : DidI y (d || decide (x.phase = 7) || decide (x.phase = 10)) := by
  obtain ⟨hk, -, h⟩ := h
  rcases i with i | i | i
  · exact .inl (by rw [hk]; exact i)
  · exfalso; omega
  · by_cases k3 : y.kind = 3
    · exact .inl k3
    right; right
    rcases d with _ | _ <;> cases hr : x.res <;> cases hy : y.res <;> rw [hr] at h i <;> rw [hy] at h <;> simp at h i ⊢ <;> omega
theorem did_end {x : Po} {d : Bool} (i : DidI x d) (h : x.phase = 18) (hk : x.kind ≠ 3) : x.res = d := by
  rcases i with i | i | i
  · exact absurd i hk
  · omega
  · cases hr : x.res <;> cases d <;> rw [hr] at i <;> simp at i ⊢ <;> omega
theorem did_beg {k c s : Int} : DidI ⟨k, c, 1, 0, s, 0, false⟩ false := .inr (.inr (by simp))
theorem did_zero : DidI Po.zero false := .inr (.inl rfl)
end Lk
end
section
open Go.RowKit Go.Maps

set_option linter.unusedSimpArgs false
set_option linter.unusedVariables false
namespace Lk
/-- What is known of an operation's moments: 'was': its cell was a member at some moment since the start; 'missed': it was none. -/
def Mom (rk : Nat → Nat) (s : St) (x : Pr) (was missed : Bool) : Prop :=
  match x.ph with
  | .find => missed = true ∨ ((s.c x.cell).gone = false ∧ Rc rk (fun i => (s.c i).right) x.succ x.cell)
  | .lockP => missed = true ∨ ((s.c x.cell).gone = false ∧ Rc rk (fun i => (s.c i).right) x.succ x.cell)
  | .lockS => missed = true ∨ ((s.c x.cell).gone = false ∧ Rc rk (fun i => (s.c i).right) x.succ x.cell)
  | .check => missed = true ∨ ((s.c x.cell).gone = false ∧ Rc rk (fun i => (s.c i).right) x.succ x.cell)
  | .rel => (x.kind = .ins → x.res = false → was = true) ∧ (x.kind = .rem → x.res = false → missed = true)
  | .done => (x.kind = .ins → x.res = false → was = true) ∧ (x.kind = .rem → x.res = false → missed = true) ∧ (x.kind = .fnd → (x.res = true → was = true) ∧ (x.res = false → missed = true))
  | _ => True
theorem mom_mono {rk : Nat → Nat} {s s' : St} {x : Pr} {w m w' m' : Bool} (h : Mom rk s x w m) (hw : w = true → w' = true) (hm : m = true → m' = true) (hr : act x = true → m' = true ∨ ((s'.c x.cell).gone = false ∧ (∀ a, (s.c x.cell).gone = false → Rc rk (fun i => (s.c i).right) a x.cell → Rc rk (fun i => (s'.c i).right) a x.cell))) : Mom rk s' x w' m' := by
  unfold Mom at *
  unfold act at hr
  cases hp : x.ph <;> rw [hp] at h hr <;> simp only at h hr ⊢
  all_goals first
    | trivial
    | (rcases h with h | ⟨h1, h2⟩
       · exact .inl (hm h)
       · rcases hr trivial with k | ⟨k1, k2⟩
         · exact .inl k
         · exact .inr ⟨k1, k2 _ h1 h2⟩)
    | exact ⟨fun a b => hw (h.1 a b), fun a b => hm (h.2 a b)⟩
    | exact ⟨fun a b => hw (h.1 a b), fun a b => hm (h.2.1 a b), fun a => ⟨fun b => hw ((h.2.2 a).1 b), fun b => hm ((h.2.2 a).2 b)⟩⟩
theorem stp_cell {rk : Nat → Nat} {s s' : St} {p : Nat} (hs : stp rk s p = some s') : (s'.p p).cell = (s.p p).cell ∧ (s'.p p).kind = (s.p p).kind := by
  unfold stp at hs
  cases hp : (s.p p).ph <;> simp only [hp] at hs
  all_goals first
    | (cases hs; done)
    | (injection hs with hs; subst hs; rw [St.setP_p, if_pos rfl]; exact ⟨rfl, rfl⟩)
    | (repeat' split at hs
       all_goals first
         | (cases hs; done)
         | (injection hs with hs; subst hs; rw [St.setP_p, if_pos rfl]; exact ⟨rfl, rfl⟩))
/-- The process that steps. -/
theorem mom_own {n m : Nat} {rk : Nat → Nat} {s s' : St} {K K' : Nat → Prop} (o : Odr n rk) (h : Ivt n m rk s K) (h' : Ivt n m rk s' K') {p : Nat} (hp : p < m) (hs : stp rk s p = some s') {w q : Bool} (hm : Mom rk s (s.p p) w q) : Mom rk s' (s'.p p) (w || !(s'.c (s.p p).cell).gone) (q || (s'.c (s.p p).cell).gone) := by
  obtain ⟨ec, ek⟩ := stp_cell hs
  have hpi := h.pi p hp
  unfold PI at hpi
  -- what a search knows is kept
  have keep : (s.p p).ph ≠ .link1 → (s.p p).ph ≠ .un0 → ∀ a, (s.c (s.p p).cell).gone = false → Rc rk (fun i => (s.c i).right) a (s.p p).cell → 2 ≤ (s.p p).cell → (s.p p).cell < n → (s'.c (s.p p).cell).gone = false ∧ Rc rk (fun i => (s'.c i).right) a (s.p p).cell := fun a1 a2 a g r x2 xn => by
    have g' : (s'.c (s.p p).cell).gone = false := by rw [mem_same hs a1 a2]; exact g
    exact ⟨g', rc_keep o h hp hs x2 xn g g' r⟩
  cases hph : (s.p p).ph <;> rw [hph] at hpi
  case idle => simp only [stp, hph] at hs; cases hs
  case done => simp only [stp, hph] at hs; cases hs
  case find =>
    unfold Mom at hm
    simp only [hph] at hm
    have key : q = true ∨ ((s'.c (s.p p).cell).gone = false ∧ Rc rk (fun i => (s'.c i).right) (s'.p p).succ (s'.p p).cell) := hm.imp id fun ⟨g, r⟩ => by
      have g' := mem_same hs (by rw [hph]; decide) (by rw [hph]; decide) (s.p p).cell
      exact ⟨by rw [g']; exact g, find_own h hs hph r⟩
    have hn : (s'.p p).ph = .find ∨ (s'.p p).ph = .lockP ∨ (s'.p p).ph = .check := by
      simp only [stp, hph] at hs
      repeat' split at hs
      all_goals (injection hs with hs; subst hs; rw [St.setP_p, if_pos rfl]; simp [hph])
    have fin : (q || (s'.c (s.p p).cell).gone) = true ∨ ((s'.c (s'.p p).cell).gone = false ∧ Rc rk (fun i => (s'.c i).right) (s'.p p).succ (s'.p p).cell) := by
      rcases key with k | k
      · left; rw [k]; rfl
      · right; rw [ec] at k ⊢; exact k
    unfold Mom
    rcases hn with e | e | e <;> rw [e] <;> exact fin
  case lockP =>
    unfold Mom at hm
    simp only [hph] at hm
    have e : (s'.p p).ph = .lockS ∧ (s'.p p).succ = (s.p p).succ := by
      simp only [stp, hph] at hs
      split at hs
      · cases hs
      · injection hs with hs; subst hs; rw [St.setP_p, if_pos rfl]; exact ⟨rfl, rfl⟩
    unfold Mom
    rw [e.1, e.2, ec]
    rcases hm with k | ⟨g, r⟩
    · left; rw [k]; rfl
    · right; exact keep (by rw [hph]; decide) (by rw [hph]; decide) _ g r hpi.1 hpi.2.1
  case lockS =>
    unfold Mom at hm
    simp only [hph] at hm
    have e : (s'.p p).ph = .check ∧ (s'.p p).succ = (s.p p).succ := by
      simp only [stp, hph] at hs
      split at hs
      · cases hs
      · injection hs with hs; subst hs; rw [St.setP_p, if_pos rfl]; exact ⟨rfl, rfl⟩
    unfold Mom
    rw [e.1, e.2, ec]
    rcases hm with k | ⟨g, r⟩
    · left; rw [k]; rfl
    · right; exact keep (by rw [hph]; decide) (by rw [hph]; decide) _ g r hpi.1 hpi.2.1
  case retry =>
    have e : (s'.p p).ph = .find ∧ (s'.p p).succ = (s'.c 0).right := by
      simp only [stp, hph] at hs
      injection hs with hs; subst hs; rw [St.setP_p, if_pos rfl]
      refine ⟨rfl, ?_⟩
      show (s.c 0).right = ((s.free p).c 0).right
      unfold St.free
      simp only
      split <;> rfl
    unfold Mom
    rw [e.1, e.2, ec]
    show _ ∨ _
    cases g : (s'.c (s.p p).cell).gone with
    | true => left; simp
    | false => right; exact ⟨rfl, head_reach o h' hpi.1 hpi.2.1 g⟩
  case check =>
    unfold Mom at hm
    simp only [hph] at hm
    have gs : (s'.c (s.p p).cell).gone = (s.c (s.p p).cell).gone := mem_same hs (by rw [hph]; decide) (by rw [hph]; decide) _
    have hne : (s.p p).succ ≠ (s.p p).cell → (q || (s'.c (s.p p).cell).gone) = true := fun d => by
      rcases hm with k | ⟨g, r⟩
      · rw [k]; rfl
      · exact absurd (check_reach h hp hph r) d
    simp only [stp, hph] at hs
    split at hs
    · rename_i kf
      injection hs with hs
      subst hs
      unfold Mom
      rw [St.setP_p, if_pos rfl]
      refine ⟨fun a => ?_, fun a => ?_, fun _ => ⟨fun a => ?_, fun a => ?_⟩⟩
      · have a : (s.p p).kind = .ins := a; rw [kf] at a; cases a
      · have a : (s.p p).kind = .rem := a; rw [kf] at a; cases a
      · have a : (decide ((s.p p).succ = (s.p p).cell) && !(s.c (s.p p).cell).gone) = true := a
        rw [Bool.and_eq_true] at a
        rw [gs, a.2, Bool.or_true]
      · have a : (decide ((s.p p).succ = (s.p p).cell) && !(s.c (s.p p).cell).gone) = false := a
        by_cases d : (s.p p).succ = (s.p p).cell
        · rw [decide_eq_true d, Bool.true_and] at a
          rw [gs]
          cases hg : (s.c (s.p p).cell).gone with
          | true => simp
          | false => rw [hg] at a; cases a
        · exact hne d
    · split at hs
      · injection hs with hs; subst hs; unfold Mom; rw [St.setP_p, if_pos rfl]; trivial
      · rename_i c1
        split at hs
        · injection hs with hs; subst hs; unfold Mom; rw [St.setP_p, if_pos rfl]; trivial
        · rename_i c2
          split at hs
          · injection hs with hs; subst hs; unfold Mom; rw [St.setP_p, if_pos rfl]; trivial
          · rename_i c3
            injection hs with hs
            subst hs
            unfold Mom
            rw [St.setP_p, if_pos rfl]
            refine ⟨fun a _ => ?_, fun a _ => ?_⟩
            · have a : (s.p p).kind = .ins := a
              have d : (s.p p).succ = (s.p p).cell := Classical.byContradiction fun d => c2 ⟨a, d⟩
              have g : (s.c (s.p p).cell).gone = false := by
                cases hg : (s.c (s.p p).cell).gone with
                | false => rfl
                | true => exact absurd (.inr (.inl (by rw [d]; exact hg))) c1
              rw [gs, g]; simp
            · have a : (s.p p).kind = .rem := a
              exact hne fun d => c3 ⟨a, d⟩
  case link0 =>
    simp only [stp, hph] at hs
    injection hs with hs; subst hs; unfold Mom; rw [St.setP_p, if_pos rfl]; trivial
  case link1 =>
    simp only [stp, hph] at hs
    injection hs with hs; subst hs; unfold Mom; rw [St.setP_p, if_pos rfl]; trivial
  case lockN =>
    simp only [stp, hph] at hs
    split at hs
    · cases hs
    · injection hs with hs; subst hs; unfold Mom; rw [St.setP_p, if_pos rfl]; trivial
  case un0 =>
    simp only [stp, hph] at hs
    injection hs with hs; subst hs; unfold Mom; rw [St.setP_p, if_pos rfl]; trivial
  case un1 =>
    simp only [stp, hph] at hs
    injection hs with hs; subst hs; unfold Mom; rw [St.setP_p, if_pos rfl]; trivial
  case link2 =>
    simp only [stp, hph] at hs
    injection hs with hs; subst hs; unfold Mom; rw [St.setP_p, if_pos rfl]
    exact ⟨fun _ a => (by cases (show true = false from a)), fun _ a => (by cases (show true = false from a))⟩
  case un2 =>
    simp only [stp, hph] at hs
    injection hs with hs; subst hs; unfold Mom; rw [St.setP_p, if_pos rfl]
    exact ⟨fun _ a => (by cases (show true = false from a)), fun _ a => (by cases (show true = false from a))⟩
  case rel =>
    unfold Mom at hm
    simp only [hph] at hm
    simp only [stp, hph] at hs
    injection hs with hs; subst hs; unfold Mom; rw [St.setP_p, if_pos rfl]
    refine ⟨fun a b => by rw [hm.1 a b]; rfl, fun a b => by rw [hm.2 a b]; rfl, fun a => ?_⟩
    have a : (s.p p).kind = .fnd := a
    rcases hpi.2.2.1 with k | k <;> rw [k] at a <;> cases a
theorem pi_cell {n m : Nat} {rk : Nat → Nat} {s : St} {K : Nat → Prop} (h : Ivt n m rk s K) {p : Nat} (hp : p < m) (ha : act (s.p p) = true) : 2 ≤ (s.p p).cell ∧ (s.p p).cell < n := by
  have hpi := h.pi p hp
  unfold PI at hpi
  unfold act at ha
  cases hph : (s.p p).ph <;> rw [hph] at hpi ha
  case idle => cases ha
  case done => cases ha
  all_goals exact ⟨hpi.1, hpi.2.1⟩
/-- The other processes. -/
theorem mom_oth {n m : Nat} {rk : Nat → Nat} {s s' : St} {K : Nat → Prop} (o : Odr n rk) (h : Ivt n m rk s K) {p : Nat} (hp : p < m) (hs : stp rk s p = some s') {j : Nat} (hj : j < m) (hne : j ≠ p) {w q w' q' : Bool} (hm : Mom rk s (s.p j) w q) (hw : w = true → w' = true) (hq : q = true → q' = true) (ha : act (s.p j) = true → q' = (q || (s'.c (s.p j).cell).gone)) : Mom rk s' (s'.p j) w' q' := by
  rw [stp_oth hs j hne]
  refine mom_mono hm hw hq fun a => ?_
  obtain ⟨x2, xn⟩ := pi_cell h hj a
  rw [ha a]
  cases g : (s'.c (s.p j).cell).gone with
  | true => left; simp
  | false => right; exact ⟨rfl, fun a g0 r => rc_keep o h hp hs x2 xn g0 g r⟩
/-- A call that changes nothing. -/
theorem mom_stay {rk : Nat → Nat} {s : St} {x : Pr} {w q w' q' : Bool} (hm : Mom rk s x w q) (hw : w = true → w' = true) (hq : q = true → q' = true) (ha : act x = true → q' = (q || (s.c x.cell).gone)) : Mom rk s x w' q' := by
  refine mom_mono hm hw hq fun a => ?_
  rw [ha a]
  cases g : (s.c x.cell).gone with
  | true => left; simp
  | false => right; exact ⟨rfl, fun _ _ r => r⟩
theorem mom_beg {n m : Nat} {rk : Nat → Nat} {s : St} {K : Nat → Prop} (o : Odr n rk) (h : Ivt n m rk s K) {p : Nat} {k : Kd} {i : Nat} (i2 : 2 ≤ i) (hi : i < n) : Mom rk (beg s p k i) ((beg s p k i).p p) (!(s.c i).gone) (s.c i).gone := by
  unfold Mom beg
  rw [St.setP_p, if_pos rfl]
  show (s.c i).gone = true ∨ ((s.c i).gone = false ∧ _)
  cases g : (s.c i).gone with
  | true => left; rfl
  | false => right; exact ⟨rfl, head_reach o h i2 hi g⟩
theorem mom_beg_oth {rk : Nat → Nat} {s : St} {p : Nat} {k : Kd} {i j : Nat} (hne : j ≠ p) {w q w' q' : Bool} (hm : Mom rk s (s.p j) w q) (hw : w = true → w' = true) (hq : q = true → q' = true) (ha : act (s.p j) = true → q' = (q || (s.c (s.p j).cell).gone)) : Mom rk (beg s p k i) ((beg s p k i).p j) w' q' := by
  have e : (beg s p k i).p j = s.p j := by unfold beg; rw [St.setP_p, if_neg hne]
  rw [e]
  exact mom_stay (s := s) hm hw hq ha
/-- What the moments say of a result. -/
theorem mom_end {rk : Nat → Nat} {s : St} {x : Pr} {w q : Bool} (hm : Mom rk s x w q) (hd : x.ph = .done) : (x.kind = .ins → x.res = false → w = true) ∧ (x.kind = .rem → x.res = false → q = true) ∧ (x.kind = .fnd → (x.res = true → w = true) ∧ (x.res = false → q = true)) := by
  unfold Mom at hm
  rw [hd] at hm
  exact hm
theorem mom_zero {rk : Nat → Nat} {s : St} {w q : Bool} : Mom rk s (toPr Po.zero) w q := trivial
/-- The same of a list as it is written. -/
def MomL (l : Ls) (j : Nat) (w q : Bool) : Prop := Mom (rnk l) (toSt l) ((toSt l).p j) w q
theorem gone_mem {l : Ls} {i : Nat} (h2 : 2 ≤ i) (hn : i < l.cs.length) : ((toSt l).c i).gone = !decide (i ∈ memV l) := by
  have h := mem_memV (l := l) i
  show (l.at_ i).gone = _
  cases g : (l.at_ i).gone with
  | true =>
    rw [g] at h
    simp [h]
  | false =>
    rw [g] at h
    simp [h, h2, hn]
theorem act_ph {l : Ls} (v : Vld l) {j : Nat} (hj : j < l.ps.length) : act ((toSt l).p j) = true ↔ (l.pr j).phase ≠ 0 ∧ (l.pr j).phase ≠ 18 := by
  have := v.ph j hj
  show act (toPr (l.pr j)) = true ↔ _
  unfold act
  show (match phOf (l.pr j).phase with | .idle => false | .done => false | _ => true) = true ↔ _
  generalize (l.pr j).phase = k at *
  have hq : k = 18 ∨ k = 0 ∨ k = 1 ∨ k = 2 ∨ k = 3 ∨ k = 4 ∨ k = 5 ∨ k = 6 ∨ k = 7 ∨ k = 8 ∨ k = 9 ∨ k = 10 ∨ k = 11 ∨ k = 12 ∨ k = 13 := by omega
  rcases hq with rfl | rfl | rfl | rfl | rfl | rfl | rfl | rfl | rfl | rfl | rfl | rfl | rfl | rfl | rfl <;> decide
/-- How the law keeps its two marks: 'A': the process is under way or has been called. -/
def mrk (A has w : Bool) : Bool := if A then w || has else w
theorem momL_step {l l' : Ls} (h : Led l) {p : Nat} (hp : p < l.ps.length) (e : stepV l p = some l') {j : Nat} (hj : j < l.ps.length) {w q : Bool} (hm : MomL l j w q) :
    MomL l' j (mrk (decide (((l'.pr j).phase ≠ 0 ∧ (l'.pr j).phase ≠ 18) ∨ j = p)) (decide ((l'.pr j).cell.toNat ∈ memV l')) w) (mrk (decide (((l'.pr j).phase ≠ 0 ∧ (l'.pr j).phase ≠ 18) ∨ j = p)) (!decide ((l'.pr j).cell.toNat ∈ memV l')) q) := by
  have h0 := h
  have h' := led_step h hp e
  obtain ⟨v, K, hi⟩ := h
  obtain ⟨v', K', hi'⟩ := h'
  obtain ⟨-, k'⟩ := step_vld v hp e
  have hs := step_st v hp
  rw [e] at hs
  rw [k'.rnk, k'.n, k'.m] at hi'
  have o := rnk_odr v
  unfold MomL at *
  rw [k'.rnk]
  by_cases hjp : j = p
  · subst hjp
    have hA : act ((toSt l).p j) = true := by
      cases ha : act ((toSt l).p j) with
      | true => rfl
      | false =>
        have := mt (act_ph v hj).2 (by rw [ha]; decide)
        have hz : stp (rnk l) (toSt l) j = none := by
          unfold act at ha
          unfold stp
          cases hph : ((toSt l).p j).ph <;> rw [hph] at ha <;> simp only [hph] <;> first | rfl | cases ha
        rw [hz] at hs
        cases hs
    obtain ⟨x2, xn⟩ := pi_cell hi hj hA
    have ec : (l'.pr j).cell.toNat = ((toSt l).p j).cell := (stp_cell hs).1
    have hr := mom_own o hi hi' hp hs hm
    have hg := gone_mem (l := l') (i := ((toSt l).p j).cell) x2 (by rw [k'.n]; exact xn)
    rw [hg] at hr
    rw [ec]
    unfold mrk
    simpa using hr
  · have er : l'.pr j = l.pr j := (step_own hp e).2 j hjp
    refine mom_oth o hi hp hs hj hjp hm ?_ ?_ ?_
    · intro a; unfold mrk; split <;> simp [a]
    · intro a; unfold mrk; split <;> simp [a]
    · intro a
      obtain ⟨x2, xn⟩ := pi_cell hi hj a
      have hph := (act_ph v hj).1 a
      have hg := gone_mem (l := l') (i := ((toSt l).p j).cell) x2 (by rw [k'.n]; exact xn)
      rw [hg, er]
      unfold mrk
      rw [if_pos (decide_eq_true (.inl hph))]
      rfl
theorem momL_stay {l : Ls} (h : Led l) {j : Nat} (hj : j < l.ps.length) {b : Prop} [Decidable b] {w q : Bool} (hm : MomL l j w q) :
    MomL l j (mrk (decide (((l.pr j).phase ≠ 0 ∧ (l.pr j).phase ≠ 18) ∨ b)) (decide ((l.pr j).cell.toNat ∈ memV l)) w) (mrk (decide (((l.pr j).phase ≠ 0 ∧ (l.pr j).phase ≠ 18) ∨ b)) (!decide ((l.pr j).cell.toNat ∈ memV l)) q) := by
  obtain ⟨v, K, hi⟩ := h
  unfold MomL at *
  refine mom_stay hm ?_ ?_ ?_
  · intro a; unfold mrk; split <;> simp [a]
  · intro a; unfold mrk; split <;> simp [a]
  · intro a
    obtain ⟨x2, xn⟩ := pi_cell hi hj a
    have hph := (act_ph v hj).1 a
    have hg := gone_mem (l := l) (i := ((toSt l).p j).cell) x2 xn
    rw [hg]
    unfold mrk
    rw [if_pos (decide_eq_true (.inl hph))]
    rfl
theorem beg_mem (l : Ls) (p : Nat) (k c : Int) : memV (begV l p k c) = memV l := by
  unfold memV memI
  rw [(beg_kin l p k c).n, (beg_kin l p k c).rnk]
  rfl
theorem momL_beg {l : Ls} (h : Led l) {p : Nat} (hp : p < l.ps.length) {k c : Int} (hc : 2 ≤ c ∧ c < l.cs.length) {j : Nat} (hj : j < l.ps.length) {w q : Bool} (hm : j ≠ p → MomL l j w q) (h0 : j = p → w = false ∧ q = false) :
    MomL (begV l p k c) j (mrk (decide ((((begV l p k c).pr j).phase ≠ 0 ∧ ((begV l p k c).pr j).phase ≠ 18) ∨ j = p)) (decide (((begV l p k c).pr j).cell.toNat ∈ memV (begV l p k c))) w) (mrk (decide ((((begV l p k c).pr j).phase ≠ 0 ∧ ((begV l p k c).pr j).phase ≠ 18) ∨ j = p)) (!decide (((begV l p k c).pr j).cell.toNat ∈ memV (begV l p k c))) q) := by
  obtain ⟨v, K, hi⟩ := h
  have k' := beg_kin l p k c
  have o := rnk_odr v
  rw [beg_mem]
  unfold MomL at *
  rw [k'.rnk, beg_st hp]
  by_cases hjp : j = p
  · subst hjp
    obtain ⟨rfl, rfl⟩ := h0 rfl
    have e : (begV l j k c).pr j = ⟨k, c, 1, 0, (l.at_ 0).right, 0, false⟩ := by unfold begV; rw [Ls.pr_setP l hp, if_pos rfl]
    rw [e]
    have hr := mom_beg (p := j) (k := kdOf k) o hi (i := c.toNat) (by omega) (by omega)
    have hg := gone_mem (l := l) (i := c.toNat) (by omega) (by omega)
    rw [hg] at hr
    unfold mrk
    simpa using hr
  · have e : (begV l p k c).pr j = l.pr j := by unfold begV; rw [Ls.pr_setP l hp, if_neg hjp]
    rw [e]
    refine mom_beg_oth hjp (hm hjp) ?_ ?_ ?_
    · intro a; unfold mrk; split <;> simp [a]
    · intro a; unfold mrk; split <;> simp [a]
    · intro a
      obtain ⟨x2, xn⟩ := pi_cell hi hj a
      have hph := (act_ph v hj).1 a
      have hg := gone_mem (l := l) (i := ((toSt l).p j).cell) x2 xn
      rw [hg]
      unfold mrk
      rw [if_pos (decide_eq_true (.inl hph))]
      rfl
end Lk
end
section
open Go.RowKit Go.Maps

namespace Lk
/-- How many processes are under way, and Bound of a valid list. -/
def busV (l : Ls) : Nat := bz l.ps.length (toSt l)
def bndV (l : Ls) : Nat := busV l * ((busV l + 1) * (l.cs.length + 5) + 6)
/-- At most k steps are left. -/
def LedK (l : Ls) (k : Nat) : Prop := Vld l ∧ ∃ K d, Ivt l.cs.length l.ps.length (rnk l) (toSt l) K ∧ Fr l.ps.length (toSt l) K d ∧ phi l.cs.length l.ps.length (rnk l) (toSt l) d ≤ k
theorem ledK_led {l : Ls} {k : Nat} (h : LedK l k) : Led l := by
  obtain ⟨v, K, d, hi, -, -⟩ := h
  exact ⟨v, K, hi⟩
theorem led_bound {l : Ls} (h : Led l) : LedK l (bndV l) := by
  obtain ⟨v, K, hi⟩ := h
  refine ⟨v, K, fun _ => true, hi, ⟨fun _ _ e => (by cases e), fun _ _ _ => rfl⟩, ?_⟩
  exact phi_bound (rnk_odr v) (fun i h => rnk_n h) hi _
theorem ledK_step {l l' : Ls} {k : Nat} (h : LedK l k) {p : Nat} (hp : p < l.ps.length) (e : stepV l p = some l') : 0 < k ∧ LedK l' (k - 1) := by
  obtain ⟨v, K, d, hi, hf, hk⟩ := h
  have o := rnk_odr v
  obtain ⟨v', k'⟩ := step_vld v hp e
  have hs := step_st v hp
  rw [e] at hs
  obtain ⟨K', hi', hK⟩ := pres2 o hi hp hs
  have hf' := fr_keep o hi hf hp hs hK
  have hlt := phi_lt o (fun i h => rnk_n h) hi hf hp hs
  refine ⟨by omega, v', K', nd (toSt l) p d, ?_, ?_, ?_⟩
  · rw [k'.rnk, k'.n, k'.m]; exact hi'
  · rw [k'.m]; exact hf'
  · rw [k'.rnk, k'.n, k'.m]; omega
theorem led_some {l : Ls} (h : Led l) (hb : 0 < busV l) : ∃ q l', q < l.ps.length ∧ stepV l q = some l' := by
  obtain ⟨v, K, hi⟩ := h
  have hex : ∃ p, p < l.ps.length ∧ act ((toSt l).p p) = true := Classical.byContradiction fun hno => by
    have : busV l = 0 := bz_zero.2 fun p hp => by
      cases e : act ((toSt l).p p) with
      | false => rfl
      | true => exact absurd ⟨p, hp, e⟩ hno
    omega
  obtain ⟨p, hp, ha⟩ := hex
  obtain ⟨q, s', hq, hs⟩ := some_step (rnk_odr v) hi hp (by
    unfold act at ha
    constructor <;> intro e <;> rw [e] at ha <;> cases ha)
  rw [step_st v hq] at hs
  cases e : stepV l q with
  | none => rw [e] at hs; cases hs
  | some l' => exact ⟨q, l', hq, e⟩
theorem led_rest {l : Ls} (h : Led l) (hb : busV l = 0) : ∀ i, i < l.cs.length → (l.at_ i).lock = 0 := by
  obtain ⟨v, K, hi⟩ := h
  have hz := bz_zero.1 hb
  intro i hin
  have := rest_free hi (fun p hp => by
    have ha := hz p hp
    unfold act at ha
    cases e : ((toSt l).p p).ph <;> rw [e] at ha <;> first | exact .inl rfl | exact .inr rfl | cases ha) i hin
  have h1 : (l.at_ i).lock.toNat = 0 := this
  have h2 := v.lk i hin
  omega
theorem bus_step {l l' : Ls} (v : Vld l) {p : Nat} (hp : p < l.ps.length) (e : stepV l p = some l') : l'.cs.length = l.cs.length ∧ l'.ps.length = l.ps.length :=
  ⟨(step_vld v hp e).2.n, (step_vld v hp e).2.m⟩
theorem bnd_small {l : Ls} (v : Vld l) : bndV l ≤ 6000 := by
  have hb : busV l ≤ l.ps.length := by
    unfold busV bz
    have h := sm_le (f := fun q => if act ((toSt l).p q) = true then 1 else 0) (g := fun _ => 1) (k := l.ps.length) (fun i _ => by show (if _ then 1 else 0) ≤ 1; split <;> omega)
    have h1 : ∀ k, sm (fun _ => 1) k = k := fun k => by
      induction k with
      | zero => rfl
      | succ k ih => show sm _ k + 1 = k + 1; rw [ih]
    rw [h1] at h
    exact h
  have h8 := v.m8
  have h66 := v.n66
  unfold bndV
  have a : busV l ≤ 8 := by omega
  have b : (busV l + 1) * (l.cs.length + 5) ≤ 9 * 71 := Nat.mul_le_mul (by omega) (by omega)
  have c : busV l * ((busV l + 1) * (l.cs.length + 5) + 6) ≤ 8 * (9 * 71 + 6) := Nat.mul_le_mul a (by omega)
  omega
end Lk
end
section
open Go.RowKit Go.Maps

namespace Lk
def ResI (x : Po) : Prop := x.res = true → x.phase = 13 ∨ x.phase = 18
theorem res_step {x y : Po} (h : Own x y) (i : ResI x) : ResI y := by
  obtain ⟨-, -, h⟩ := h
  unfold ResI at *
  cases hr : x.res <;> cases hy : y.res <;> rw [hr] at h i <;> rw [hy] at h <;> simp at h i ⊢ <;> omega
theorem stepV_idle {l : Ls} {p : Nat} (h : (l.pr p).phase = 0 ∨ (l.pr p).phase = 18) : stepV l p = none := by
  unfold stepV
  simp only
  rw [if_neg (by omega), if_neg (by omega), if_neg (by omega), if_neg (by omega), if_neg (by omega), if_neg (by omega), if_neg (by omega), if_neg (by omega), if_neg (by omega), if_neg (by omega), if_neg (by omega), if_neg (by omega), if_neg (by omega)]
/-- One process alone: 'M' the members at its start. -/
structure Ser (M : List Nat) (k c : Int) (l : Ls) (n : Nat) (did was missed : Bool) : Prop where
  led : LedK l n
  oth : ∀ q, q ≠ 0 → (l.pr q).phase = 0 ∨ (l.pr q).phase = 18
  kd : (l.pr 0).kind = k
  ce : (l.pr 0).cell = c
  di : DidI (l.pr 0) did
  rs : ResI (l.pr 0)
  mo : MomL l 0 was missed
  m0 : did = false → memV l = M
  m1 : did = true → (k = 1 ∧ c.toNat ∉ M ∧ ∀ i, i ∈ memV l ↔ i = c.toNat ∨ i ∈ M) ∨ (k = 2 ∧ c.toNat ∈ M ∧ ∀ i, i ∈ memV l ↔ i ≠ c.toNat ∧ i ∈ M)
  ws : was = true → c.toNat ∈ M ∨ did = true
  ms : missed = true → c.toNat ∉ M ∨ did = true
theorem mrk_or {A h w : Bool} (e : mrk A h w = true) : h = true ∨ w = true := by
  unfold mrk at e
  cases A <;> cases h <;> cases w <;> simp_all
theorem ser_step {M : List Nat} {k c : Int} {l l' : Ls} {n : Nat} {did was missed : Bool} (h : Ser M k c l n did was missed) (e : stepV l 0 = some l') : 0 < n ∧ ∃ did' was' missed', Ser M k c l' (n - 1) did' was' missed' := by
  have hL := ledK_led h.led
  have v := hL.1
  have hp : 0 < l.ps.length := v.m1
  obtain ⟨hn, hk⟩ := ledK_step h.led hp e
  obtain ⟨ho, hq⟩ := step_own hp e
  have hm := momL_step hL hp e hp h.mo
  have hc' : (l'.pr 0).cell = c := by rw [ho.2.1]; exact h.ce
  have hk' : (l'.pr 0).kind = k := by rw [ho.1]; exact h.kd
  have hd := did_step ho h.di
  have hr := res_step ho h.rs
  rw [hc'] at hm
  refine ⟨hn, _, _, _, hk, fun q h0 => by rw [hq q h0]; exact h.oth q h0, hk', hc', hd, hr, hm, ?_, ?_, ?_, ?_⟩
  · intro f
    have f7 : (l.pr 0).phase ≠ 7 := fun x => by rw [x] at f; simp at f
    have f10 : (l.pr 0).phase ≠ 10 := fun x => by rw [x] at f; simp at f
    have fd : did = false := by cases did <;> simp_all
    rw [mem_step v hp e f7 f10]
    exact h.m0 fd
  · intro f
    by_cases f7 : (l.pr 0).phase = 7
    · obtain ⟨a1, a2, -, a4⟩ := mem_step7 hL hp e f7
      rw [h.ce] at a1 a2 a4
      have fd : did = false := by
        rcases h.di with q | q | q
        · exfalso
          obtain ⟨_, K, hi⟩ := hL
          have hpi := hi.pi 0 hp
          unfold PI at hpi
          have hph : ((toSt l).p 0).ph = .link1 := by show phOf (l.pr 0).phase = _; rw [f7]; rfl
          rw [hph] at hpi
          have := (kd_ins (l.pr 0).kind).1 hpi.2.2.1
          omega
        · omega
        · cases hd : did with
          | false => rfl
          | true =>
            have q1 := q.1 hd
            rcases q1 with q1 | q1
            · have := h.rs q1; omega
            · omega
      have hM := h.m0 fd
      have hki : k = 1 := by
        obtain ⟨_, K, hi⟩ := hL
        have hpi := hi.pi 0 hp
        unfold PI at hpi
        have hph : ((toSt l).p 0).ph = .link1 := by show phOf (l.pr 0).phase = _; rw [f7]; rfl
        rw [hph] at hpi
        have := (kd_ins (l.pr 0).kind).1 hpi.2.2.1
        rw [← h.kd]; exact this
      rw [hM] at a1 a4
      exact .inl ⟨hki, a1, a4⟩
    · by_cases f10 : (l.pr 0).phase = 10
      · obtain ⟨a1, a2, -, a4⟩ := mem_step10 hL hp e f10
        rw [h.ce] at a1 a2 a4
        have hki : (l.pr 0).kind = 2 := by
          obtain ⟨_, K, hi⟩ := hL
          have hpi := hi.pi 0 hp
          unfold PI at hpi
          have hph : ((toSt l).p 0).ph = .un0 := by show phOf (l.pr 0).phase = _; rw [f10]; rfl
          rw [hph] at hpi
          exact (kd_rem (l.pr 0).kind).1 hpi.2.2.1
        have fd : did = false := by
          rcases h.di with q | q | q
          · omega
          · omega
          · cases hd : did with
            | false => rfl
            | true =>
              have q1 := q.1 hd
              rcases q1 with q1 | q1
              · have := h.rs q1; omega
              · omega
        have hM := h.m0 fd
        rw [hM] at a1 a4
        exact .inr ⟨by rw [← h.kd]; exact hki, a1, a4⟩
      · have fd : did = true := by simp [f7, f10] at f; exact f
        rw [mem_step v hp e f7 f10]
        exact h.m1 fd
  · intro f
    rcases mrk_or f with q | q
    · have hin : c.toNat ∈ memV l' := by simpa using q
      by_cases f7 : (l.pr 0).phase = 7
      · right; simp [f7]
      · by_cases f10 : (l.pr 0).phase = 10
        · right; simp [f10]
        · rw [mem_step v hp e f7 f10] at hin
          cases hd : did with
          | true => right; simp
          | false => left; rw [← h.m0 hd]; exact hin
    · rcases h.ws q with q | q
      · exact .inl q
      · right; rw [q]; simp
  · intro f
    rcases mrk_or f with q | q
    · have hin : c.toNat ∉ memV l' := by simpa using q
      by_cases f7 : (l.pr 0).phase = 7
      · right; simp [f7]
      · by_cases f10 : (l.pr 0).phase = 10
        · right; simp [f10]
        · rw [mem_step v hp e f7 f10] at hin
          cases hd : did with
          | true => right; simp
          | false => left; rw [← h.m0 hd]; exact hin
    · rcases h.ms q with q | q
      · exact .inl q
      · right; rw [q]; simp
/-- As long as it is under way it can step. -/
theorem ser_can {M : List Nat} {k c : Int} {l : Ls} {n : Nat} {did was missed : Bool} (h : Ser M k c l n did was missed) (hb : 0 < busV l) : ∃ l', stepV l 0 = some l' := by
  obtain ⟨q, l', hq, e⟩ := led_some (ledK_led h.led) hb
  by_cases q0 : q = 0
  · subst q0; exact ⟨l', e⟩
  · rw [stepV_idle (h.oth q q0)] at e; cases e
/-- What comes of it. -/
theorem ser_end {M : List Nat} {k c : Int} {l : Ls} {n : Nat} {did was missed : Bool} (h : Ser M k c l n did was missed) (hk : k = 1 ∨ k = 2 ∨ k = 3) (hd : (l.pr 0).phase = 18) :
    ((l.pr 0).res = true ↔ (k = 1 ∧ c.toNat ∉ M) ∨ (k ≠ 1 ∧ c.toNat ∈ M)) ∧ (k = 3 → memV l = M) ∧ (k = 1 → c.toNat ∈ memV l) ∧ (k = 2 → c.toNat ∉ memV l) ∧ ∀ i, i ≠ c.toNat → (i ∈ memV l ↔ i ∈ M) := by
  have hph : ((toSt l).p 0).ph = .done := by show phOf (l.pr 0).phase = _; rw [hd]; rfl
  obtain ⟨e1, e2, e3⟩ := mom_end h.mo hph
  have hki : ((toSt l).p 0).kind = kdOf k := by show kdOf (l.pr 0).kind = _; rw [h.kd]
  have hre : ((toSt l).p 0).res = (l.pr 0).res := rfl
  rw [hki, hre] at e1 e2 e3
  have hmem : ∀ i, i ≠ c.toNat → (i ∈ memV l ↔ i ∈ M) := fun i hi => by
    cases hdd : did with
    | false => rw [h.m0 hdd]
    | true =>
      rcases h.m1 hdd with ⟨-, -, q⟩ | ⟨-, -, q⟩
      · rw [q]; exact ⟨fun x => x.resolve_left hi, .inr⟩
      · rw [q]; exact ⟨fun x => x.2, fun x => ⟨hi, x⟩⟩
  rcases hk with rfl | rfl | rfl
  · have hrd := did_end h.di hd (by rw [h.kd]; decide)
    cases hdd : did with
    | true =>
      rw [hdd] at hrd
      rcases h.m1 hdd with ⟨-, a, b⟩ | ⟨q, -, -⟩
      · exact ⟨⟨fun _ => .inl ⟨rfl, a⟩, fun _ => hrd⟩, fun x => by omega, fun _ => (b _).2 (.inl rfl), fun x => by omega, hmem⟩
      · omega
    | false =>
      rw [hdd] at hrd
      have hw := e1 rfl hrd
      have hin : c.toNat ∈ M := by
        rcases h.ws hw with q | q
        · exact q
        · rw [hdd] at q; cases q
      refine ⟨⟨fun x => (by rw [hrd] at x; cases x), fun x => ?_⟩, fun x => by omega, fun _ => by rw [h.m0 hdd]; exact hin, fun x => by omega, hmem⟩
      rcases x with ⟨-, x⟩ | ⟨x, -⟩
      · exact absurd hin x
      · exact absurd rfl x
  · have hrd := did_end h.di hd (by rw [h.kd]; decide)
    cases hdd : did with
    | true =>
      rw [hdd] at hrd
      rcases h.m1 hdd with ⟨q, -, -⟩ | ⟨-, a, b⟩
      · omega
      · exact ⟨⟨fun _ => .inr ⟨by decide, a⟩, fun _ => hrd⟩, fun x => by omega, fun x => by omega, fun _ x => ((b _).1 x).1 rfl, hmem⟩
    | false =>
      rw [hdd] at hrd
      have hw := e2 rfl hrd
      have hin : c.toNat ∉ M := by
        rcases h.ms hw with q | q
        · exact q
        · rw [hdd] at q; cases q
      refine ⟨⟨fun x => (by rw [hrd] at x; cases x), fun x => ?_⟩, fun x => by omega, fun x => by omega, fun _ => by rw [h.m0 hdd]; exact hin, hmem⟩
      rcases x with ⟨x, -⟩ | ⟨-, x⟩
      · omega
      · exact absurd x hin
  · obtain ⟨f1, f2⟩ := e3 rfl
    have hdd : did = false := by
      cases q : did with
      | false => rfl
      | true => rcases h.m1 q with ⟨x, -, -⟩ | ⟨x, -, -⟩ <;> omega
    refine ⟨⟨fun x => .inr ⟨by decide, ?_⟩, fun x => ?_⟩, fun _ => h.m0 hdd, fun x => by omega, fun x => by omega, hmem⟩
    · rcases h.ws (f1 x) with q | q
      · exact q
      · rw [hdd] at q; cases q
    · rcases x with ⟨x, -⟩ | ⟨-, x⟩
      · omega
      · cases hr : (l.pr 0).res with
        | true => rfl
        | false =>
          rcases h.ms (f2 hr) with q | q
          · exact absurd x q
          · rw [hdd] at q; cases q
theorem pr_out {l : Ls} {p : Nat} (h : l.ps.length ≤ p) : l.pr p = Po.zero := by
  unfold Ls.pr
  rw [List.getD_eq_getElem?_getD, List.getElem?_eq_none h]
  rfl
theorem rest_ph {l : Ls} (v : Vld l) (hb : busV l = 0) (p : Nat) : (l.pr p).phase = 0 ∨ (l.pr p).phase = 18 := by
  by_cases hp : p < l.ps.length
  · have ha := bz_zero.1 hb p hp
    have h := act_ph v hp
    rw [ha] at h
    by_cases a : (l.pr p).phase = 0
    · exact .inl a
    · by_cases b : (l.pr p).phase = 18
      · exact .inr b
      · exact absurd (h.2 ⟨a, b⟩) (by decide)
  · rw [pr_out (by omega)]; exact .inl rfl
theorem sm_one {f : Nat → Nat} (h : ∀ q, q ≠ 0 → f q = 0) (h0 : f 0 ≤ 1) : ∀ k, sm f k ≤ 1
  | 0 => by show 0 ≤ 1; omega
  | k + 1 => by
    show sm f k + f k ≤ 1
    by_cases e : k = 0
    · subst e; show 0 + f 0 ≤ 1; omega
    · rw [h k e]; exact sm_one h h0 k
theorem ser_beg {l : Ls} (h : Led l) (hb : busV l = 0) {k c : Int} (hc : 2 ≤ c ∧ c < l.cs.length) (hk : 1 ≤ k ∧ k ≤ 3) : ∃ was missed, Ser (memV l) k c (begV l 0 k c) (2 * (l.cs.length + 5) + 6) false was missed := by
  have v := h.1
  have hp : 0 < l.ps.length := v.m1
  have hr := rest_ph v hb
  have hB := led_beg h hp hc hk (hr 0)
  have e0 : (begV l 0 k c).pr 0 = ⟨k, c, 1, 0, (l.at_ 0).right, 0, false⟩ := by unfold begV; rw [Ls.pr_setP l hp, if_pos rfl]
  have eq : ∀ q, q ≠ 0 → (begV l 0 k c).pr q = l.pr q := fun q hq => by unfold begV; rw [Ls.pr_setP l hp, if_neg hq]
  have hmo := momL_beg (j := 0) (w := false) (q := false) h hp (k := k) hc hp (fun x => absurd rfl x) (fun _ => ⟨rfl, rfl⟩)
  have hbu : busV (begV l 0 k c) ≤ 1 := by
    unfold busV bz
    refine sm_one (fun q hq => ?_) ?_ _
    · have hi := ph_idle (x := l.pr q) (hr q)
      have e : (toSt (begV l 0 k c)).p q = toPr (l.pr q) := by show toPr ((begV l 0 k c).pr q) = _; rw [eq q hq]
      rw [e, if_neg]
      unfold act
      rcases hi with x | x <;> rw [x] <;> decide
    · show (if _ then 1 else 0) ≤ 1
      split <;> omega
  obtain ⟨v1, K, d, a1, a2, a3⟩ := led_bound hB
  have hn : (begV l 0 k c).cs.length = l.cs.length := (beg_kin l 0 k c).n
  have hle : bndV (begV l 0 k c) ≤ 2 * (l.cs.length + 5) + 6 := by
    unfold bndV
    rw [hn]
    have : busV (begV l 0 k c) = 0 ∨ busV (begV l 0 k c) = 1 := by omega
    rcases this with x | x <;> rw [x] <;> omega
  rw [e0, beg_mem] at hmo
  refine ⟨_, _, ⟨v1, K, d, a1, a2, Nat.le_trans a3 hle⟩, fun q hq => by rw [eq q hq]; exact hr q, by rw [e0], by rw [e0], by rw [e0]; exact did_beg, (fun x => (by rw [e0] at x; cases x)), hmo, fun _ => beg_mem l 0 k c, fun x => (by cases x), fun x => ?_, fun x => ?_⟩
  · rcases mrk_or x with q | q
    · left; simpa using q
    · cases q
  · rcases mrk_or x with q | q
    · left; simpa using q
    · cases q
end Lk
end
section
open Go.RowKit Go.Maps

namespace Lk
/-- The example of the chapter: an insertion into an empty list takes eight steps. -/
def kb11 : ByteArray := ⟨#[98]⟩
def xC (l0 r0 k0 l1 k1 l2 r2 : Int) (g2 : Bool) (x : Po) : Ls := ⟨[⟨⟨#[]⟩, l0, r0, k0, false⟩, ⟨⟨#[]⟩, l1, 0, k1, false⟩, ⟨kb11, l2, r2, 0, g2⟩], [x]⟩
def x0 : Ls := xC 0 1 0 0 0 0 0 true Po.zero
def x1 : Ls := xC 0 1 0 0 0 0 0 true ⟨1, 2, 1, 0, 1, 0, false⟩
def x2 : Ls := xC 0 1 0 0 0 0 0 true ⟨1, 2, 2, 0, 1, 0, false⟩
def x3 : Ls := xC 0 1 1 0 0 0 0 true ⟨1, 2, 3, 0, 1, 0, false⟩
def x4 : Ls := xC 0 1 1 0 1 0 0 true ⟨1, 2, 4, 0, 1, 0, false⟩
def x5 : Ls := xC 0 1 1 0 1 0 0 true ⟨1, 2, 6, 0, 1, 0, false⟩
def x6 : Ls := xC 0 1 1 0 1 0 1 true ⟨1, 2, 7, 0, 1, 0, false⟩
def x7 : Ls := xC 0 2 1 0 1 0 1 false ⟨1, 2, 8, 0, 1, 0, false⟩
def x8 : Ls := xC 0 2 1 2 1 0 1 false ⟨1, 2, 13, 0, 1, 0, true⟩
def x9 : Ls := xC 0 2 0 2 0 0 1 false ⟨1, 2, 18, 0, 1, 0, true⟩
theorem x_ok : NwOk [kb11] 1 := ⟨by decide, by decide, by decide, by decide, by simp⟩
theorem x_mem (keys : List ByteArray) (m : Nat) : memI (nwB keys m) (fun _ => false) = [] := by
  unfold memI
  have h : (List.range (nwB keys m).cs.length).filter (fun i => decide (2 ≤ i) && false) = [] := List.filter_eq_nil_iff.2 fun i _ => by simp
  rw [h]
  simp
theorem x_new : newV [kb11] 1 (fun _ => false) = x0 := by
  unfold newV ordV
  rw [x_mem]
  rfl
theorem x_beg : begV x0 0 1 2 = x1 := rfl
theorem x_s1 : stepV x1 0 = some x2 := rfl
theorem x_s2 : stepV x2 0 = some x3 := rfl
theorem x_s3 : stepV x3 0 = some x4 := rfl
theorem x_s4 : stepV x4 0 = some x5 := rfl
theorem x_s5 : stepV x5 0 = some x6 := rfl
theorem x_s6 : stepV x6 0 = some x7 := rfl
theorem x_s7 : stepV x7 0 = some x8 := rfl
theorem x_s8 : stepV x8 0 = some x9 := rfl
theorem x_led0 : Led x0 := by rw [← x_new]; exact led_new x_ok _
theorem x_led1 : Led x1 := by
  rw [← x_beg]
  exact led_beg x_led0 (by decide) ⟨by decide, by decide⟩ ⟨by decide, by decide⟩ (.inl rfl)
theorem x_led9 : Led x9 := led_step (led_step (led_step (led_step (led_step (led_step (led_step (led_step x_led1 (by decide) x_s1) (by decide) x_s2) (by decide) x_s3) (by decide) x_s4) (by decide) x_s5) (by decide) x_s6) (by decide) x_s7) (by decide) x_s8
theorem x_mem9 : memV x9 = [2] := by
  unfold memV memI
  have h : (List.range x9.cs.length).filter (fun i => decide (2 ≤ i) && !(x9.at_ i).gone) = [2] := rfl
  rw [h]
  simp
theorem x_chk9 : chkB x9 = true := led_chk x_led9
theorem x_act : (x1.pr 0).phase = 1 ∧ (x9.pr 0).phase = 18 ∧ (x9.pr 0).res = true := ⟨rfl, rfl, rfl⟩
end Lk
end
end Go.Proofs.YtmhbloefmknikaaGreatDoor
