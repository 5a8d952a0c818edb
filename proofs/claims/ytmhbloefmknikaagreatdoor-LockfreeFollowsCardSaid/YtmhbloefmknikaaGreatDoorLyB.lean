/-
  Lists of cells and processes as they are written, what Valid asks, the order of the cells and their ranks: plain. No condition.
  One step on a list as it is written, and that it is the step of the plain state: plain. No condition.
  A valid list stays valid: plain. No condition.
  Lists that New, Start and Step lead to: the invariant, the chain: plain. No condition.
  What Check answers, and that it is true of every list that is led to: plain. No condition.
  Neighbours in a list, the cells by their keys (Members): plain. No condition.
  What New gives, and that the invariant holds of it: plain. No condition.
  Which steps change the members, and what a result says of them: plain. No condition.
  The moments at which a result is right: plain. No condition.
  At most Bound steps are left, somebody can step, in the end all cells are free: plain. No condition.
  One process after another: plain. No condition.
  The example of chapter 11: plain. No condition.
-/
import Derived.Test.YtmhbloefmknikaaGreatDoorLsP
import Derived.Test.YtmhbloefmknikaaGreatDoorKyA
namespace Go.Proofs.YtmhbloefmknikaaGreatDoor
section
open Go.RowKit Go.Maps

namespace Lk
/-- A cell and a process as they are written: numbers of any size. -/
structure Ce where
  key : ByteArray
  left : Int
  right : Int
  lock : Int
  gone : Bool
structure Po where
  kind : Int
  cell : Int
  phase : Int
  pred : Int
  succ : Int
  next : Int
  res : Bool
structure Ls where
  cs : List Ce
  ps : List Po
def Ce.zero : Ce := ⟨⟨#[]⟩, 0, 0, 0, false⟩
def Po.zero : Po := ⟨0, 0, 0, 0, 0, 0, false⟩
def Ls.at_ (l : Ls) (i : Nat) : Ce := l.cs.getD i Ce.zero
def Ls.pr (l : Ls) (p : Nat) : Po := l.ps.getD p Po.zero
/-- One cell is less than another. -/
def blw (l : Ls) (a b : Nat) : Bool := if a = b ∨ a = 1 ∨ b = 0 then false else if a = 0 ∨ b = 1 then true else kl (l.at_ a).key (l.at_ b).key
/-- What Valid asks. -/
structure Vld (l : Ls) : Prop where
  n2 : 2 ≤ l.cs.length
  n66 : l.cs.length ≤ 66
  m1 : 1 ≤ l.ps.length
  m8 : l.ps.length ≤ 8
  e0 : (l.at_ 0).key = ⟨#[]⟩
  e1 : (l.at_ 1).key = ⟨#[]⟩
  vk : ∀ i, i < l.cs.length → vk (l.at_ i).key = true
  df : ∀ i, 2 ≤ i → i < l.cs.length → ∀ j, 2 ≤ j → j < l.cs.length → (l.at_ i).key = (l.at_ j).key → i = j
  lf : ∀ i, i < l.cs.length → 0 ≤ (l.at_ i).left ∧ (l.at_ i).left < l.cs.length
  rg : ∀ i, i < l.cs.length → 0 ≤ (l.at_ i).right ∧ (l.at_ i).right < l.cs.length
  lk : ∀ i, i < l.cs.length → 0 ≤ (l.at_ i).lock ∧ (l.at_ i).lock ≤ l.ps.length
  ce : ∀ p, p < l.ps.length → 0 ≤ (l.pr p).cell ∧ (l.pr p).cell < l.cs.length
  pd : ∀ p, p < l.ps.length → 0 ≤ (l.pr p).pred ∧ (l.pr p).pred < l.cs.length
  sc : ∀ p, p < l.ps.length → 0 ≤ (l.pr p).succ ∧ (l.pr p).succ < l.cs.length
  nx : ∀ p, p < l.ps.length → 0 ≤ (l.pr p).next ∧ (l.pr p).next < l.cs.length
  kd : ∀ p, p < l.ps.length → 0 ≤ (l.pr p).kind ∧ (l.pr p).kind ≤ 3
  ph : ∀ p, p < l.ps.length → (l.pr p).phase = 18 ∨ (0 ≤ (l.pr p).phase ∧ (l.pr p).phase ≤ 13)
  id : ∀ p, p < l.ps.length → ((l.pr p).kind = 0 ↔ (l.pr p).phase = 0)
/-- The rank of a cell: how many are below it. -/
def rnk (l : Ls) (i : Nat) : Nat := ((List.range l.cs.length).filter (fun j => blw l j i)).length
theorem blw_irr (l : Ls) (a : Nat) : blw l a a = false := if_pos (.inl rfl)
theorem blw_zero (l : Ls) {a : Nat} (h : a ≠ 0) : blw l 0 a = true := by
  unfold blw; rw [if_neg (by omega), if_pos (.inl rfl)]
theorem blw_one (l : Ls) {a : Nat} (h : a ≠ 1) : blw l a 1 = true := by
  unfold blw; rw [if_neg (by omega), if_pos (.inr rfl)]
theorem blw_key (l : Ls) {a b : Nat} (ha : 2 ≤ a) (hb : 2 ≤ b) : blw l a b = kl (l.at_ a).key (l.at_ b).key := by
  unfold blw
  by_cases h : a = b
  · rw [if_pos (.inl h), h, kl_irrefl]
  · rw [if_neg (by omega), if_neg (by omega)]
theorem blw_from1 (l : Ls) (b : Nat) : blw l 1 b = false := if_pos (.inr (.inl rfl))
theorem blw_to0 (l : Ls) (a : Nat) : blw l a 0 = false := if_pos (.inr (.inr rfl))
theorem blw_trans (l : Ls) {a b c : Nat} (h : blw l a b = true) (k : blw l b c = true) : blw l a c = true := by
  have ha1 : a ≠ 1 := fun e => by rw [e, blw_from1] at h; cases h
  have hb1 : b ≠ 1 := fun e => by rw [e, blw_from1] at k; cases k
  have hb0 : b ≠ 0 := fun e => by rw [e, blw_to0] at h; cases h
  have hc0 : c ≠ 0 := fun e => by rw [e, blw_to0] at k; cases k
  by_cases a0 : a = 0
  · subst a0; exact blw_zero l hc0
  · by_cases c1 : c = 1
    · subst c1; exact blw_one l ha1
    · rw [blw_key l (by omega) (by omega)] at h k ⊢
      exact kl_trans h k
theorem blw_tri {l : Ls} (v : Vld l) {a b : Nat} (ha : a < l.cs.length) (hb : b < l.cs.length) (hne : a ≠ b) : blw l a b = true ∨ blw l b a = true := by
  by_cases a0 : a = 0
  · subst a0; exact .inl (blw_zero l (Ne.symm hne))
  · by_cases b0 : b = 0
    · subst b0; exact .inr (blw_zero l hne)
    · by_cases a1 : a = 1
      · subst a1; exact .inr (blw_one l (Ne.symm hne))
      · by_cases b1 : b = 1
        · subst b1; exact .inl (blw_one l hne)
        · rw [blw_key l (by omega) (by omega), blw_key l (by omega) (by omega)]
          cases h : kl (l.at_ a).key (l.at_ b).key with
          | true => exact .inl rfl
          | false => 
            cases k : kl (l.at_ b).key (l.at_ a).key with
            | true => exact .inr rfl
            | false => exact absurd (v.df a (by omega) ha b (by omega) hb (kl_tri h k)) hne
theorem filt_le {p q : Nat → Bool} (h : ∀ i, p i = true → q i = true) : ∀ s : List Nat, (s.filter p).length ≤ (s.filter q).length
  | [] => Nat.le_refl _
  | x :: s => by
    have ih := filt_le h s
    rw [List.filter_cons, List.filter_cons]
    cases hp : p x with
    | true => rw [h x hp]; simpa using ih
    | false => cases hq : q x <;> simp <;> omega
theorem filt_lt {p q : Nat → Bool} (h : ∀ i, p i = true → q i = true) {y : Nat} (hy : p y = false) (hq : q y = true) : ∀ s : List Nat, y ∈ s → (s.filter p).length < (s.filter q).length
  | [], m => by cases m
  | x :: s, m => by
    rw [List.filter_cons, List.filter_cons]
    rcases List.mem_cons.1 m with rfl | m
    · rw [hy, hq]
      have := filt_le h s
      simp
      omega
    · have ih := filt_lt h hy hq s m
      cases hp : p x with
      | true => rw [h x hp]; simpa using ih
      | false => cases hx : q x <;> simp <;> omega
theorem rnk_lt {l : Ls} {a b : Nat} (ha : a < l.cs.length) (h : blw l a b = true) : rnk l a < rnk l b :=
  filt_lt (p := fun j => blw l j a) (q := fun j => blw l j b) (fun _ k => blw_trans l k h) (blw_irr l a) h _ (List.mem_range.2 ha)
theorem rnk_iff {l : Ls} (v : Vld l) {a b : Nat} (ha : a < l.cs.length) (hb : b < l.cs.length) : blw l a b = true ↔ rnk l a < rnk l b := by
  refine ⟨rnk_lt ha, fun h => ?_⟩
  by_cases e : a = b
  · subst e; omega
  · rcases blw_tri v ha hb e with k | k
    · exact k
    · have := rnk_lt hb k; omega
theorem rnk_n {l : Ls} {a : Nat} (ha : a < l.cs.length) : rnk l a < l.cs.length := by
  have h := filt_lt (p := fun j => blw l j a) (q := fun _ => true) (fun _ _ => rfl) (blw_irr l a) rfl _ (List.mem_range.2 ha)
  rw [List.filter_eq_self.2 (fun _ _ => rfl), List.length_range] at h
  exact h
theorem rnk_odr {l : Ls} (v : Vld l) : Odr l.cs.length (rnk l) where
  two := v.n2
  inj a b ha hb e := by
    by_cases h : a = b
    · exact h
    · rcases blw_tri v ha hb h with k | k
      · have := rnk_lt ha k; omega
      · have := rnk_lt hb k; omega
  fst a ha h := rnk_lt (by have := v.n2; omega) (blw_zero l h)
  lst a ha h := rnk_lt ha (blw_one l h)
/-- Only keys count for the order. -/
theorem blw_keys {l l' : Ls} (h : ∀ i, (l'.at_ i).key = (l.at_ i).key) (a b : Nat) : blw l' a b = blw l a b := by
  unfold blw; rw [h, h]
theorem rnk_keys {l l' : Ls} (h : ∀ i, (l'.at_ i).key = (l.at_ i).key) (hn : l'.cs.length = l.cs.length) (i : Nat) : rnk l' i = rnk l i := by
  unfold rnk
  rw [hn]
  congr 2
  funext j
  exact blw_keys h j i
end Lk
end
section
open Go.RowKit Go.Maps

namespace Lk
def kdOf (k : Int) : Kd := if k = 1 then .ins else if k = 2 then .rem else if k = 3 then .fnd else .none
def Ls.setC (l : Ls) (i : Nat) (c : Ce) : Ls := { l with cs := l.cs.set i c }
def Ls.setP (l : Ls) (p : Nat) (x : Po) : Ls := { l with ps := l.ps.set p x }
def Ls.free (l : Ls) (p : Nat) : Ls := { l with cs := l.cs.map (fun c => if c.lock = (p : Int) + 1 then { c with lock := 0 } else c) }
/-- A step of an active process; none: it waits. -/
def stepV (l : Ls) (p : Nat) : Option Ls :=
  let x := l.pr p
  let pd := x.pred.toNat
  let sc := x.succ.toNat
  let ce := x.cell.toNat
  let nx := x.next.toNat
  if x.phase = 1 then
    if blw l sc ce = true then some (l.setP p { x with pred := x.succ, succ := (l.at_ sc).right })
    else some (l.setP p { x with phase := if x.kind = 3 then 4 else 2 })
  else if x.phase = 2 then
    if (l.at_ pd).lock ≠ 0 then none else some ((l.setC pd { l.at_ pd with lock := (p : Int) + 1 }).setP p { x with phase := 3 })
  else if x.phase = 3 then
    if (l.at_ sc).lock ≠ 0 then none else some ((l.setC sc { l.at_ sc with lock := (p : Int) + 1 }).setP p { x with phase := 4 })
  else if x.phase = 4 then
    if x.kind = 3 then some (l.setP p { x with res := decide (x.succ = x.cell) && !(l.at_ ce).gone, phase := 18 })
    else if (l.at_ pd).gone = true ∨ (l.at_ sc).gone = true ∨ (l.at_ pd).right ≠ x.succ then some (l.setP p { x with phase := 5 })
    else if x.kind = 1 ∧ x.succ ≠ x.cell then some (l.setP p { x with phase := 6 })
    else if x.kind = 2 ∧ x.succ = x.cell then some (l.setP p { x with phase := 9 })
    else some (l.setP p { x with phase := 13 })
  else if x.phase = 5 then some ((l.free p).setP p { x with pred := 0, succ := (l.at_ 0).right, phase := 1 })
  else if x.phase = 6 then some ((l.setC ce { l.at_ ce with left := x.pred, right := x.succ }).setP p { x with phase := 7 })
  else if x.phase = 7 then
    let l1 := l.setC pd { l.at_ pd with right := x.cell }
    some ((l1.setC ce { l1.at_ ce with gone := false }).setP p { x with phase := 8 })
  else if x.phase = 8 then some ((l.setC sc { l.at_ sc with left := x.cell }).setP p { x with res := true, phase := 13 })
  else if x.phase = 9 then
    let n := (l.at_ ce).right
    if (l.at_ n.toNat).lock ≠ 0 then none else some ((l.setC n.toNat { l.at_ n.toNat with lock := (p : Int) + 1 }).setP p { x with next := n, phase := 10 })
  else if x.phase = 10 then some ((l.setC ce { l.at_ ce with gone := true }).setP p { x with phase := 11 })
  else if x.phase = 11 then some ((l.setC pd { l.at_ pd with right := x.next }).setP p { x with phase := 12 })
  else if x.phase = 12 then some ((l.setC nx { l.at_ nx with left := x.pred }).setP p { x with res := true, phase := 13 })
  else if x.phase = 13 then some ((l.free p).setP p { x with phase := 18 })
  else none
theorem getD_set {α : Type} (l : List α) (i j : Nat) (x z : α) (h : i < l.length) : (l.set i x).getD j z = if j = i then x else l.getD j z := by
  rw [List.getD_eq_getElem?_getD, List.getD_eq_getElem?_getD, List.getElem?_set]
  by_cases e : i = j
  · subst e; simp [h]
  · rw [if_neg e, if_neg (Ne.symm e)]
theorem Ls.at_setC (l : Ls) {i : Nat} (h : i < l.cs.length) (c : Ce) (j : Nat) : (l.setC i c).at_ j = if j = i then c else l.at_ j := getD_set _ _ _ _ _ h
theorem Ls.pr_setP (l : Ls) {p : Nat} (h : p < l.ps.length) (x : Po) (j : Nat) : (l.setP p x).pr j = if j = p then x else l.pr j := getD_set _ _ _ _ _ h
theorem Ls.at_setP (l : Ls) (p : Nat) (x : Po) (j : Nat) : (l.setP p x).at_ j = l.at_ j := rfl
theorem Ls.at_free (l : Ls) (p j : Nat) : (l.free p).at_ j = if (l.at_ j).lock = (p : Int) + 1 then { l.at_ j with lock := 0 } else l.at_ j := by
  unfold Ls.at_ Ls.free
  simp only [List.getD_eq_getElem?_getD, List.getElem?_map]
  cases h : l.cs[j]? with
  | none =>
    show Ce.zero = if Ce.zero.lock = (p : Int) + 1 then _ else Ce.zero
    have hz : ¬ Ce.zero.lock = (p : Int) + 1 := by
      show ¬ (0 : Int) = (p : Int) + 1
      omega
    rw [if_neg hz]
  | some c => simp
theorem Ls.len_setC (l : Ls) (i : Nat) (c : Ce) : (l.setC i c).cs.length = l.cs.length := List.length_set ..
theorem Ls.len_setP (l : Ls) (p : Nat) (x : Po) : (l.setP p x).ps.length = l.ps.length := List.length_set ..
theorem Ls.len_free (l : Ls) (p : Nat) : (l.free p).cs.length = l.cs.length := List.length_map ..
theorem kd_none {k : Int} (h0 : 0 ≤ k) (h3 : k ≤ 3) : kdOf k = .none ↔ k = 0 := by
  rcases (by omega : k = 0 ∨ k = 1 ∨ k = 2 ∨ k = 3) with rfl | rfl | rfl | rfl <;> decide
theorem kd_all (k : Int) : (kdOf k = .ins ↔ k = 1) ∧ (kdOf k = .rem ↔ k = 2) ∧ (kdOf k = .fnd ↔ k = 3) := by
  unfold kdOf
  by_cases h1 : k = 1
  · subst h1; decide
  · by_cases h2 : k = 2
    · subst h2; decide
    · by_cases h3 : k = 3
      · subst h3; decide
      · simp [h1, h2, h3]
theorem kd_ins (k : Int) : kdOf k = .ins ↔ k = 1 := (kd_all k).1
theorem kd_fnd (k : Int) : kdOf k = .fnd ↔ k = 3 := (kd_all k).2.2
theorem nat_eq {a b : Int} (ha : 0 ≤ a) (hb : 0 ≤ b) : a.toNat = b.toNat ↔ a = b := by omega
end Lk
end
section
open Go.RowKit Go.Maps

namespace Lk
/-- Start on a list as it is written. -/
def begV (l : Ls) (p : Nat) (k c : Int) : Ls := l.setP p ⟨k, c, 1, 0, (l.at_ 0).right, 0, false⟩
/-- What a change of cells or of one process may do and leave the list valid. -/
theorem vld_setP {l : Ls} (v : Vld l) {p : Nat} (hp : p < l.ps.length) {x : Po} (h1 : 0 ≤ x.cell ∧ x.cell < l.cs.length) (h2 : 0 ≤ x.pred ∧ x.pred < l.cs.length) (h3 : 0 ≤ x.succ ∧ x.succ < l.cs.length) (h4 : 0 ≤ x.next ∧ x.next < l.cs.length) (h5 : 0 ≤ x.kind ∧ x.kind ≤ 3) (h6 : x.phase = 18 ∨ (0 ≤ x.phase ∧ x.phase ≤ 13)) (h7 : x.kind = 0 ↔ x.phase = 0) : Vld (l.setP p x) where
  n2 := v.n2
  n66 := v.n66
  m1 := by rw [Ls.len_setP]; exact v.m1
  m8 := by rw [Ls.len_setP]; exact v.m8
  e0 := v.e0
  e1 := v.e1
  vk := v.vk
  df := v.df
  lf := v.lf
  rg := v.rg
  lk i hi := by rw [Ls.len_setP]; exact v.lk i hi
  ce q hq := by rw [Ls.len_setP] at hq; rw [Ls.pr_setP l hp]; split; exact h1; exact v.ce q hq
  pd q hq := by rw [Ls.len_setP] at hq; rw [Ls.pr_setP l hp]; split; exact h2; exact v.pd q hq
  sc q hq := by rw [Ls.len_setP] at hq; rw [Ls.pr_setP l hp]; split; exact h3; exact v.sc q hq
  nx q hq := by rw [Ls.len_setP] at hq; rw [Ls.pr_setP l hp]; split; exact h4; exact v.nx q hq
  kd q hq := by rw [Ls.len_setP] at hq; rw [Ls.pr_setP l hp]; split; exact h5; exact v.kd q hq
  ph q hq := by rw [Ls.len_setP] at hq; rw [Ls.pr_setP l hp]; split; exact h6; exact v.ph q hq
  id q hq := by rw [Ls.len_setP] at hq; rw [Ls.pr_setP l hp]; split; exact h7; exact v.id q hq
theorem vld_cells {l l' : Ls} (v : Vld l) (hn : l'.cs.length = l.cs.length) (hps : l'.ps = l.ps) (hk : ∀ i, (l'.at_ i).key = (l.at_ i).key) (hl : ∀ i, i < l.cs.length → 0 ≤ (l'.at_ i).left ∧ (l'.at_ i).left < l.cs.length) (hr : ∀ i, i < l.cs.length → 0 ≤ (l'.at_ i).right ∧ (l'.at_ i).right < l.cs.length) (hk2 : ∀ i, i < l.cs.length → 0 ≤ (l'.at_ i).lock ∧ (l'.at_ i).lock ≤ l.ps.length) : Vld l' where
  n2 := by rw [hn]; exact v.n2
  n66 := by rw [hn]; exact v.n66
  m1 := by rw [hps]; exact v.m1
  m8 := by rw [hps]; exact v.m8
  e0 := by rw [hk]; exact v.e0
  e1 := by rw [hk]; exact v.e1
  vk i hi := by rw [hk]; rw [hn] at hi; exact v.vk i hi
  df i a hi j b hj := by rw [hk, hk]; rw [hn] at hi hj; exact v.df i a hi j b hj
  lf i hi := by rw [hn] at hi ⊢; exact hl i hi
  rg i hi := by rw [hn] at hi ⊢; exact hr i hi
  lk i hi := by rw [hn] at hi; rw [hps]; exact hk2 i hi
  ce q hq := by rw [hps] at hq; rw [hn]; unfold Ls.pr; rw [hps]; exact v.ce q hq
  pd q hq := by rw [hps] at hq; rw [hn]; unfold Ls.pr; rw [hps]; exact v.pd q hq
  sc q hq := by rw [hps] at hq; rw [hn]; unfold Ls.pr; rw [hps]; exact v.sc q hq
  nx q hq := by rw [hps] at hq; rw [hn]; unfold Ls.pr; rw [hps]; exact v.nx q hq
  kd q hq := by rw [hps] at hq; unfold Ls.pr; rw [hps]; exact v.kd q hq
  ph q hq := by rw [hps] at hq; unfold Ls.pr; rw [hps]; exact v.ph q hq
  id q hq := by rw [hps] at hq; unfold Ls.pr; rw [hps]; exact v.id q hq
theorem vld_setC {l : Ls} (v : Vld l) {i : Nat} (hi : i < l.cs.length) {c : Ce} (hk : c.key = (l.at_ i).key) (h1 : 0 ≤ c.left ∧ c.left < l.cs.length) (h2 : 0 ≤ c.right ∧ c.right < l.cs.length) (h3 : 0 ≤ c.lock ∧ c.lock ≤ l.ps.length) : Vld (l.setC i c) :=
  vld_cells v (Ls.len_setC ..) rfl (fun j => by rw [Ls.at_setC l hi]; split; (rename_i e; rw [e]; exact hk); rfl)
    (fun j hj => by rw [Ls.at_setC l hi]; split; exact h1; exact v.lf j hj)
    (fun j hj => by rw [Ls.at_setC l hi]; split; exact h2; exact v.rg j hj)
    (fun j hj => by rw [Ls.at_setC l hi]; split; exact h3; exact v.lk j hj)
/-- What a step leaves as it is. -/
structure Kin (l l' : Ls) : Prop where
  n : l'.cs.length = l.cs.length
  m : l'.ps.length = l.ps.length
  k : ∀ i, (l'.at_ i).key = (l.at_ i).key
theorem Kin.rnk {l l' : Ls} (h : Kin l l') : rnk l' = rnk l := funext fun i => rnk_keys h.k h.n i
theorem Kin.setP {l l' : Ls} (h : Kin l l') (p : Nat) (x : Po) : Kin l (l'.setP p x) := ⟨h.n, by rw [Ls.len_setP]; exact h.m, h.k⟩
theorem Kin.refl (l : Ls) : Kin l l := ⟨rfl, rfl, fun _ => rfl⟩
theorem Kin.setC {l l' : Ls} (h : Kin l l') {i : Nat} (hi : i < l'.cs.length) {c : Ce} (hk : c.key = (l'.at_ i).key) : Kin l (l'.setC i c) :=
  ⟨by rw [Ls.len_setC]; exact h.n, h.m, fun j => by rw [Ls.at_setC l' hi]; split; (rename_i e; rw [e, hk]; exact h.k i); exact h.k j⟩
theorem Kin.free {l l' : Ls} (h : Kin l l') (p : Nat) : Kin l (l'.free p) :=
  ⟨by rw [Ls.len_free]; exact h.n, h.m, fun j => by rw [Ls.at_free]; split <;> exact h.k j⟩
end Lk
end
section
open Go.RowKit Go.Maps

namespace Lk
/-- The chain from a cell to the tail; none: it does not ascend to it. -/
def chnV (l : Ls) : Nat → Nat → Option (List Nat)
  | 0, _ => none
  | f + 1, a => if a = 1 then some [1] else if blw l a (l.at_ a).right.toNat = true then (chnV l f (l.at_ a).right.toNat).map (a :: ·) else none
end Lk
end
section
open Go.RowKit Go.Maps

namespace Lk
noncomputable def vldB (l : Ls) : Bool := @decide (Vld l) (Classical.propDecidable _)
end Lk
end
section
open Go.RowKit Go.Maps

namespace Lk
/-- The element after one in a list, the one before; 0: there is none. -/
def nxtL : List Nat → Nat → Nat
  | a :: b :: r, x => if x = a then b else nxtL (b :: r) x
  | _, _ => 0
def prvL : List Nat → Nat → Nat
  | a :: b :: r, x => if x = b then a else prvL (b :: r) x
  | _, _ => 0
section
variable {rk : Nat → Nat}
theorem nxt_out : ∀ {L : List Nat} {x : Nat}, x ∉ L → nxtL L x = 0
  | [], _, _ => rfl
  | [_], _, _ => rfl
  | a :: b :: r, x, h => by
    show (if x = a then b else nxtL (b :: r) x) = 0
    rw [if_neg (fun e => h (by rw [e]; simp))]
    exact nxt_out (fun m => h (List.mem_cons_of_mem _ m))
theorem asc_ne {a : Nat} {L : List Nat} (h : (a :: L).Pairwise (fun x y => rk x < rk y)) {x : Nat} (m : x ∈ L) : x ≠ a := fun e => by
  have := (List.pairwise_cons.1 h).1 x m
  rw [e] at this
  omega
theorem nxt_in : ∀ {L : List Nat} {z x : Nat}, L.Pairwise (fun x y => rk x < rk y) → L.getLast? = some z → x ∈ L → x ≠ z → nxtL L x ∈ L ∧ rk x < rk (nxtL L x) ∧ (∀ d, d ∈ L → rk x < rk d → rk (nxtL L x) ≤ rk d) ∧ prvL L (nxtL L x) = x
  | [], _, _, _, _, m, _ => by cases m
  | [a], z, x, _, hz, m, hne => by
    have h1 : a = z := by simpa using hz
    have h2 : x = a := by simpa using m
    exact absurd (h2.trans h1) hne
  | a :: b :: r, z, x, h, hz, m, hne => by
    have hbr := (List.pairwise_cons.1 h).2
    have hab := (List.pairwise_cons.1 h).1
    have hz2 : (b :: r).getLast? = some z := by rw [← hz, List.getLast?_cons_cons]
    by_cases e : x = a
    · subst e
      have e1 : nxtL (x :: b :: r) x = b := if_pos rfl
      rw [e1]
      refine ⟨by simp, hab b (by simp), fun d hd hlt => ?_, if_pos rfl⟩
      rcases List.mem_cons.1 hd with rfl | hd
      · omega
      · rcases List.mem_cons.1 hd with rfl | hd
        · exact Nat.le_refl _
        · exact Nat.le_of_lt ((List.pairwise_cons.1 hbr).1 d hd)
    · have m2 : x ∈ b :: r := (List.mem_cons.1 m).resolve_left e
      obtain ⟨i1, i2, i3, i4⟩ := nxt_in hbr hz2 m2 hne
      have e1 : nxtL (a :: b :: r) x = nxtL (b :: r) x := if_neg e
      rw [e1]
      refine ⟨List.mem_cons_of_mem _ i1, i2, fun d hd hlt => ?_, ?_⟩
      · rcases List.mem_cons.1 hd with rfl | hd
        · have := hab x m2; omega
        · exact i3 d hd hlt
      · have hnb : nxtL (b :: r) x ≠ b := fun q => by
          rw [q] at i2
          rcases List.mem_cons.1 m2 with rfl | m3
          · omega
          · have := (List.pairwise_cons.1 hbr).1 x m3; omega
        show (if nxtL (b :: r) x = b then a else prvL (b :: r) (nxtL (b :: r) x)) = x
        rw [if_neg hnb]
        exact i4
theorem nxt_last : ∀ {L : List Nat} {z : Nat}, L.Pairwise (fun x y => rk x < rk y) → L.getLast? = some z → nxtL L z = 0
  | [], _, _, _ => rfl
  | [_], _, _, _ => rfl
  | a :: b :: r, z, h, hz => by
    have hz2 : (b :: r).getLast? = some z := by rw [← hz, List.getLast?_cons_cons]
    have hm : z ∈ b :: r := List.mem_of_getLast? hz2
    show (if z = a then b else nxtL (b :: r) z) = 0
    rw [if_neg (asc_ne h hm)]
    exact nxt_last (List.pairwise_cons.1 h).2 hz2
end
/-- The cells from 2 on that are chosen, by their keys. -/
def memI (l : Ls) (sel : Nat → Bool) : List Nat := ((List.range l.cs.length).filter (fun i => decide (2 ≤ i) && sel i)).mergeSort (fun a b => decide (rnk l a ≤ rnk l b))
theorem mem_memI (l : Ls) (sel : Nat → Bool) (i : Nat) : i ∈ memI l sel ↔ i < l.cs.length ∧ 2 ≤ i ∧ sel i = true := by
  unfold memI
  rw [List.mem_mergeSort, List.mem_filter, List.mem_range, Bool.and_eq_true, decide_eq_true_eq]
theorem memI_asc {l : Ls} (v : Vld l) (sel : Nat → Bool) : (memI l sel).Pairwise (fun a b => rnk l a < rnk l b) := by
  have o := rnk_odr v
  have h1 : (memI l sel).Pairwise (fun a b => decide (rnk l a ≤ rnk l b) = true) := List.pairwise_mergeSort (fun a b c => by simp; omega) (fun a b => by simp; omega) _
  have h2 : (memI l sel).Nodup := by
    unfold memI
    exact (List.mergeSort_perm _ _).nodup_iff.2 ((List.nodup_range).filter _)
  have h3 : (memI l sel).Pairwise (fun a b => rnk l a ≤ rnk l b ∧ a ≠ b) := List.Pairwise.and (h1.imp (fun h => by simpa using h)) h2
  refine List.Pairwise.imp_of_mem (fun {a b} ha hb h => ?_) h3
  have ha := ((mem_memI l sel a).1 ha).1
  have hb := ((mem_memI l sel b).1 hb).1
  have : rnk l a ≠ rnk l b := fun e => h.2 (o.inj a b ha hb e)
  omega
/-- What Members answers of a valid list. -/
def memV (l : Ls) : List Nat := memI l (fun i => !(l.at_ i).gone)
end Lk
end
section
open Go.RowKit Go.Maps

namespace Lk
/-- The cells of some keys, none linked; processes that do nothing. -/
def nwB (keys : List ByteArray) (m : Nat) : Ls := ⟨Ce.zero :: Ce.zero :: keys.map (fun k => ⟨k, 0, 0, 0, false⟩), List.replicate m Po.zero⟩
/-- When New gives a list. -/
structure NwOk (keys : List ByteArray) (m : Nat) : Prop where
  n : keys.length ≤ 64
  m1 : 1 ≤ m
  m8 : m ≤ 8
  v : ∀ k, k ∈ keys → vk k = true
  d : keys.Nodup
theorem nwB_len (keys : List ByteArray) (m : Nat) : (nwB keys m).cs.length = keys.length + 2 := by simp [nwB]
theorem nwB_at (keys : List ByteArray) (m : Nat) {i : Nat} (h : i < keys.length) : (nwB keys m).at_ (i + 2) = ⟨keys[i], 0, 0, 0, false⟩ := by
  unfold nwB Ls.at_
  simp [List.getD_eq_getElem?_getD, h]
theorem nw_pr (cs : List Ce) (m p : Nat) : (Ls.mk cs (List.replicate m Po.zero)).pr p = Po.zero := by
  unfold Ls.pr
  rw [List.getD_eq_getElem?_getD, List.getElem?_replicate]
  split <;> rfl
theorem nwB_zero (keys : List ByteArray) (m i : Nat) : ((nwB keys m).at_ i).left = 0 ∧ ((nwB keys m).at_ i).right = 0 ∧ ((nwB keys m).at_ i).lock = 0 := by
  match i with
  | 0 => exact ⟨rfl, rfl, rfl⟩
  | 1 => exact ⟨rfl, rfl, rfl⟩
  | i + 2 =>
    by_cases h : i < keys.length
    · rw [nwB_at keys m h]; exact ⟨rfl, rfl, rfl⟩
    · have e : (nwB keys m).at_ (i + 2) = Ce.zero := by
        unfold Ls.at_
        rw [List.getD_eq_getElem?_getD, List.getElem?_eq_none (by rw [nwB_len]; omega)]
        rfl
      rw [e]; exact ⟨rfl, rfl, rfl⟩
theorem nwB_vld {keys : List ByteArray} {m : Nat} (h : NwOk keys m) : Vld (nwB keys m) := by
  have hn := nwB_len keys m
  have hm : (nwB keys m).ps.length = m := by simp [nwB]
  have hz := nwB_zero keys m
  have hp : ∀ p, (nwB keys m).pr p = Po.zero := fun p => nw_pr _ m p
  have h1 := h.m1
  have hx : ∀ (a b : Int), a = 0 → b ≥ 2 → 0 ≤ a ∧ a < b := fun a b e f => by omega
  refine ⟨by omega, by have := h.n; omega, by omega, by have := h.m8; omega, rfl, rfl, ?_, ?_, ?_, ?_, ?_, ?_, ?_, ?_, ?_, ?_, ?_, ?_⟩
  · intro i hi
    match i with
    | 0 => show vk Ce.zero.key = true; decide
    | 1 => show vk Ce.zero.key = true; decide
    | i + 2 => rw [nwB_at keys m (by omega)]; exact h.v _ (List.getElem_mem _)
  · intro i hi hin j hj hjn e
    obtain ⟨i, rfl⟩ : ∃ k, i = k + 2 := ⟨i - 2, by omega⟩
    obtain ⟨j, rfl⟩ : ∃ k, j = k + 2 := ⟨j - 2, by omega⟩
    rw [nwB_at keys m (by omega), nwB_at keys m (by omega)] at e
    have hp := List.pairwise_iff_getElem.1 h.d
    rcases Nat.lt_trichotomy i j with q | q | q
    · exact absurd e (hp i j (by omega) (by omega) q)
    · omega
    · exact absurd e.symm (hp j i (by omega) (by omega) q)
  · intro i hi; exact hx _ _ (hz i).1 (by omega)
  · intro i hi; exact hx _ _ (hz i).2.1 (by omega)
  · intro i hi; rw [(hz i).2.2]; exact ⟨Int.le_refl _, by omega⟩
  · intro p _; rw [hp]; exact hx _ _ rfl (by omega)
  · intro p _; rw [hp]; exact hx _ _ rfl (by omega)
  · intro p _; rw [hp]; exact hx _ _ rfl (by omega)
  · intro p _; rw [hp]; exact hx _ _ rfl (by omega)
  · intro p _; rw [hp]; decide
  · intro p _; rw [hp]; decide
  · intro p _; rw [hp]; decide
/-- The order of the members between the head and the tail. -/
def ordV (keys : List ByteArray) (m : Nat) (sel : Nat → Bool) : List Nat := 0 :: (memI (nwB keys m) sel ++ [1])
/-- What New answers. -/
def newV (keys : List ByteArray) (m : Nat) (sel : Nat → Bool) : Ls :=
  ⟨(List.range (keys.length + 2)).map (fun i => ⟨((nwB keys m).at_ i).key, (prvL (ordV keys m sel) i : Nat), (nxtL (ordV keys m sel) i : Nat), 0, decide (2 ≤ i) && !sel i⟩), List.replicate m Po.zero⟩
theorem ord_asc {keys : List ByteArray} {m : Nat} (h : NwOk keys m) (sel : Nat → Bool) : (ordV keys m sel).Pairwise (fun a b => rnk (nwB keys m) a < rnk (nwB keys m) b) := by
  have v := nwB_vld h
  have o := rnk_odr v
  have hn := nwB_len keys m
  unfold ordV
  rw [List.pairwise_cons, List.pairwise_append]
  refine ⟨fun a ha => ?_, memI_asc v sel, List.pairwise_singleton _ _, fun a ha b hb => ?_⟩
  · rcases List.mem_append.1 ha with ha | ha
    · have := (mem_memI _ _ _).1 ha
      exact o.fst a this.1 (by omega)
    · obtain rfl : a = 1 := by simpa using ha
      exact o.fst 1 (by omega) (by omega)
  · obtain rfl : b = 1 := by simpa using hb
    have := (mem_memI _ _ _).1 ha
    exact o.lst a this.1 (by omega)
theorem ord_last (keys : List ByteArray) (m : Nat) (sel : Nat → Bool) : (ordV keys m sel).getLast? = some 1 := by
  unfold ordV
  rw [← List.cons_append, List.getLast?_append]
  simp
theorem mem_ord {keys : List ByteArray} {m : Nat} {sel : Nat → Bool} (i : Nat) : i ∈ ordV keys m sel ↔ i = 0 ∨ i = 1 ∨ (i < keys.length + 2 ∧ 2 ≤ i ∧ sel i = true) := by
  unfold ordV
  rw [List.mem_cons, List.mem_append, mem_memI, nwB_len, List.mem_singleton]
  constructor
  · rintro (h | h | h)
    · exact .inl h
    · exact .inr (.inr h)
    · exact .inr (.inl h)
  · rintro (h | h | h)
    · exact .inl h
    · exact .inr (.inr h)
    · exact .inr (.inl h)
end Lk
end
section
open Go.RowKit Go.Maps

namespace Lk
theorem mem_memV {l : Ls} (i : Nat) : i ∈ memV l ↔ i < l.cs.length ∧ 2 ≤ i ∧ (l.at_ i).gone = false := by
  unfold memV
  rw [mem_memI]
  simp
end Lk
end
section
open Go.RowKit Go.Maps

set_option linter.unusedSimpArgs false
set_option linter.unusedVariables false
namespace Lk
end Lk
end
section
open Go.RowKit Go.Maps

namespace Lk
end Lk
end
section
open Go.RowKit Go.Maps

namespace Lk
end Lk
end
section
open Go.RowKit Go.Maps

namespace Lk
/-- The example of the chapter: an insertion into an empty list takes eight steps. -/
def kb11 : ByteArray := ⟨#[98]⟩
def xC (l0 r0 k0 l1 k1 l2 r2 : Int) (g2 : Bool) (x : Po) : Ls := ⟨[⟨⟨#[]⟩, l0, r0, k0, false⟩, ⟨⟨#[]⟩, l1, 0, k1, false⟩, ⟨kb11, l2, r2, 0, g2⟩], [x]⟩
def x0 : Ls := xC 0 1 0 0 0 0 0 true Po.zero
def x1 : Ls := xC 0 1 0 0 0 0 0 true ⟨1, 2, 1, 0, 1, 0, false⟩
def x2 : Ls := xC 0 1 0 0 0 0 0 true ⟨1, 2, 2, 0, 1, 0, false⟩
def x3 : Ls := xC 0 1 1 0 0 0 0 true ⟨1, 2, 3, 0, 1, 0, false⟩
def x4 : Ls := xC 0 1 1 0 1 0 0 true ⟨1, 2, 4, 0, 1, 0, false⟩
def x5 : Ls := xC 0 1 1 0 1 0 0 true ⟨1, 2, 6, 0, 1, 0, false⟩
def x6 : Ls := xC 0 1 1 0 1 0 1 true ⟨1, 2, 7, 0, 1, 0, false⟩
def x7 : Ls := xC 0 2 1 0 1 0 1 false ⟨1, 2, 8, 0, 1, 0, false⟩
def x8 : Ls := xC 0 2 1 2 1 0 1 false ⟨1, 2, 13, 0, 1, 0, true⟩
def x9 : Ls := xC 0 2 0 2 0 0 1 false ⟨1, 2, 18, 0, 1, 0, true⟩
theorem x_ok : NwOk [kb11] 1 := ⟨by decide, by decide, by decide, by decide, by simp⟩
theorem x_mem (keys : List ByteArray) (m : Nat) : memI (nwB keys m) (fun _ => false) = [] := by
  unfold memI
  have h : (List.range (nwB keys m).cs.length).filter (fun i => decide (2 ≤ i) && false) = [] := List.filter_eq_nil_iff.2 fun i _ => by simp
  rw [h]
  simp
end Lk
end
end Go.Proofs.YtmhbloefmknikaaGreatDoor
