/-
  The list that several processes change without locks, as a plain state: every step keeps the invariant, at most Bound steps are left, what a search comes to. Conditions: the cells are ordered by a rank, the head first and the tail last.
  Lists without locks as they are written: what Valid asks, one step, what Start leaves, the chain, the members, what Check answers: plain. No condition.
  Lists without locks: which steps change the members, what a result says, the moments, at most Bound steps, one process after another, the example: plain. No condition.
-/
import Derived.Test.YtmhbloefmknikaaGreatDoorKyA
import Derived.Test.YtmhbloefmknikaaGreatDoorLyB
namespace Go.Proofs.YtmhbloefmknikaaGreatDoor
section
set_option linter.unusedSimpArgs false
set_option linter.unusedVariables false
namespace Lf
open Lk (Kd Odr)
/-- Phases of an operation without locks. -/
inductive Ph where
  | idle | find | clean | link0 | swap | mark | cut | done
deriving DecidableEq, Inhabited
structure Cl where
  right : Nat
  gone : Bool
  us : Bool
deriving Inhabited
structure Pr where
  kind : Kd
  ph : Ph
  cell : Nat
  pred : Nat
  succ : Nat
  next : Nat
  res : Bool
deriving Inhabited
structure St where
  c : Nat → Cl
  p : Nat → Pr
def St.setC (s : St) (i : Nat) (x : Cl) : St := { s with c := fun j => if j = i then x else s.c j }
def St.setP (s : St) (i : Nat) (x : Pr) : St := { s with p := fun j => if j = i then x else s.p j }
theorem St.setP_c (s : St) (i : Nat) (x : Pr) : (s.setP i x).c = s.c := rfl
theorem St.setP_p (s : St) (i : Nat) (x : Pr) (j : Nat) : (s.setP i x).p j = if j = i then x else s.p j := rfl
theorem St.setC_c (s : St) (i : Nat) (x : Cl) (j : Nat) : (s.setC i x).c j = if j = i then x else s.c j := rfl
variable (n m : Nat) (rk : Nat → Nat)
/-- A link is as it was expected, and its cell is not removed. -/
def okC (s : St) (i e : Nat) : Prop := (s.c i).right = e ∧ (s.c i).gone = false
instance (s : St) (i e : Nat) : Decidable (okC s i e) := inferInstanceAs (Decidable (_ ∧ _))
/-- A process begins again. -/
def agn (s : St) (p : Nat) : St := s.setP p { s.p p with pred := 0, succ := (s.c 0).right, ph := .find }
/-- One step of a process; none: it has nothing to do. -/
def stp (s : St) (p : Nat) : Option St :=
  let x := s.p p
  match x.ph with
  | .idle => none
  | .done => none
  | .find =>
    if (s.c x.succ).gone = true then some (s.setP p { x with next := (s.c x.succ).right, ph := .clean })
    else if rk x.succ < rk x.cell then some (s.setP p { x with pred := x.succ, succ := (s.c x.succ).right })
    else if x.kind = .fnd then some (s.setP p { x with next := (s.c x.succ).right, res := decide (x.succ = x.cell), ph := .done })
    else if x.kind = .ins then some (s.setP p { x with next := (s.c x.succ).right, ph := .link0 })
    else if x.succ = x.cell then some (s.setP p { x with next := (s.c x.succ).right, ph := .mark })
    else some (s.setP p { x with next := (s.c x.succ).right, ph := .done })
  | .clean => if okC s x.pred x.succ then some ((s.setC x.pred { s.c x.pred with right := x.next }).setP p { x with succ := x.next, ph := .find }) else some (agn s p)
  | .link0 => some ((s.setC x.cell { s.c x.cell with right := x.succ }).setP p { x with ph := .swap })
  | .swap => if okC s x.pred x.succ then some ((s.setC x.pred { s.c x.pred with right := x.cell }).setP p { x with res := true, ph := .done }) else some (agn s p)
  | .mark => if okC s x.cell x.next then some ((s.setC x.cell { s.c x.cell with gone := true }).setP p { x with res := true, ph := .cut }) else some (agn s p)
  | .cut => if okC s x.pred x.cell then some ((s.setC x.pred { s.c x.pred with right := x.next }).setP p { x with ph := .done }) else some (s.setP p { x with ph := .done })
def act (x : Pr) : Bool := match x.ph with
  | .idle => false
  | .done => false
  | _ => true
/-- What is known of a process under way; 'U': the cells that were ever linked. -/
structure PI (s : St) (U : Nat → Prop) (x : Pr) : Prop where
  c2 : 2 ≤ x.cell
  cn : x.cell < n
  kd : x.kind ≠ .none
  up : U x.pred
  rp : rk x.pred < rk x.cell
  us : U x.succ
  ni : x.kind = .ins → ¬ U x.cell ∧ (s.c x.cell).us = true
  cl : x.ph = .clean → (s.c x.succ).gone = true ∧ x.next = (s.c x.succ).right
  l0 : x.ph = .link0 ∨ x.ph = .swap → x.kind = .ins ∧ rk x.cell < rk x.succ
  sw : x.ph = .swap → (s.c x.cell).right = x.succ
  ma : x.ph = .mark → x.kind = .rem ∧ x.succ = x.cell
  ct : x.ph = .cut → x.kind = .rem ∧ U x.cell ∧ (s.c x.cell).gone = true ∧ x.next = (s.c x.cell).right
/-- What is known of the cells; 'K': the cells of the chain. -/
structure Core (s : St) (U K : Nat → Prop) : Prop where
  un : ∀ i, U i → i < n
  uR : ∀ i, U i → i ≠ 1 → U (s.c i).right ∧ rk i < rk (s.c i).right
  k0 : K 0
  k1 : K 1
  kU : ∀ i, K i → U i
  kR : ∀ i, K i → i ≠ 1 → K (s.c i).right ∧ ∀ d, K d → rk i < rk d → rk (s.c i).right ≤ rk d
  g0 : (s.c 0).gone = false
  g1 : (s.c 1).gone = false
  gK : ∀ i, U i → (s.c i).gone = false → K i
  nu : ∀ i, i < n → (s.c i).gone = true → U i
  ul : ∀ i, U i → (s.c i).us = true
/-- The invariant. -/
structure Ivt (s : St) (U K : Nat → Prop) : Prop extends Core n rk s U K where
  ow : ∀ i, i < n → (s.c i).us = true → ¬ U i → ∃ p, p < m ∧ act (s.p p) = true ∧ (s.p p).kind = .ins ∧ (s.p p).cell = i
  uq : ∀ p, p < m → ∀ q, q < m → act (s.p p) = true → act (s.p q) = true → (s.p p).kind = .ins → (s.p q).kind = .ins → (s.p p).cell = (s.p q).cell → p = q
  pi : ∀ p, p < m → act (s.p p) = true → PI n rk s U (s.p p)
variable {n m : Nat} {rk : Nat → Nat}
theorem stp_act {s s' : St} {p : Nat} (hs : stp rk s p = some s') : act (s.p p) = true := by
  unfold stp at hs
  unfold act
  cases e : (s.p p).ph <;> simp only [e] at hs ⊢ <;> cases hs
theorem PI.mono {s t : St} {U U' : Nat → Prop} {x : Pr} (h : PI n rk s U x) (hU : ∀ i, U i → U' i) (hg : ∀ i, U i → (s.c i).gone = true → (t.c i).gone = true ∧ (t.c i).right = (s.c i).right)
    (hi : x.kind = .ins → ¬ U' x.cell ∧ (t.c x.cell).us = true) (hr : x.kind = .ins → (t.c x.cell).right = (s.c x.cell).right) : PI n rk t U' x where
  c2 := h.c2
  cn := h.cn
  kd := h.kd
  up := hU _ h.up
  rp := h.rp
  us := hU _ h.us
  ni := hi
  cl e := by
    have k := h.cl e
    have g := hg _ h.us k.1
    exact ⟨g.1, k.2.trans g.2.symm⟩
  l0 := h.l0
  sw e := (hr (h.l0 (.inr e)).1).trans (h.sw e)
  ma := h.ma
  ct e := by
    obtain ⟨a, b, c, d⟩ := h.ct e
    have g := hg _ b c
    exact ⟨a, hU _ b, g.1, d.trans g.2.symm⟩
/-- The process p makes a step: the cells change, its record becomes y. -/
theorem pres_gen {s t : St} {U K U' K' : Nat → Prop} (h : Ivt n m rk s U K) {p : Nat} (hp : p < m) (ha : act (s.p p) = true) (y : Pr) (hc : Core n rk t U' K') (ht : t.p = s.p)
    (hy : act y = true → PI n rk t U' y) (hk : y.kind = (s.p p).kind ∧ y.cell = (s.p p).cell) (hU : ∀ i, U i → U' i) (hus : ∀ i, (t.c i).us = (s.c i).us)
    (hg : ∀ i, U i → (s.c i).gone = true → (t.c i).gone = true ∧ (t.c i).right = (s.c i).right) (hn : ∀ i, U' i → U i ∨ ((s.p p).kind = .ins ∧ i = (s.p p).cell))
    (hr : ∀ i, ¬ U i → (s.p p).kind ≠ .ins ∨ i ≠ (s.p p).cell → (t.c i).right = (s.c i).right) (hd : act y = false → (s.p p).kind = .ins → U' (s.p p).cell) : Ivt n m rk (t.setP p y) U' K' := by
  refine ⟨⟨hc.un, hc.uR, hc.k0, hc.k1, hc.kU, hc.kR, hc.g0, hc.g1, hc.gK, hc.nu, hc.ul⟩, fun i hi hui hn' => ?_, fun q hq r hr' aq ar kq kr e => ?_, fun q hq aq => ?_⟩
  · rw [St.setP_c, hus] at hui
    obtain ⟨q, hq, e1, e2, e3⟩ := h.ow i hi hui (fun k => hn' (hU _ k))
    by_cases e : q = p
    · subst e
      refine ⟨q, hq, ?_⟩
      rw [St.setP_p, if_pos rfl, hk.1, hk.2]
      refine ⟨?_, e2, e3⟩
      cases hay : act y with
      | true => rfl
      | false => exact absurd (e3 ▸ hd hay e2) hn'
    · exact ⟨q, hq, by rw [St.setP_p, if_neg e, ht]; exact ⟨e1, e2, e3⟩⟩
  · have hkc : ∀ j, (act ((t.setP p y).p j) = true → act (s.p j) = true) ∧ ((t.setP p y).p j).kind = (s.p j).kind ∧ ((t.setP p y).p j).cell = (s.p j).cell := fun j => by
      rw [St.setP_p]
      split
      · rename_i e; subst e; exact ⟨fun _ => ha, hk⟩
      · rw [ht]; exact ⟨id, rfl, rfl⟩
    have h1 := hkc q
    have h2 := hkc r
    rw [h1.2.1] at kq
    rw [h2.2.1] at kr
    rw [h1.2.2, h2.2.2] at e
    exact h.uq q hq r hr' (h1.1 aq) (h2.1 ar) kq kr e
  · rw [St.setP_p] at aq ⊢
    by_cases e : q = p
    · rw [if_pos e] at aq ⊢
      have k := hy aq
      exact ⟨k.c2, k.cn, k.kd, k.up, k.rp, k.us, k.ni, k.cl, k.l0, k.sw, k.ma, k.ct⟩
    · rw [if_neg e, ht] at aq ⊢
      have k := h.pi q hq aq
      have key : (s.p q).kind = .ins → (s.p p).kind = .ins → (s.p q).cell = (s.p p).cell → False := fun a b c => e (h.uq q hq p hp aq ha a b c)
      have k2 := k.mono (t := t.setP p y) (U' := U') hU hg (fun ek => ⟨fun hu => ?_, ?_⟩) (fun ek => ?_)
      · exact k2
      · rcases hn _ hu with hu | ⟨hu, hv⟩
        · exact (k.ni ek).1 hu
        · exact key ek hu hv
      · rw [St.setP_c, hus]; exact (k.ni ek).2
      · rw [St.setP_c]
        refine hr _ (k.ni ek).1 ?_
        by_cases e2 : (s.p p).kind = .ins
        · exact .inr (fun hv => key ek e2 hv)
        · exact .inl e2
/-- A removed cell is cut out. -/
theorem core_cut {s : St} {U K : Nat → Prop} (o : Odr n rk) (h : Core n rk s U K) {P g : Nat} (hP : U P) (hP1 : P ≠ 1) (hok : okC s P g) (hg : (s.c g).gone = true) {r : Nat} (hr : r = (s.c g).right) : Core n rk (s.setC P { s.c P with right := r }) U (fun i => K i ∧ i ≠ g) := by
  obtain ⟨e1, e2⟩ := hok
  have hg1 : g ≠ 1 := fun e => by rw [e, h.g1] at hg; cases hg
  have hg0 : g ≠ 0 := fun e => by rw [e, h.g0] at hg; cases hg
  have hPg : P ≠ g := fun e => by rw [e, hg] at e2; cases e2
  have hKP := h.gK P hP e2
  have hUP := h.uR P hP hP1
  have hKR := h.kR P hKP hP1
  rw [e1] at hUP hKR
  have hUg := hUP.1
  have hKg := hKR.1
  have hug := h.uR g hUg hg1
  have hkg := h.kR g hKg hg1
  have hPn := h.un P hP
  have hgn := h.un g hUg
  have hc : ∀ i, i ≠ P → (s.setC P { s.c P with right := r }).c i = s.c i := fun i hi => by rw [St.setC_c, if_neg hi]
  have hcP : (s.setC P { s.c P with right := r }).c P = { s.c P with right := r } := by rw [St.setC_c, if_pos rfl]
  have hgone : ∀ i, ((s.setC P { s.c P with right := r }).c i).gone = (s.c i).gone := fun i => by
    by_cases hi : i = P
    · subst hi; rw [hcP]
    · rw [hc i hi]
  refine ⟨h.un, fun i hi h1 => ?_, ⟨h.k0, Ne.symm hg0⟩, ⟨h.k1, Ne.symm hg1⟩, fun i hi => h.kU i hi.1, fun i hi h1 => ?_, ?_, ?_, fun i hi hgi => ?_, fun i hi hgi => ?_, fun i hi => ?_⟩
  · by_cases e : i = P
    · subst e
      rw [hcP, hr]
      exact ⟨hug.1, Nat.lt_trans hUP.2 hug.2⟩
    · rw [hc i e]; exact h.uR i hi h1
  · by_cases e : i = P
    · subst e
      rw [hcP, hr]
      refine ⟨⟨hkg.1, fun e => ?_⟩, fun d hd hlt => ?_⟩
      · have := hug.2; rw [e] at this; exact Nat.lt_irrefl _ this
      · refine hkg.2 d hd.1 ?_
        have h2 := hKR.2 d hd.1 hlt
        rcases Nat.lt_or_eq_of_le h2 with k | k
        · exact k
        · exact absurd (o.inj _ _ (h.un d (h.kU d hd.1)) hgn k.symm) hd.2
    · rw [hc i e]
      have k := h.kR i hi.1 h1
      refine ⟨⟨k.1, fun eg => ?_⟩, fun d hd hlt => k.2 d hd.1 hlt⟩
      have hin := h.un i (h.kU i hi.1)
      have ku := h.uR i (h.kU i hi.1) h1
      rw [eg] at k ku
      rcases Nat.lt_trichotomy (rk i) (rk P) with q | q | q
      · have := k.2 P hKP q
        have := hUP.2
        omega
      · exact e (o.inj _ _ hin hPn q)
      · have := hKR.2 i hi.1 q
        have := ku.2
        omega
  · rw [hgone]; exact h.g0
  · rw [hgone]; exact h.g1
  · rw [hgone] at hgi
    exact ⟨h.gK i hi hgi, fun e => by rw [e, hg] at hgi; cases hgi⟩
  · rw [hgone] at hgi; exact h.nu i hi hgi
  · by_cases e : i = P
    · subst e; rw [hcP]; exact h.ul i hi
    · rw [hc i e]; exact h.ul i hi
/-- A cell is linked. -/
theorem core_ins {s : St} {U K : Nat → Prop} (o : Odr n rk) (h : Core n rk s U K) {P S x : Nat} (hP : U P) (hP1 : P ≠ 1) (hok : okC s P S) (hx : x < n) (x1 : x ≠ 1) (hux : ¬ U x) (hus : (s.c x).us = true) (hr : (s.c x).right = S) (h1 : rk P < rk x) (h2 : rk x < rk S) :
    Core n rk (s.setC P { s.c P with right := x }) (fun i => U i ∨ i = x) (fun i => K i ∨ i = x) := by
  obtain ⟨e1, e2⟩ := hok
  have hPx : P ≠ x := fun e => hux (e ▸ hP)
  have hKP := h.gK P hP e2
  have hUP := h.uR P hP hP1
  have hKR := h.kR P hKP hP1
  rw [e1] at hUP hKR
  have hc : ∀ i, i ≠ P → (s.setC P { s.c P with right := x }).c i = s.c i := fun i hi => by rw [St.setC_c, if_neg hi]
  have hcP : (s.setC P { s.c P with right := x }).c P = { s.c P with right := x } := by rw [St.setC_c, if_pos rfl]
  have hgone : ∀ i, ((s.setC P { s.c P with right := x }).c i).gone = (s.c i).gone := fun i => by
    by_cases hi : i = P
    · subst hi; rw [hcP]
    · rw [hc i hi]
  refine ⟨fun i hi => ?_, fun i hi hi1 => ?_, .inl h.k0, .inl h.k1, fun i hi => ?_, fun i hi hi1 => ?_, ?_, ?_, fun i hi hgi => ?_, fun i hi hgi => ?_, fun i hi => ?_⟩
  · rcases hi with hi | hi
    · exact h.un i hi
    · rw [hi]; exact hx
  · by_cases e : i = P
    · subst e; rw [hcP]; exact ⟨.inr rfl, h1⟩
    · rw [hc i e]
      rcases hi with hi | hi
      · have := h.uR i hi hi1; exact ⟨.inl this.1, this.2⟩
      · subst hi; rw [hr]; exact ⟨.inl hUP.1, h2⟩
  · rcases hi with hi | hi
    · exact .inl (h.kU i hi)
    · exact .inr hi
  · by_cases e : i = P
    · subst e; rw [hcP]
      refine ⟨.inr rfl, fun d hd hlt => ?_⟩
      rcases hd with hd | hd
      · have := hKR.2 d hd hlt
        show rk x ≤ rk d
        omega
      · rw [hd]; exact Nat.le_refl _
    · rw [hc i e]
      rcases hi with hi | hi
      · have k := h.kR i hi hi1
        refine ⟨.inl k.1, fun d hd hlt => ?_⟩
        rcases hd with hd | hd
        · exact k.2 d hd hlt
        · subst hd
          rcases Nat.lt_trichotomy (rk i) (rk P) with q | q | q
          · have := k.2 P hKP q; omega
          · exact absurd (o.inj _ _ (h.un i (h.kU i hi)) (h.un P hP) q) e
          · have := hKR.2 i hi q; omega
      · subst hi
        rw [hr]
        refine ⟨.inl hKR.1, fun d hd hlt => ?_⟩
        rcases hd with hd | hd
        · exact hKR.2 d hd (by omega)
        · subst hd; exact absurd hlt (Nat.lt_irrefl _)
  · rw [hgone]; exact h.g0
  · rw [hgone]; exact h.g1
  · rw [hgone] at hgi
    rcases hi with hi | hi
    · exact .inl (h.gK i hi hgi)
    · exact .inr hi
  · rw [hgone] at hgi; exact .inl (h.nu i hi hgi)
  · have : ((s.setC P { s.c P with right := x }).c i).us = (s.c i).us := by
      by_cases e : i = P
      · subst e; rw [hcP]
      · rw [hc i e]
    rw [this]
    rcases hi with hi | hi
    · exact h.ul i hi
    · rw [hi]; exact hus
/-- A cell is marked as removed. -/
theorem core_mark {s : St} {U K : Nat → Prop} (h : Core n rk s U K) {x : Nat} (hU : U x) (x2 : 2 ≤ x) : Core n rk (s.setC x { s.c x with gone := true }) U K := by
  have hr : ∀ i, ((s.setC x { s.c x with gone := true }).c i).right = (s.c i).right := fun i => by
    rw [St.setC_c]; split
    · rename_i e; rw [e]
    · rfl
  have hu : ∀ i, ((s.setC x { s.c x with gone := true }).c i).us = (s.c i).us := fun i => by
    rw [St.setC_c]; split
    · rename_i e; rw [e]
    · rfl
  have hg : ∀ i, i ≠ x → ((s.setC x { s.c x with gone := true }).c i).gone = (s.c i).gone := fun i e => by rw [St.setC_c, if_neg e]
  refine ⟨h.un, fun i hi h1 => ?_, h.k0, h.k1, h.kU, fun i hi h1 => ?_, ?_, ?_, fun i hi hgi => ?_, fun i hi hgi => ?_, fun i hi => ?_⟩
  · rw [hr]; exact h.uR i hi h1
  · rw [hr]; exact h.kR i hi h1
  · rw [hg 0 (by omega)]; exact h.g0
  · rw [hg 1 (by omega)]; exact h.g1
  · by_cases e : i = x
    · subst e; rw [St.setC_c, if_pos rfl] at hgi; cases hgi
    · rw [hg i e] at hgi; exact h.gK i hi hgi
  · by_cases e : i = x
    · subst e; exact hU
    · rw [hg i e] at hgi; exact h.nu i hi hgi
  · rw [hu]; exact h.ul i hi
/-- A cell that nobody sees is put in front of another. -/
theorem core_link {s : St} {U K : Nat → Prop} (h : Core n rk s U K) {x r : Nat} (hU : ¬ U x) : Core n rk (s.setC x { s.c x with right := r }) U K := by
  have hr : ∀ i, U i → (s.setC x { s.c x with right := r }).c i = s.c i := fun i hi => by
    rw [St.setC_c, if_neg (fun e : i = x => hU (e ▸ hi))]
  have hu : ∀ i, ((s.setC x { s.c x with right := r }).c i).gone = (s.c i).gone := fun i => by
    rw [St.setC_c]; split
    · rename_i e; rw [e]
    · rfl
  refine ⟨h.un, fun i hi h1 => ?_, h.k0, h.k1, h.kU, fun i hi h1 => ?_, ?_, ?_, fun i hi hgi => ?_, fun i hi hgi => ?_, fun i hi => ?_⟩
  · rw [hr i hi]; exact h.uR i hi h1
  · rw [hr i (h.kU i hi)]; exact h.kR i hi h1
  · rw [hu]; exact h.g0
  · rw [hu]; exact h.g1
  · rw [hu] at hgi; exact h.gK i hi hgi
  · rw [hu] at hgi; exact h.nu i hi hgi
  · rw [hr i hi]; exact h.ul i hi
/-- Whether a step changes links or marks that others see; whether a process begins again. -/
def chg (s : St) (p : Nat) : Bool := match (s.p p).ph with
  | .clean => decide (okC s (s.p p).pred (s.p p).succ)
  | .swap => decide (okC s (s.p p).pred (s.p p).succ)
  | .mark => decide (okC s (s.p p).cell (s.p p).next)
  | .cut => decide (okC s (s.p p).pred (s.p p).cell)
  | _ => false
/-- The cells that were ever linked and the chain after a step. -/
def nU (s : St) (p : Nat) (U : Nat → Prop) : Nat → Prop := fun i => U i ∨ ((s.p p).ph = .swap ∧ chg s p = true ∧ i = (s.p p).cell)
def nK (s : St) (p : Nat) (K : Nat → Prop) : Nat → Prop := fun i => (K i ∧ ((s.p p).ph = .clean → chg s p = true → i ≠ (s.p p).succ) ∧ ((s.p p).ph = .cut → chg s p = true → i ≠ (s.p p).cell)) ∨ ((s.p p).ph = .swap ∧ chg s p = true ∧ i = (s.p p).cell)
theorem nU_same {s : St} {p : Nat} {U : Nat → Prop} (h : (s.p p).ph ≠ .swap ∨ chg s p = false) : nU s p U = U := by
  funext i
  unfold nU
  apply propext
  constructor
  · rintro (k | ⟨k1, k2, _⟩)
    · exact k
    · rcases h with h | h
      · exact absurd k1 h
      · rw [h] at k2; cases k2
  · exact .inl
theorem nK_same {s : St} {p : Nat} {K : Nat → Prop} (h : ((s.p p).ph ≠ .swap ∧ (s.p p).ph ≠ .clean ∧ (s.p p).ph ≠ .cut) ∨ chg s p = false) : nK s p K = K := by
  funext i
  unfold nK
  apply propext
  constructor
  · rintro (k | ⟨k1, k2, _⟩)
    · exact k.1
    · rcases h with h | h
      · exact absurd k1 h.1
      · rw [h] at k2; cases k2
  · intro k
    refine .inl ⟨k, fun a b => ?_, fun a b => ?_⟩
    · rcases h with h | h
      · exact absurd a h.2.1
      · rw [h] at b; cases b
    · rcases h with h | h
      · exact absurd a h.2.2
      · rw [h] at b; cases b
theorem Ivt.ne1 {s : St} {U K : Nat → Prop} (o : Odr n rk) (h : Ivt n m rk s U K) {P x : Nat} (hx : x < n) (h1 : rk P < rk x) : P ≠ 1 := fun e => by
  subst e
  by_cases e1 : x = 1
  · subst e1; exact Nat.lt_irrefl _ h1
  · have := o.lst x hx e1; omega
/-- A process begins again. -/
theorem pres_agn {s : St} {U K : Nat → Prop} (o : Odr n rk) (h : Ivt n m rk s U K) {p : Nat} (hp : p < m) (ha : act (s.p p) = true) : Ivt n m rk (agn s p) U K := by
  have k := h.pi p hp ha
  have k0 := h.kU 0 h.k0
  have h0 := h.uR 0 k0 (by omega)
  refine pres_gen h hp ha _ h.toCore rfl (fun _ => ?_) ⟨rfl, rfl⟩ (fun _ => id) (fun _ => rfl) (fun i _ e => ⟨e, rfl⟩) (fun i hi => .inl hi) (fun _ _ _ => rfl) (fun e => by cases e)
  exact ⟨k.c2, k.cn, k.kd, k0, o.fst _ k.cn (by have := k.c2; show (s.p p).cell ≠ 0; omega), h0.1, k.ni, (fun e => by cases e), (fun e => by rcases e with e | e <;> cases e), (fun e => by cases e), (fun e => by cases e), (fun e => by cases e)⟩
/-- EVERY STEP KEEPS THE INVARIANT. -/
theorem pres {s s' : St} {U K : Nat → Prop} (o : Odr n rk) (h : Ivt n m rk s U K) {p : Nat} (hp : p < m) (hs : stp rk s p = some s') : Ivt n m rk s' (nU s p U) (nK s p K) := by
  have ha := stp_act hs
  have k := h.pi p hp ha
  have hP1 : (s.p p).pred ≠ 1 := h.ne1 o k.cn k.rp
  have x1 : (s.p p).cell ≠ 1 := by have := k.c2; omega
  have hsn := h.un _ k.us
  -- the record alone
  have rec1 : ∀ y : Pr, y.kind = (s.p p).kind → y.cell = (s.p p).cell → (act y = true → PI n rk s U y) → (act y = false → (s.p p).kind ≠ .ins) → Ivt n m rk (s.setP p y) U K := fun y h1 h2 h3 h4 =>
    pres_gen h hp ha y h.toCore rfl h3 ⟨h1, h2⟩ (fun _ => id) (fun _ => rfl) (fun i _ e => ⟨e, rfl⟩) (fun i hi => .inl hi) (fun _ _ _ => rfl) (fun e e2 => absurd e2 (h4 e))
  cases e : (s.p p).ph with
  | idle => simp [stp, e] at hs
  | done => simp [stp, e] at hs
  | find =>
    rw [nU_same (.inl (by rw [e]; simp)), nK_same (.inl (by rw [e]; simp))]
    simp only [stp, e] at hs
    by_cases hg : (s.c (s.p p).succ).gone = true
    · rw [if_pos hg] at hs
      injection hs with hs; subst hs
      exact rec1 _ rfl rfl (fun _ => ⟨k.c2, k.cn, k.kd, k.up, k.rp, k.us, k.ni, (fun _ => ⟨hg, rfl⟩), (fun e => by rcases e with e | e <;> cases e), (fun e => by cases e), (fun e => by cases e), (fun e => by cases e)⟩) (fun e => by cases e)
    · rw [if_neg hg] at hs
      by_cases hl : rk (s.p p).succ < rk (s.p p).cell
      · rw [if_pos hl] at hs
        injection hs with hs; subst hs
        have hs1 := h.ne1 o k.cn hl
        exact rec1 _ rfl rfl (fun _ => ⟨k.c2, k.cn, k.kd, k.us, hl, (h.uR _ k.us hs1).1, k.ni, (fun q => by cases q), (fun q => by rcases q with q | q <;> cases q), (fun q => by cases q), (fun q => by cases q), (fun q => by cases q)⟩) (fun q => by simp [act, e] at q)
      · rw [if_neg hl] at hs
        by_cases hf : (s.p p).kind = .fnd
        · rw [if_pos hf] at hs
          injection hs with hs; subst hs
          exact rec1 _ rfl rfl (fun q => by cases q) (fun _ => by rw [hf]; simp)
        · rw [if_neg hf] at hs
          by_cases hi : (s.p p).kind = .ins
          · rw [if_pos hi] at hs
            injection hs with hs; subst hs
            have hne : rk (s.p p).cell ≠ rk (s.p p).succ := fun q => (k.ni hi).1 (by rw [o.inj _ _ k.cn hsn q]; exact k.us)
            exact rec1 _ rfl rfl (fun _ => ⟨k.c2, k.cn, k.kd, k.up, k.rp, k.us, k.ni, (fun q => by cases q), (fun _ => ⟨hi, by show rk (s.p p).cell < rk (s.p p).succ; omega⟩), (fun q => by cases q), (fun q => by cases q), (fun q => by cases q)⟩) (fun q => by cases q)
          · rw [if_neg hi] at hs
            by_cases hx : (s.p p).succ = (s.p p).cell
            · rw [if_pos hx] at hs
              injection hs with hs; subst hs
              have hr : (s.p p).kind = .rem := by
                have := k.kd
                cases q : (s.p p).kind <;> simp_all
              exact rec1 _ rfl rfl (fun _ => ⟨k.c2, k.cn, k.kd, k.up, k.rp, k.us, k.ni, (fun q => by cases q), (fun q => by rcases q with q | q <;> cases q), (fun q => by cases q), (fun _ => ⟨hr, hx⟩), (fun q => by cases q)⟩) (fun q => by cases q)
            · rw [if_neg hx] at hs
              injection hs with hs; subst hs
              exact rec1 _ rfl rfl (fun q => by cases q) (fun _ => hi)
  | clean =>
    rw [nU_same (.inl (by rw [e]; simp))]
    simp only [stp, e] at hs
    obtain ⟨c1, c2⟩ := k.cl e
    by_cases hok : okC s (s.p p).pred (s.p p).succ
    · rw [if_pos hok] at hs
      injection hs with hs; subst hs
      have hc : chg s p = true := by simp [chg, e, hok]
      have hK : nK s p K = fun i => K i ∧ i ≠ (s.p p).succ := by
        funext i; unfold nK; simp [e, hc]
      rw [hK]
      have hs1 : (s.p p).succ ≠ 1 := fun q => by rw [q, h.g1] at c1; cases c1
      have hcore := core_cut o h.toCore k.up hP1 hok c1 c2
      have hne : ∀ i, (s.c i).gone = true → i ≠ (s.p p).pred := fun i a b => by rw [b, hok.2] at a; cases a
      refine pres_gen h hp ha _ hcore rfl (fun _ => ?_) ⟨rfl, rfl⟩ (fun _ => id) (fun i => ?_) (fun i _ q => ?_) (fun i hi => .inl hi) (fun i hi _ => ?_) (fun q => by cases q)
      · refine ⟨k.c2, k.cn, k.kd, k.up, k.rp, ?_, fun q => ⟨(k.ni q).1, ?_⟩, (fun q => by cases q), (fun q => by rcases q with q | q <;> cases q), (fun q => by cases q), (fun q => by cases q), (fun q => by cases q)⟩
        · show U (s.p p).next
          rw [c2]; exact (h.uR _ k.us hs1).1
        · rw [St.setC_c]
          split
          · rename_i q2; exact absurd (q2 ▸ k.up) (k.ni q).1
          · exact (k.ni q).2
      · rw [St.setC_c]; split
        · rename_i q; rw [q]
        · rfl
      · rw [St.setC_c, if_neg (hne i q)]; exact ⟨q, rfl⟩
      · rw [St.setC_c, if_neg (fun q : i = (s.p p).pred => hi (q ▸ k.up))]
    · rw [if_neg hok] at hs
      injection hs with hs; subst hs
      rw [nK_same (.inr (by simp [chg, e, hok]))]
      exact pres_agn o h hp ha
  | link0 =>
    rw [nU_same (.inl (by rw [e]; simp)), nK_same (.inl (by rw [e]; simp))]
    simp only [stp, e] at hs
    injection hs with hs; subst hs
    obtain ⟨hi, hl⟩ := k.l0 (.inl e)
    obtain ⟨hu, hus⟩ := k.ni hi
    have hc : ∀ i, U i → (s.setC (s.p p).cell { s.c (s.p p).cell with right := (s.p p).succ }).c i = s.c i := fun i hU => by
      rw [St.setC_c, if_neg (fun q : i = (s.p p).cell => hu (q ▸ hU))]
    refine pres_gen h hp ha _ (core_link h.toCore hu) rfl (fun _ => ?_) ⟨rfl, rfl⟩ (fun _ => id) (fun i => ?_) (fun i hU q => ?_) (fun i hi => .inl hi) (fun i hi' hk => ?_) (fun q => by cases q)
    · refine ⟨k.c2, k.cn, k.kd, k.up, k.rp, k.us, fun q => ⟨hu, ?_⟩, (fun q => by cases q), (fun _ => ⟨hi, hl⟩), (fun _ => ?_), (fun q => by cases q), (fun q => by cases q)⟩
      · show ((s.setC (s.p p).cell _).c (s.p p).cell).us = true
        rw [St.setC_c, if_pos rfl]; exact hus
      · show ((s.setC (s.p p).cell _).c (s.p p).cell).right = _
        rw [St.setC_c, if_pos rfl]
    · rw [St.setC_c]; split
      · rename_i q; rw [q]
      · rfl
    · rw [hc i hU]; exact ⟨q, rfl⟩
    · have q : i ≠ (s.p p).cell := by
        rcases hk with hk | hk
        · exact absurd hi hk
        · exact hk
      rw [St.setC_c, if_neg q]
  | swap =>
    simp only [stp, e] at hs
    obtain ⟨hi, hl⟩ := k.l0 (.inr e)
    obtain ⟨hu, hus⟩ := k.ni hi
    by_cases hok : okC s (s.p p).pred (s.p p).succ
    · rw [if_pos hok] at hs
      injection hs with hs; subst hs
      have hc : chg s p = true := by simp [chg, e, hok]
      have hK : nK s p K = fun i => K i ∨ i = (s.p p).cell := by
        funext i; unfold nK; simp [e, hc]
      have hU : nU s p U = fun i => U i ∨ i = (s.p p).cell := by
        funext i; unfold nU; simp [e, hc]
      rw [hK, hU]
      have hcore := core_ins o h.toCore k.up hP1 hok k.cn x1 hu hus (k.sw e) k.rp hl
      have hne : ∀ i, (s.c i).gone = true → i ≠ (s.p p).pred := fun i a b => by rw [b, hok.2] at a; cases a
      refine pres_gen h hp ha _ hcore rfl (fun q => by cases q) ⟨rfl, rfl⟩ (fun _ => .inl) (fun i => ?_) (fun i _ q => ?_) (fun i hi2 => ?_) (fun i hi2 _ => ?_) (fun _ _ => .inr rfl)
      · rw [St.setC_c]; split
        · rename_i q; rw [q]
        · rfl
      · rw [St.setC_c, if_neg (hne i q)]; exact ⟨q, rfl⟩
      · rcases hi2 with q | q
        · exact .inl q
        · exact .inr ⟨hi, q⟩
      · rw [St.setC_c, if_neg (fun q : i = (s.p p).pred => hi2 (q ▸ k.up))]
    · rw [if_neg hok] at hs
      injection hs with hs; subst hs
      have hc : chg s p = false := by simp [chg, e, hok]
      rw [nK_same (.inr hc), nU_same (.inr hc)]
      exact pres_agn o h hp ha
  | mark =>
    rw [nU_same (.inl (by rw [e]; simp)), nK_same (.inl (by rw [e]; simp))]
    simp only [stp, e] at hs
    obtain ⟨hr, hx⟩ := k.ma e
    have hUx : U (s.p p).cell := hx ▸ k.us
    have hni : (s.p p).kind ≠ .ins := by rw [hr]; simp
    by_cases hok : okC s (s.p p).cell (s.p p).next
    · rw [if_pos hok] at hs
      injection hs with hs; subst hs
      refine pres_gen h hp ha _ (core_mark h.toCore hUx k.c2) rfl (fun _ => ?_) ⟨rfl, rfl⟩ (fun _ => id) (fun i => ?_) (fun i _ q => ?_) (fun i hi => .inl hi) (fun i hi _ => ?_) (fun q => by cases q)
      · refine ⟨k.c2, k.cn, k.kd, k.up, k.rp, k.us, fun q => absurd q hni, (fun q => by cases q), (fun q => by rcases q with q | q <;> cases q), (fun q => by cases q), (fun q => by cases q), (fun _ => ⟨hr, hUx, ?_, ?_⟩)⟩
        · show ((s.setC (s.p p).cell _).c (s.p p).cell).gone = true
          rw [St.setC_c, if_pos rfl]
        · show (s.p p).next = ((s.setC (s.p p).cell _).c (s.p p).cell).right
          rw [St.setC_c, if_pos rfl]; exact hok.1.symm
      · rw [St.setC_c]; split
        · rename_i q; rw [q]
        · rfl
      · rw [St.setC_c]; split
        · rename_i q; rw [q]; exact ⟨rfl, rfl⟩
        · exact ⟨q, rfl⟩
      · rw [St.setC_c]; split
        · rename_i q; rw [q]
        · rfl
    · rw [if_neg hok] at hs
      injection hs with hs; subst hs
      exact pres_agn o h hp ha
  | cut =>
    rw [nU_same (.inl (by rw [e]; simp))]
    simp only [stp, e] at hs
    obtain ⟨hr, hUx, c1, c2⟩ := k.ct e
    have hni : (s.p p).kind ≠ .ins := by rw [hr]; simp
    by_cases hok : okC s (s.p p).pred (s.p p).cell
    · rw [if_pos hok] at hs
      injection hs with hs; subst hs
      have hc : chg s p = true := by simp [chg, e, hok]
      have hK : nK s p K = fun i => K i ∧ i ≠ (s.p p).cell := by
        funext i; unfold nK; simp [e, hc]
      rw [hK]
      have hcore := core_cut o h.toCore k.up hP1 hok c1 c2
      have hne : ∀ i, (s.c i).gone = true → i ≠ (s.p p).pred := fun i a b => by rw [b, hok.2] at a; cases a
      refine pres_gen h hp ha _ hcore rfl (fun q => by cases q) ⟨rfl, rfl⟩ (fun _ => id) (fun i => ?_) (fun i _ q => ?_) (fun i hi => .inl hi) (fun i hi _ => ?_) (fun _ q => absurd q hni)
      · rw [St.setC_c]; split
        · rename_i q; rw [q]
        · rfl
      · rw [St.setC_c, if_neg (hne i q)]; exact ⟨q, rfl⟩
      · rw [St.setC_c, if_neg (fun q : i = (s.p p).pred => hi (q ▸ k.up))]
    · rw [if_neg hok] at hs
      injection hs with hs; subst hs
      rw [nK_same (.inr (by simp [chg, e, hok]))]
      exact rec1 _ rfl rfl (fun q => by cases q) (fun _ => hni)
open Lk (sm)
/-- How many changes a process can still make, but for cutting out what is gone. -/
def wt (x : Pr) : Nat := match x.kind, x.ph with
  | _, .idle => 0
  | _, .done => 0
  | .ins, _ => 1
  | .rem, .cut => 0
  | .rem, _ => 2
  | _, _ => 0
noncomputable def gk (s : St) (K : Nat → Prop) (i : Nat) : Nat := @ite _ (K i ∧ (s.c i).gone = true) (Classical.propDecidable _) 1 0
noncomputable def cc (n m : Nat) (s : St) (K : Nat → Prop) : Nat := sm (fun q => wt (s.p q)) m + sm (gk s K) n
/-- What is left of a pass. -/
def ps (n c : Nat) (rk : Nat → Nat) (x : Pr) : Nat := match x.ph with
  | .idle => 0
  | .done => 0
  | .find => (n - rk x.succ) + c + 2
  | .clean => (n - rk x.succ) + c + 1
  | .link0 => 2
  | .swap => 1
  | .mark => 2
  | .cut => 1
/-- How many processes are under way; how many cells are gone. -/
def bz (m : Nat) (s : St) : Nat := sm (fun q => if act (s.p q) = true then 1 else 0) m
def gz (n : Nat) (s : St) : Nat := sm (fun i => if (s.c i).gone = true then 1 else 0) n
/-- A process begins an operation. -/
def beg (s : St) (p : Nat) (k : Kd) (i : Nat) : St := (if k = .ins then s.setC i { s.c i with us := true } else s).setP p ⟨k, .find, i, 0, (s.c 0).right, 0, false⟩
theorem beg_c (s : St) (p : Nat) (k : Kd) (i j : Nat) : ((beg s p k i).c j).right = (s.c j).right ∧ ((beg s p k i).c j).gone = (s.c j).gone ∧ ((beg s p k i).c j).us = ((s.c j).us || (decide (k = .ins) && decide (j = i))) := by
  unfold beg
  rw [St.setP_c]
  by_cases e : k = .ins
  · rw [if_pos e, St.setC_c]
    by_cases q : j = i
    · rw [if_pos q]; subst q; simp [e]
    · rw [if_neg q]; simp [q]
  · rw [if_neg e]; simp [e]
theorem beg_p (s : St) (p : Nat) (k : Kd) (i j : Nat) : (beg s p k i).p j = if j = p then ⟨k, .find, i, 0, (s.c 0).right, 0, false⟩ else s.p j := by
  unfold beg
  rw [St.setP_p]
  split
  · rfl
  · split <;> rfl
theorem pres_beg {s : St} {U K : Nat → Prop} (o : Odr n rk) (h : Ivt n m rk s U K) {p : Nat} (hp : p < m) (e : act (s.p p) = false) {k : Kd} (hk : k ≠ .none) {i : Nat} (i2 : 2 ≤ i) (hi : i < n) (hus : k = .ins → (s.c i).us = false) : Ivt n m rk (beg s p k i) U K := by
  have hr := fun j => (beg_c s p k i j).1
  have hg := fun j => (beg_c s p k i j).2.1
  have hu := fun j => (beg_c s p k i j).2.2
  have hum : ∀ j, (s.c j).us = true → ((beg s p k i).c j).us = true := fun j q => by rw [hu, q]; rfl
  have hns : k = .ins → ¬ U i := fun q hU => by
    have := hus q
    rw [h.ul i hU] at this; cases this
  have hP : ∀ q, q ≠ p → (beg s p k i).p q = s.p q := fun q hq => by rw [beg_p, if_neg hq]
  have hPp : (beg s p k i).p p = ⟨k, .find, i, 0, (s.c 0).right, 0, false⟩ := by rw [beg_p, if_pos rfl]
  have ane : ∀ q, act (s.p q) = true → q ≠ p := fun q a b => by rw [b, e] at a; cases a
  have hno : k = .ins → ∀ q, q < m → act (s.p q) = true → (s.p q).kind = .ins → (s.p q).cell ≠ i := fun a q hq b c d => by
    have := (h.pi q hq b).ni c
    rw [d, hus a] at this
    cases this.2
  refine ⟨⟨h.un, fun j hj h1 => ?_, h.k0, h.k1, h.kU, fun j hj h1 => ?_, ?_, ?_, fun j hj hgj => ?_, fun j hj hgj => ?_, fun j hj => hum j (h.ul j hj)⟩, fun j hj huj hn' => ?_, fun q hq r hr' aq ar kq kr eqr => ?_, fun q hq aq => ?_⟩
  · rw [hr]; exact h.uR j hj h1
  · rw [hr]; exact h.kR j hj h1
  · rw [hg]; exact h.g0
  · rw [hg]; exact h.g1
  · rw [hg] at hgj; exact h.gK j hj hgj
  · rw [hg] at hgj; exact h.nu j hj hgj
  · cases hs : (s.c j).us with
    | true =>
      obtain ⟨q, hq, e1, e2⟩ := h.ow j hj hs hn'
      exact ⟨q, hq, by rw [hP q (ane q e1)]; exact ⟨e1, e2⟩⟩
    | false =>
      rw [hu, hs, Bool.false_or, Bool.and_eq_true, decide_eq_true_eq, decide_eq_true_eq] at huj
      exact ⟨p, hp, by rw [hPp]; exact ⟨rfl, huj.1, huj.2.symm⟩⟩
  · by_cases eq : q = p
    · by_cases er : r = p
      · rw [eq, er]
      · subst eq
        rw [hPp] at kq eqr
        rw [hP r er] at ar kr eqr
        exact absurd eqr.symm (hno kq r hr' ar kr)
    · by_cases er : r = p
      · subst er
        rw [hPp] at kr eqr
        rw [hP q eq] at aq kq eqr
        exact absurd eqr (hno kr q hq aq kq)
      · rw [hP q eq] at aq kq eqr
        rw [hP r er] at ar kr eqr
        exact h.uq q hq r hr' aq ar kq kr eqr
  · by_cases eq : q = p
    · subst eq
      rw [hPp]
      have h0 := h.kU 0 h.k0
      refine ⟨i2, hi, hk, h0, o.fst i hi (by show i ≠ 0; omega), (h.uR 0 h0 (by omega)).1, fun a => ⟨hns a, ?_⟩, (fun a => by cases a), (fun a => by rcases a with a | a <;> cases a), (fun a => by cases a), (fun a => by cases a), (fun a => by cases a)⟩
      rw [hu]
      have a : k = .ins := a
      simp [a]
    · rw [hP q eq] at aq ⊢
      have k' := h.pi q hq aq
      refine k'.mono (fun _ => id) (fun j _ b => ⟨by rw [hg]; exact b, hr j⟩) (fun a => ⟨(k'.ni a).1, hum _ (k'.ni a).2⟩) (fun _ => hr _)
/-- From a cell, following the links and not beyond the tail, one comes to another. -/
inductive Rch (R : Nat → Nat) (b : Nat) : Nat → Prop
  | refl : Rch R b b
  | step (a : Nat) : a ≠ 1 → Rch R b (R a) → Rch R b a
theorem Rch.next {R : Nat → Nat} {a b : Nat} (h : Rch R b a) (hne : a ≠ b) : Rch R b (R a) := by
  cases h with
  | refl => exact absurd rfl hne
  | step _ _ h => exact h
end Lf
end
section
set_option linter.unusedSimpArgs false
set_option linter.unusedVariables false
open Go.RowKit Go.Maps
namespace Lf
open Lk
def phOf (k : Int) : Ph := if k = 0 then .idle else if k = 1 then .find else if k = 14 then .clean else if k = 6 then .link0 else if k = 15 then .swap else if k = 16 then .mark else if k = 17 then .cut else .done
def toCl (c : Ce) : Cl := ⟨c.right.toNat, c.gone, decide (c.lock = 1)⟩
def toPr (x : Po) : Pr := ⟨kdOf x.kind, phOf x.phase, x.cell.toNat, x.pred.toNat, x.succ.toNat, x.next.toNat, x.res⟩
def toSt (l : Ls) : St := ⟨fun i => toCl (l.at_ i), fun p => toPr (l.pr p)⟩
/-- A phase of this machine. -/
def isPh (k : Int) : Prop := k = 0 ∨ k = 1 ∨ k = 6 ∨ k = 14 ∨ k = 15 ∨ k = 16 ∨ k = 17 ∨ k = 18
instance (k : Int) : Decidable (isPh k) := inferInstanceAs (Decidable (_ ∨ _))
/-- The list with the phases that a list with locks may have. -/
def rel (x : Po) : Po := { x with phase := if x.phase = 0 ∨ x.phase = 18 then x.phase else 1 }
def bas (l : Ls) : Ls := ⟨l.cs, l.ps.map rel⟩
theorem bas_pr (l : Ls) (p : Nat) : (bas l).pr p = rel (l.pr p) := by
  unfold bas Ls.pr
  simp only [List.getD_eq_getElem?_getD, List.getElem?_map]
  cases l.ps[p]? with
  | none => rfl
  | some x => rfl
theorem bas_len (l : Ls) : (bas l).ps.length = l.ps.length := List.length_map ..
theorem rel_z (x : Po) : (rel x).phase = 0 ↔ x.phase = 0 := by
  unfold rel
  dsimp only
  split <;> omega
/-- What Valid asks. -/
structure Vlf (l : Ls) : Prop where
  v : Vld (bas l)
  lf : ∀ i, i < l.cs.length → (l.at_ i).left = 0
  lk : ∀ i, i < l.cs.length → (l.at_ i).lock = 0 ∨ (l.at_ i).lock = 1
  ph : ∀ p, p < l.ps.length → isPh (l.pr p).phase
section
variable {l : Ls} (v : Vlf l)
include v
theorem Vlf.n2 : 2 ≤ l.cs.length := v.v.n2
theorem Vlf.n66 : l.cs.length ≤ 66 := v.v.n66
theorem Vlf.m1 : 1 ≤ l.ps.length := by have := v.v.m1; rw [bas_len] at this; exact this
theorem Vlf.m8 : l.ps.length ≤ 8 := by have := v.v.m8; rw [bas_len] at this; exact this
theorem Vlf.rg : ∀ i, i < l.cs.length → 0 ≤ (l.at_ i).right ∧ (l.at_ i).right < l.cs.length := v.v.rg
theorem Vlf.ce {p : Nat} (hp : p < l.ps.length) : 0 ≤ (l.pr p).cell ∧ (l.pr p).cell < l.cs.length := by have := v.v.ce p (by rw [bas_len]; exact hp); rw [bas_pr] at this; exact this
theorem Vlf.pd {p : Nat} (hp : p < l.ps.length) : 0 ≤ (l.pr p).pred ∧ (l.pr p).pred < l.cs.length := by have := v.v.pd p (by rw [bas_len]; exact hp); rw [bas_pr] at this; exact this
theorem Vlf.sc {p : Nat} (hp : p < l.ps.length) : 0 ≤ (l.pr p).succ ∧ (l.pr p).succ < l.cs.length := by have := v.v.sc p (by rw [bas_len]; exact hp); rw [bas_pr] at this; exact this
theorem Vlf.nx {p : Nat} (hp : p < l.ps.length) : 0 ≤ (l.pr p).next ∧ (l.pr p).next < l.cs.length := by have := v.v.nx p (by rw [bas_len]; exact hp); rw [bas_pr] at this; exact this
theorem Vlf.kd {p : Nat} (hp : p < l.ps.length) : 0 ≤ (l.pr p).kind ∧ (l.pr p).kind ≤ 3 := by have := v.v.kd p (by rw [bas_len]; exact hp); rw [bas_pr] at this; exact this
theorem Vlf.id {p : Nat} (hp : p < l.ps.length) : (l.pr p).kind = 0 ↔ (l.pr p).phase = 0 := by
  have := v.v.id p (by rw [bas_len]; exact hp)
  rw [bas_pr, rel_z] at this
  exact this
theorem Vlf.odr : Odr l.cs.length (rnk l) := @rnk_odr (bas l) v.v
theorem Vlf.iff {a b : Nat} (ha : a < l.cs.length) (hb : b < l.cs.length) : blw l a b = true ↔ rnk l a < rnk l b := @rnk_iff (bas l) v.v a b ha hb
end
theorem rel_ph {x : Po} (h : isPh x.phase) : (rel x).phase = 18 ∨ (0 ≤ (rel x).phase ∧ (rel x).phase ≤ 13) := by
  unfold rel
  dsimp only
  split <;> omega
theorem vlf_setP {l : Ls} (v : Vlf l) {p : Nat} (hp : p < l.ps.length) {x : Po} (h1 : 0 ≤ x.cell ∧ x.cell < l.cs.length) (h2 : 0 ≤ x.pred ∧ x.pred < l.cs.length) (h3 : 0 ≤ x.succ ∧ x.succ < l.cs.length) (h4 : 0 ≤ x.next ∧ x.next < l.cs.length) (h5 : 0 ≤ x.kind ∧ x.kind ≤ 3) (h6 : isPh x.phase) (h7 : x.kind = 0 ↔ x.phase = 0) : Vlf (l.setP p x) where
  v := by
    have e : bas (l.setP p x) = (bas l).setP p (rel x) := by
      unfold bas Ls.setP
      simp only [List.map_set]
    rw [e]
    exact vld_setP v.v (by rw [bas_len]; exact hp) h1 h2 h3 h4 h5 (rel_ph h6) (by rw [rel_z]; exact h7)
  lf := v.lf
  lk := v.lk
  ph q hq := by rw [Ls.len_setP] at hq; rw [Ls.pr_setP l hp]; split; exact h6; exact v.ph q hq
theorem vlf_setC {l : Ls} (v : Vlf l) {i : Nat} (hi : i < l.cs.length) {c : Ce} (hk : c.key = (l.at_ i).key) (h1 : c.left = 0) (h2 : 0 ≤ c.right ∧ c.right < l.cs.length) (h3 : c.lock = 0 ∨ c.lock = 1) : Vlf (l.setC i c) where
  v := vld_setC (l := bas l) v.v hi hk (by have := v.n2; rw [h1]; exact ⟨Int.le_refl _, by show (0 : Int) < l.cs.length; omega⟩) h2 (by have := v.m1; rw [bas_len]; omega)
  lf j hj := by rw [Ls.len_setC] at hj; rw [Ls.at_setC l hi]; split; exact h1; exact v.lf j hj
  lk j hj := by rw [Ls.len_setC] at hj; rw [Ls.at_setC l hi]; split; exact h3; exact v.lk j hj
  ph := v.ph
theorem toSt_setC (l : Ls) {i : Nat} (h : i < l.cs.length) (c : Ce) : toSt (l.setC i c) = (toSt l).setC i (toCl c) := by
  unfold toSt St.setC
  congr 1
  funext j
  rw [Ls.at_setC l h]
  split <;> rfl
theorem toSt_setP (l : Ls) {p : Nat} (h : p < l.ps.length) (x : Po) : toSt (l.setP p x) = (toSt l).setP p (toPr x) := by
  unfold toSt St.setP
  congr 1
  funext j
  rw [Ls.pr_setP l h]
  split <;> rfl
theorem toSt_CP (l : Ls) {i : Nat} (h : i < l.cs.length) (c : Ce) {p : Nat} (hp : p < l.ps.length) (x : Po) : toSt ((l.setC i c).setP p x) = ((toSt l).setC i (toCl c)).setP p (toPr x) := by
  rw [toSt_setP _ (show p < (l.setC i c).ps.length from hp), toSt_setC l h]
/-- A link is as it was expected, and its cell is not removed. -/
def okI (l : Ls) (i : Nat) (e : Int) : Prop := (l.at_ i).right = e ∧ (l.at_ i).gone = false
instance (l : Ls) (i : Nat) (e : Int) : Decidable (okI l i e) := inferInstanceAs (Decidable (_ ∧ _))
/-- A process begins again. -/
def agnV (l : Ls) (p : Nat) : Ls := l.setP p { l.pr p with pred := 0, succ := (l.at_ 0).right, phase := 1 }
/-- A step of an active process; none: it has nothing to do. -/
def stepV (l : Ls) (p : Nat) : Option Ls :=
  let x := l.pr p
  let pd := x.pred.toNat
  let sc := x.succ.toNat
  let ce := x.cell.toNat
  if x.phase = 1 then
    if (l.at_ sc).gone = true then some (l.setP p { x with next := (l.at_ sc).right, phase := 14 })
    else if blw l sc ce = true then some (l.setP p { x with pred := x.succ, succ := (l.at_ sc).right })
    else if x.kind = 3 then some (l.setP p { x with next := (l.at_ sc).right, res := decide (x.succ = x.cell), phase := 18 })
    else if x.kind = 1 then some (l.setP p { x with next := (l.at_ sc).right, phase := 6 })
    else if x.succ = x.cell then some (l.setP p { x with next := (l.at_ sc).right, phase := 16 })
    else some (l.setP p { x with next := (l.at_ sc).right, phase := 18 })
  else if x.phase = 14 then
    if okI l pd x.succ then some ((l.setC pd { l.at_ pd with right := x.next }).setP p { x with succ := x.next, phase := 1 }) else some (agnV l p)
  else if x.phase = 6 then some ((l.setC ce { l.at_ ce with right := x.succ }).setP p { x with phase := 15 })
  else if x.phase = 15 then
    if okI l pd x.succ then some ((l.setC pd { l.at_ pd with right := x.cell }).setP p { x with res := true, phase := 18 }) else some (agnV l p)
  else if x.phase = 16 then
    if okI l ce x.next then some ((l.setC ce { l.at_ ce with gone := true }).setP p { x with res := true, phase := 17 }) else some (agnV l p)
  else if x.phase = 17 then
    if okI l pd x.cell then some ((l.setC pd { l.at_ pd with right := x.next }).setP p { x with phase := 18 }) else some (l.setP p { x with phase := 18 })
  else none
theorem okI_iff {l : Ls} (v : Vlf l) {i : Nat} (hi : i < l.cs.length) {e : Int} (he : 0 ≤ e) : okC (toSt l) i e.toNat ↔ okI l i e := by
  have := v.rg i hi
  show (l.at_ i).right.toNat = e.toNat ∧ (l.at_ i).gone = false ↔ (l.at_ i).right = e ∧ (l.at_ i).gone = false
  rw [nat_eq this.1 he]
theorem agn_st {l : Ls} {p : Nat} (hp : p < l.ps.length) : agn (toSt l) p = toSt (agnV l p) := by
  unfold agnV
  rw [toSt_setP l hp]
  rfl
/-- THE STEP is that of the plain state. -/
theorem step_st {l : Ls} (v : Vlf l) {p : Nat} (hp : p < l.ps.length) : stp (rnk l) (toSt l) p = (stepV l p).map toSt := by
  obtain ⟨hc0, hc⟩ := v.ce hp
  obtain ⟨hd0, hd⟩ := v.pd hp
  obtain ⟨hs0, hs⟩ := v.sc hp
  obtain ⟨hn0, hn⟩ := v.nx hp
  have hP : (toSt l).p p = toPr (l.pr p) := rfl
  have hC : ∀ i, (toSt l).c i = toCl (l.at_ i) := fun _ => rfl
  have hb := v.iff (a := (l.pr p).succ.toNat) (b := (l.pr p).cell.toNat) (by omega) (by omega)
  have hph := v.ph p hp
  have hag := agn_st hp
  have ok1 := okI_iff v (i := (l.pr p).pred.toNat) (e := (l.pr p).succ) (by omega) hs0
  have ok2 := okI_iff v (i := (l.pr p).cell.toNat) (e := (l.pr p).next) (by omega) hn0
  have ok3 := okI_iff v (i := (l.pr p).pred.toNat) (e := (l.pr p).cell) (by omega) hc0
  unfold stp stepV
  rw [hP]
  generalize hx : l.pr p = x at *
  obtain ⟨kind, cell, phase, pred, succ, next, res⟩ := x
  simp only at *
  have hpd : pred.toNat < l.cs.length := by omega
  have hsd : succ.toNat < l.cs.length := by omega
  have hcd : cell.toNat < l.cs.length := by omega
  have e1 := nat_eq hs0 hc0
  have k1 := kd_fnd kind
  have k2 := kd_ins kind
  rcases hph with rfl | rfl | rfl | rfl | rfl | rfl | rfl | rfl
  · simp [toPr, phOf]
  · show (if ((toSt l).c succ.toNat).gone = true then some _ else if rnk l succ.toNat < rnk l cell.toNat then some _ else if kdOf kind = .fnd then some _ else if kdOf kind = .ins then some _ else if succ.toNat = cell.toNat then some _ else some _) = Option.map toSt (if (l.at_ succ.toNat).gone = true then some _ else if blw l succ.toNat cell.toNat = true then some _ else if kind = 3 then some _ else if kind = 1 then some _ else if succ = cell then some _ else some _)
    by_cases hg : (l.at_ succ.toNat).gone = true
    · have hg2 : ((toSt l).c succ.toNat).gone = true := hg
      rw [if_pos hg2, if_pos hg, Option.map_some, toSt_setP l hp]
      rfl
    · have hg2 : ¬ ((toSt l).c succ.toNat).gone = true := hg
      rw [if_neg hg2, if_neg hg]
      by_cases h : blw l succ.toNat cell.toNat = true
      · rw [if_pos (hb.1 h), if_pos h, Option.map_some, toSt_setP l hp]
        rfl
      · rw [if_neg (fun q => h (hb.2 q)), if_neg h]
        by_cases q3 : kind = 3
        · rw [if_pos (k1.2 q3), if_pos q3, Option.map_some, toSt_setP l hp]
          have : decide (succ.toNat = cell.toNat) = decide (succ = cell) := by simp only [e1]
          show some ((toSt l).setP p ⟨_, .done, _, _, _, _, decide (succ.toNat = cell.toNat)⟩) = _
          rw [this]
          rfl
        · rw [if_neg (fun q => q3 (k1.1 q)), if_neg q3]
          by_cases q1 : kind = 1
          · rw [if_pos (k2.2 q1), if_pos q1, Option.map_some, toSt_setP l hp]
            rfl
          · rw [if_neg (fun q => q1 (k2.1 q)), if_neg q1]
            by_cases q : succ = cell
            · rw [if_pos (e1.2 q), if_pos q, Option.map_some, toSt_setP l hp]
              rfl
            · rw [if_neg (fun a => q (e1.1 a)), if_neg q, Option.map_some, toSt_setP l hp]
              rfl
  · show some _ = Option.map toSt (some _)
    rw [Option.map_some, toSt_CP l hcd _ hp]
    rfl
  · show (if okC (toSt l) pred.toNat succ.toNat then some _ else some _) = Option.map toSt (if okI l pred.toNat succ then some _ else some _)
    by_cases q : okI l pred.toNat succ
    · rw [if_pos (ok1.2 q), if_pos q, Option.map_some, toSt_CP l hpd _ hp]
      rfl
    · rw [if_neg (fun a => q (ok1.1 a)), if_neg q, Option.map_some, hag]
  · show (if okC (toSt l) pred.toNat succ.toNat then some _ else some _) = Option.map toSt (if okI l pred.toNat succ then some _ else some _)
    by_cases q : okI l pred.toNat succ
    · rw [if_pos (ok1.2 q), if_pos q, Option.map_some, toSt_CP l hpd _ hp]
      rfl
    · rw [if_neg (fun a => q (ok1.1 a)), if_neg q, Option.map_some, hag]
  · show (if okC (toSt l) cell.toNat next.toNat then some _ else some _) = Option.map toSt (if okI l cell.toNat next then some _ else some _)
    by_cases q : okI l cell.toNat next
    · rw [if_pos (ok2.2 q), if_pos q, Option.map_some, toSt_CP l hcd _ hp]
      rfl
    · rw [if_neg (fun a => q (ok2.1 a)), if_neg q, Option.map_some, hag]
  · show (if okC (toSt l) pred.toNat cell.toNat then some _ else some _) = Option.map toSt (if okI l pred.toNat cell then some _ else some _)
    by_cases q : okI l pred.toNat cell
    · rw [if_pos (ok3.2 q), if_pos q, Option.map_some, toSt_CP l hpd _ hp]
      rfl
    · rw [if_neg (fun a => q (ok3.1 a)), if_neg q, Option.map_some, toSt_setP l hp]
      rfl
  · simp [toPr, phOf]
theorem step_vld {l l' : Ls} (v : Vlf l) {p : Nat} (hp : p < l.ps.length) (h : stepV l p = some l') : Vlf l' ∧ Kin l l' := by
  have hce := v.ce hp
  have hpd := v.pd hp
  have hsc := v.sc hp
  have hnx := v.nx hp
  have hkd := v.kd hp
  have hid := v.id hp
  have hph := v.ph p hp
  have hn2 := v.n2
  have h0 := v.rg 0 (by omega)
  have isc : (l.pr p).succ.toNat < l.cs.length := by omega
  have ipd : (l.pr p).pred.toNat < l.cs.length := by omega
  have ice : (l.pr p).cell.toNat < l.cs.length := by omega
  have hrs := v.rg _ isc
  have k0 := Kin.refl l
  -- the record alone
  have P : ∀ {l1 : Ls}, Vlf l1 → Kin l l1 → ∀ x : Po, (x.kind = (l.pr p).kind) → (x.cell = (l.pr p).cell) → (0 ≤ x.pred ∧ x.pred < l.cs.length) → (0 ≤ x.succ ∧ x.succ < l.cs.length) → (0 ≤ x.next ∧ x.next < l.cs.length) → isPh x.phase → x.phase ≠ 0 → (l.pr p).phase ≠ 0 → Vlf (l1.setP p x) ∧ Kin l (l1.setP p x) := fun {l1} v1 k1 x a1 a2 a3 a4 a5 a6 a7 a8 =>
    ⟨vlf_setP v1 (by rw [k1.m]; exact hp) (by rw [a2, k1.n]; exact hce) (by rw [k1.n]; exact a3) (by rw [k1.n]; exact a4) (by rw [k1.n]; exact a5) (by rw [a1]; exact hkd) a6 (by rw [a1]; exact ⟨fun q => absurd (hid.1 q) a8, fun q => absurd q a7⟩), k1.setP p x⟩
  have C : ∀ (i : Nat) (c : Ce), i < l.cs.length → c.key = (l.at_ i).key → c.left = (l.at_ i).left → (0 ≤ c.right ∧ c.right < l.cs.length) → c.lock = (l.at_ i).lock → Vlf (l.setC i c) ∧ Kin l (l.setC i c) := fun i c hi b1 b2 b3 b4 =>
    ⟨vlf_setC v hi b1 (by rw [b2]; exact v.lf i hi) b3 (by rw [b4]; exact v.lk i hi), k0.setC hi b1⟩
  have z2 : (0 : Int) ≤ 0 ∧ (0 : Int) < l.cs.length := ⟨Int.le_refl _, by omega⟩
  have A : (l.pr p).phase ≠ 0 → Vlf (agnV l p) ∧ Kin l (agnV l p) := fun q =>
    P v k0 _ rfl rfl z2 h0 hnx (.inr (.inl rfl)) (by show (1 : Int) ≠ 0; omega) q
  unfold stepV at h
  simp only at h
  by_cases f1 : (l.pr p).phase = 1
  · have q0 : (l.pr p).phase ≠ 0 := by omega
    rw [if_pos f1] at h
    (repeat' split at h) <;> injection h with h <;> subst h
    · exact P v k0 _ rfl rfl hpd hsc hrs (by show isPh 14; decide) (by show (14 : Int) ≠ 0; omega) q0
    · exact P v k0 _ rfl rfl hsc hrs hnx hph q0 q0
    · exact P v k0 _ rfl rfl hpd hsc hrs (by show isPh 18; decide) (by show (18 : Int) ≠ 0; omega) q0
    · exact P v k0 _ rfl rfl hpd hsc hrs (by show isPh 6; decide) (by show (6 : Int) ≠ 0; omega) q0
    · exact P v k0 _ rfl rfl hpd hsc hrs (by show isPh 16; decide) (by show (16 : Int) ≠ 0; omega) q0
    · exact P v k0 _ rfl rfl hpd hsc hrs (by show isPh 18; decide) (by show (18 : Int) ≠ 0; omega) q0
  rw [if_neg f1] at h
  by_cases f14 : (l.pr p).phase = 14
  · have q0 : (l.pr p).phase ≠ 0 := by omega
    rw [if_pos f14] at h
    split at h <;> injection h with h <;> subst h
    · have c := C _ { l.at_ (l.pr p).pred.toNat with right := (l.pr p).next } ipd rfl rfl hnx rfl
      exact P c.1 c.2 _ rfl rfl hpd hnx hnx (by show isPh 1; decide) (by show (1 : Int) ≠ 0; omega) q0
    · exact A q0
  rw [if_neg f14] at h
  by_cases f6 : (l.pr p).phase = 6
  · have q0 : (l.pr p).phase ≠ 0 := by omega
    rw [if_pos f6] at h
    injection h with h; subst h
    have c := C _ { l.at_ (l.pr p).cell.toNat with right := (l.pr p).succ } ice rfl rfl hsc rfl
    exact P c.1 c.2 _ rfl rfl hpd hsc hnx (by show isPh 15; decide) (by show (15 : Int) ≠ 0; omega) q0
  rw [if_neg f6] at h
  by_cases f15 : (l.pr p).phase = 15
  · have q0 : (l.pr p).phase ≠ 0 := by omega
    rw [if_pos f15] at h
    split at h <;> injection h with h <;> subst h
    · have c := C _ { l.at_ (l.pr p).pred.toNat with right := (l.pr p).cell } ipd rfl rfl hce rfl
      exact P c.1 c.2 _ rfl rfl hpd hsc hnx (by show isPh 18; decide) (by show (18 : Int) ≠ 0; omega) q0
    · exact A q0
  rw [if_neg f15] at h
  by_cases f16 : (l.pr p).phase = 16
  · have q0 : (l.pr p).phase ≠ 0 := by omega
    rw [if_pos f16] at h
    split at h <;> injection h with h <;> subst h
    · have c := C _ { l.at_ (l.pr p).cell.toNat with gone := true } ice rfl rfl (v.rg _ ice) rfl
      exact P c.1 c.2 _ rfl rfl hpd hsc hnx (by show isPh 17; decide) (by show (17 : Int) ≠ 0; omega) q0
    · exact A q0
  rw [if_neg f16] at h
  by_cases f17 : (l.pr p).phase = 17
  · have q0 : (l.pr p).phase ≠ 0 := by omega
    rw [if_pos f17] at h
    split at h <;> injection h with h <;> subst h
    · have c := C _ { l.at_ (l.pr p).pred.toNat with right := (l.pr p).next } ipd rfl rfl hnx rfl
      exact P c.1 c.2 _ rfl rfl hpd hsc hnx (by show isPh 18; decide) (by show (18 : Int) ≠ 0; omega) q0
    · exact P v k0 _ rfl rfl hpd hsc hnx (by show isPh 18; decide) (by show (18 : Int) ≠ 0; omega) q0
  rw [if_neg f17] at h
  cases h
/-- Start on a list as it is written. -/
def begV (l : Ls) (p : Nat) (k c : Int) : Ls := (if k = 1 then l.setC c.toNat { l.at_ c.toNat with lock := 1 } else l).setP p ⟨k, c, 1, 0, (l.at_ 0).right, 0, false⟩
theorem beg_kin {l : Ls} {k c : Int} (hc : 0 ≤ c ∧ c < l.cs.length) (p : Nat) : Kin l (begV l p k c) := by
  unfold begV
  split
  · exact ((Kin.refl l).setC (i := c.toNat) (c := { l.at_ c.toNat with lock := 1 }) (by omega) rfl).setP p _
  · exact (Kin.refl l).setP p _
theorem beg_vld {l : Ls} (v : Vlf l) {p : Nat} (hp : p < l.ps.length) {k c : Int} (hc : 0 ≤ c ∧ c < l.cs.length) (hk : 1 ≤ k ∧ k ≤ 3) : Vlf (begV l p k c) := by
  have hn := v.n2
  have z2 : (0 : Int) ≤ 0 ∧ (0 : Int) < l.cs.length := ⟨Int.le_refl _, by omega⟩
  have h0 := v.rg 0 (by omega)
  have P : ∀ {l1 : Ls}, Vlf l1 → Kin l l1 → Vlf (l1.setP p ⟨k, c, 1, 0, (l.at_ 0).right, 0, false⟩) := fun {l1} v1 k1 =>
    vlf_setP v1 (by rw [k1.m]; exact hp) (by rw [k1.n]; exact hc) (by rw [k1.n]; exact z2) (by rw [k1.n]; exact h0) (by rw [k1.n]; exact z2) ⟨by show 0 ≤ k; omega, hk.2⟩ (.inr (.inl rfl)) ⟨fun e => by have : k = 0 := e; omega, fun e => by have : (1 : Int) = 0 := e; omega⟩
  unfold begV
  split
  · have hi : c.toNat < l.cs.length := by omega
    exact P (vlf_setC v hi rfl (v.lf _ hi) (v.rg _ hi) (.inr rfl)) ((Kin.refl l).setC hi rfl)
  · exact P v (Kin.refl l)
theorem beg_st {l : Ls} {p : Nat} (hp : p < l.ps.length) {k c : Int} (hc : 0 ≤ c ∧ c < l.cs.length) : toSt (begV l p k c) = beg (toSt l) p (kdOf k) c.toNat := by
  unfold begV beg
  by_cases e : k = 1
  · rw [if_pos e, if_pos ((kd_ins k).2 e), toSt_CP l (by omega) _ hp]
    rfl
  · rw [if_neg e, if_neg (fun q => e ((kd_ins k).1 q)), toSt_setP l hp]
    rfl
/-- A list that New, Start and Step lead to. -/
def Led (l : Ls) : Prop := Vlf l ∧ ∃ U K, Ivt l.cs.length l.ps.length (rnk l) (toSt l) U K
theorem led_step {l l' : Ls} (h : Led l) {p : Nat} (hp : p < l.ps.length) (e : stepV l p = some l') : Led l' := by
  obtain ⟨v, U, K, hi⟩ := h
  obtain ⟨v', k'⟩ := step_vld v hp e
  have hs := step_st v hp
  rw [e] at hs
  have hi' := pres v.odr hi hp hs
  refine ⟨v', nU (toSt l) p U, nK (toSt l) p K, ?_⟩
  rw [k'.rnk, k'.n, k'.m]
  exact hi'
theorem act_ph {l : Ls} (v : Vlf l) {j : Nat} (hj : j < l.ps.length) : act ((toSt l).p j) = true ↔ (l.pr j).phase ≠ 0 ∧ (l.pr j).phase ≠ 18 := by
  have := v.ph j hj
  show act (toPr (l.pr j)) = true ↔ _
  unfold toPr
  generalize (l.pr j).phase = k at *
  rcases this with rfl | rfl | rfl | rfl | rfl | rfl | rfl | rfl <;> simp [act, phOf]
theorem off_ph {x : Po} (h : x.phase = 0 ∨ x.phase = 18) : act (toPr x) = false := by
  unfold toPr
  rcases h with h | h <;> rw [h] <;> rfl
theorem led_beg {l : Ls} (h : Led l) {p : Nat} (hp : p < l.ps.length) {k c : Int} (hc : 2 ≤ c ∧ c < l.cs.length) (hk : 1 ≤ k ∧ k ≤ 3) (ha : (l.pr p).phase = 0 ∨ (l.pr p).phase = 18) (hu : k = 1 → (l.at_ c.toNat).lock ≠ 1) : Led (begV l p k c) := by
  obtain ⟨v, U, K, hi⟩ := h
  have hc0 : 0 ≤ c ∧ c < l.cs.length := ⟨by omega, hc.2⟩
  have k' := beg_kin (k := k) hc0 p
  refine ⟨beg_vld v hp hc0 hk, U, K, ?_⟩
  rw [k'.rnk, k'.n, k'.m, beg_st hp hc0]
  refine pres_beg v.odr hi hp (off_ph ha) ?_ (by omega) (by omega) (fun e => ?_)
  · intro e
    have := (kd_none (by omega) hk.2).1 e
    omega
  · show decide ((l.at_ c.toNat).lock = 1) = false
    exact decide_eq_false (hu ((kd_ins k).1 e))
/-- The chain from a cell that was ever linked. -/
theorem chn_U {l : Ls} (v : Vlf l) {U K : Nat → Prop} (hi : Ivt l.cs.length l.ps.length (rnk l) (toSt l) U K) : ∀ f a, U a → l.cs.length ≤ rnk l a + f → ∃ ch, chnV l f a = some ch
  | 0, a, ka, hf => by have := rnk_n (hi.un a ka); omega
  | f + 1, a, ka, hf => by
    unfold chnV
    by_cases h1 : a = 1
    · exact ⟨[1], if_pos h1⟩
    · obtain ⟨k1, k2⟩ := hi.uR a ka h1
      have hb : blw l a (l.at_ a).right.toNat = true := (v.iff (hi.un a ka) (hi.un _ k1)).2 k2
      obtain ⟨ch, hc⟩ := chn_U v hi f (l.at_ a).right.toNat k1 (by have : rnk l a < rnk l (l.at_ a).right.toNat := k2; omega)
      exact ⟨a :: ch, by rw [if_neg h1, if_pos hb, hc]; rfl⟩
theorem chn_K {l : Ls} {U K : Nat → Prop} (hi : Ivt l.cs.length l.ps.length (rnk l) (toSt l) U K) : ∀ f a ch, K a → chnV l f a = some ch → ∀ i, i ∈ ch → K i
  | 0, a, ch, ka, hc, i, him => by cases hc
  | f + 1, a, ch, ka, hc, i, him => by
    unfold chnV at hc
    split at hc
    · rename_i e
      injection hc with hc
      subst hc
      obtain rfl : i = 1 := by simpa using him
      exact hi.k1
    · rename_i h1
      split at hc
      · cases hq : chnV l f (l.at_ a).right.toNat with
        | none => rw [hq] at hc; cases hc
        | some r =>
          rw [hq] at hc
          injection hc with hc
          have hc : a :: r = ch := hc
          rw [← hc] at him
          rcases List.mem_cons.1 him with e | e
          · rw [e]; exact ka
          · exact chn_K hi f _ r (hi.kR a ka h1).1 hq i e
      · cases hc
/-- In the chain from a cell is whatever the chain contains behind it. -/
theorem chn_all {l : Ls} (v : Vlf l) {U K : Nat → Prop} (hi : Ivt l.cs.length l.ps.length (rnk l) (toSt l) U K) : ∀ f a ch, K a → chnV l f a = some ch → ∀ i, K i → rnk l a ≤ rnk l i → i ∈ ch
  | 0, a, ch, ka, hc, i, _, _ => by cases hc
  | f + 1, a, ch, ka, hc, i, hK, hr => by
    have o := v.odr
    unfold chnV at hc
    split at hc
    · rename_i e
      injection hc with hc
      subst hc
      by_cases q : i = 1
      · subst q; simp
      · have := o.lst i (hi.un i (hi.kU i hK)) q
        rw [e] at hr
        omega
    · rename_i h1
      split at hc
      · cases hq : chnV l f (l.at_ a).right.toNat with
        | none => rw [hq] at hc; cases hc
        | some r =>
          rw [hq] at hc
          injection hc with hc
          have hc : a :: r = ch := hc
          rw [← hc, List.mem_cons]
          by_cases q : i = a
          · exact .inl q
          · have hne : rnk l a ≠ rnk l i := fun e => q (o.inj _ _ (hi.un i (hi.kU i hK)) (hi.un a (hi.kU a ka)) e.symm)
            have k := hi.kR a ka h1
            exact .inr (chn_all v hi f _ r k.1 hq i hK (k.2 i hK (by omega)))
      · cases hc
/-- Whether a process is inserting a cell. -/
def insB (l : Ls) (i : Nat) : Bool := l.ps.any (fun x => decide (x.cell = (i : Int)) && (decide (x.kind = 1) && (decide (x.phase ≠ 0) && decide (x.phase ≠ 18))))
noncomputable def vldB (l : Ls) : Bool := @decide (Vlf l) (Classical.propDecidable _)
theorem vldB_yes {l : Ls} (v : Vlf l) : vldB l = true := by unfold vldB; simp [v]
theorem vldB_no {l : Ls} (v : ¬ Vlf l) : vldB l = false := by unfold vldB; simp [v]
/-- A cell out of the chain was never inserted, is removed, or is on its way. -/
def accB (l : Ls) (ch : List Nat) (i : Nat) : Bool := !(decide ((l.at_ i).lock = 0) && (l.at_ i).gone) && !(decide ((l.at_ i).lock = 1) && !(l.at_ i).gone && !ch.contains i && !insB l i)
/-- What Check answers. -/
noncomputable def chkB (l : Ls) : Bool := vldB l && !(l.at_ 0).gone && !(l.at_ 1).gone && match chnV l l.cs.length 0 with
  | none => false
  | some ch => (ch.all fun i => decide ((l.at_ i).lock ≠ 0)) && ((List.range l.cs.length).all fun i => accB l ch i) && ((List.range l.cs.length).all fun i => !(l.at_ i).gone || (chnV l l.cs.length i).isSome)
theorem led_chk {l : Ls} (h : Led l) : chkB l = true := by
  obtain ⟨v, U, K, hi⟩ := h
  have hn := v.n2
  obtain ⟨ch, hc⟩ := chn_U v hi l.cs.length 0 (hi.kU 0 hi.k0) (by omega)
  have hz : ∀ i, K i → rnk l 0 ≤ rnk l i := fun i k => by
    by_cases e : i = 0
    · subst e; omega
    · have := v.odr.fst i (hi.un i (hi.kU i k)) e
      omega
  have hk : ∀ i, i ∈ ch ↔ K i := fun i => ⟨chn_K hi _ 0 ch hi.k0 hc i, fun q => chn_all v hi _ 0 ch hi.k0 hc i q (hz i q)⟩
  have hg0 : (l.at_ 0).gone = false := hi.g0
  have hg1 : (l.at_ 1).gone = false := hi.g1
  have hlk1 : ∀ i, U i → (l.at_ i).lock = 1 := fun i k => of_decide_eq_true (hi.ul i k)
  unfold chkB
  rw [vldB_yes v, hg0, hg1, hc]
  show (_ && _ && _ && (_ && _ && _)) = true
  simp only [Bool.not_false, Bool.and_true, Bool.true_and, Bool.and_eq_true, List.all_eq_true]
  refine ⟨⟨fun i hic => ?_, fun i hir => ?_⟩, fun i hir => ?_⟩
  · have := hlk1 i (hi.kU i ((hk i).1 hic))
    rw [decide_eq_true_eq]
    omega
  · have hin := List.mem_range.1 hir
    unfold accB
    rw [Bool.and_eq_true]
    constructor
    · cases hg : (l.at_ i).gone with
      | false => simp
      | true =>
        have := hlk1 i (hi.nu i hin hg)
        simp [this]
    · by_cases h1 : (l.at_ i).lock = 1
      · cases hg : (l.at_ i).gone with
        | true => simp
        | false =>
          by_cases hU : U i
          · have : ch.contains i = true := by rw [List.contains_iff_mem]; exact (hk i).2 (hi.gK i hU hg)
            rw [this]; simp
          · obtain ⟨p, hp, e1, e2, e3⟩ := hi.ow i hin (decide_eq_true h1) hU
            have a1 := (act_ph v hp).1 e1
            have a2 : (l.pr p).kind = 1 := (kd_ins _).1 e2
            have a3 : (l.pr p).cell.toNat = i := e3
            have a4 := v.ce hp
            have hI : insB l i = true := by
              unfold insB
              rw [List.any_eq_true]
              have hpr : l.pr p = l.ps[p] := by unfold Ls.pr; rw [List.getD_eq_getElem?_getD, List.getElem?_eq_getElem hp]; rfl
              refine ⟨l.ps[p], List.getElem_mem hp, ?_⟩
              rw [← hpr]
              simp only [Bool.and_eq_true, decide_eq_true_eq]
              exact ⟨by omega, a2, a1.1, a1.2⟩
            simp [hI]
      · simp [h1]
  · have hin := List.mem_range.1 hir
    cases hg : (l.at_ i).gone with
    | false => rfl
    | true =>
      obtain ⟨c2, h2⟩ := chn_U v hi l.cs.length i (hi.nu i hin hg) (by omega)
      rw [h2]; rfl
/-- The cells that one comes across from a cell, up to the tail or to one that was met. -/
def trv (l : Ls) : Nat → List Nat → Nat → List Nat
  | 0, _, _ => []
  | f + 1, seen, a => if a = 1 ∨ a ∈ seen then [] else if 2 ≤ a ∧ (l.at_ a).gone = false then a :: trv l f (a :: seen) (l.at_ a).right.toNat else trv l f (a :: seen) (l.at_ a).right.toNat
/-- What Members answers of a valid list. -/
def memV (l : Ls) : List Nat := trv l l.cs.length [] 0
end Lf
end
section
set_option linter.unusedSimpArgs false
set_option linter.unusedVariables false
open Go.RowKit Go.Maps
namespace Lf
open Lk
section
variable {l l' : Ls}
theorem step_len (h : Vlf l) {p : Nat} (hp : p < l.ps.length) (e : stepV l p = some l') : l'.cs.length = l.cs.length ∧ l'.ps.length = l.ps.length :=
  have k := (step_vld h hp e).2
  ⟨k.n, k.m⟩
end
end Lf
end
end Go.Proofs.YtmhbloefmknikaaGreatDoor
