/-
  The list that several processes change with locks, as a plain state: every step keeps the invariant, some process can always step, at most Bound steps are left, where members change, what a search comes to. Conditions: the cells are ordered by a rank, the head first and the tail last.
-/
import Derived.Lib.Hide
set_option linter.unusedSimpArgs false
set_option linter.unusedVariables false
namespace Go.Proofs.YtmhbloefmknikaaGreatDoor
namespace Lk
/-- Phases of an operation. -/
inductive Ph where
  | idle | find | lockP | lockS | check | retry | link0 | link1 | link2 | lockN | un0 | un1 | un2 | rel | done
deriving DecidableEq, Inhabited
inductive Kd where
  | none | ins | rem | fnd
deriving DecidableEq, Inhabited
structure Cl where
  left : Nat
  right : Nat
  lock : Nat
  gone : Bool
deriving Inhabited
structure Pr where
  kind : Kd
  ph : Ph
  cell : Nat
  pred : Nat
  succ : Nat
  next : Nat
  res : Bool
deriving Inhabited
structure St where
  c : Nat → Cl
  p : Nat → Pr
def St.setC (s : St) (i : Nat) (x : Cl) : St := { s with c := fun j => if j = i then x else s.c j }
def St.setP (s : St) (i : Nat) (x : Pr) : St := { s with p := fun j => if j = i then x else s.p j }
def St.free (s : St) (p : Nat) : St := { s with c := fun j => if (s.c j).lock = p + 1 then { s.c j with lock := 0 } else s.c j }
/-- Which cells a process holds. -/
def holds (x : Pr) (i : Nat) : Prop :=
  x.kind ≠ .fnd ∧ x.ph ≠ .idle ∧ x.ph ≠ .find ∧ x.ph ≠ .lockP ∧ x.ph ≠ .done ∧
  (i = x.pred ∨ (i = x.succ ∧ x.ph ≠ .lockS) ∨ (i = x.next ∧ x.next ≠ 0 ∧ (x.ph = .un0 ∨ x.ph = .un1 ∨ x.ph = .un2 ∨ x.ph = .rel)))
variable (n m : Nat) (rk : Nat → Nat)
/-- One step of a process; none: it waits or is idle. -/
def stp (s : St) (p : Nat) : Option St :=
  let x := s.p p
  match x.ph with
  | .idle => none
  | .done => none
  | .find => if rk x.succ < rk x.cell then some (s.setP p { x with pred := x.succ, succ := (s.c x.succ).right }) else if x.kind = .fnd then some (s.setP p { x with ph := .check }) else some (s.setP p { x with ph := .lockP })
  | .lockP => if (s.c x.pred).lock ≠ 0 then none else some ((s.setC x.pred { s.c x.pred with lock := p + 1 }).setP p { x with ph := .lockS })
  | .lockS => if (s.c x.succ).lock ≠ 0 then none else some ((s.setC x.succ { s.c x.succ with lock := p + 1 }).setP p { x with ph := .check })
  | .check => if x.kind = .fnd then some (s.setP p { x with res := decide (x.succ = x.cell) && !(s.c x.cell).gone, ph := .done })
      else if (s.c x.pred).gone = true ∨ (s.c x.succ).gone = true ∨ (s.c x.pred).right ≠ x.succ then some (s.setP p { x with ph := .retry })
      else if x.kind = .ins ∧ x.succ ≠ x.cell then some (s.setP p { x with ph := .link0 })
      else if x.kind = .rem ∧ x.succ = x.cell then some (s.setP p { x with ph := .lockN })
      else some (s.setP p { x with ph := .rel })
  | .retry => some ((s.free p).setP p { x with pred := 0, succ := (s.c 0).right, ph := .find })
  | .lockN => if (s.c (s.c x.cell).right).lock ≠ 0 then none else some ((s.setC (s.c x.cell).right { s.c (s.c x.cell).right with lock := p + 1 }).setP p { x with next := (s.c x.cell).right, ph := .un0 })
  | .rel => some ((s.free p).setP p { x with ph := .done })
  | .link0 => some ((s.setC x.cell { s.c x.cell with left := x.pred, right := x.succ }).setP p { x with ph := .link1 })
  | .link1 => 
      let s1 := s.setC x.pred { s.c x.pred with right := x.cell }
      some ((s1.setC x.cell { s1.c x.cell with gone := false }).setP p { x with ph := .link2 })
  | .link2 => some ((s.setC x.succ { s.c x.succ with left := x.cell }).setP p { x with res := true, ph := .rel })
  | .un0 => some ((s.setC x.cell { s.c x.cell with gone := true }).setP p { x with ph := .un1 })
  | .un1 => some ((s.setC x.pred { s.c x.pred with right := x.next }).setP p { x with ph := .un2 })
  | .un2 => some ((s.setC x.next { s.c x.next with left := x.pred }).setP p { x with res := true, ph := .rel })
/-- What is known of a process. -/
def PI (s : St) (K : Nat → Prop) (x : Pr) : Prop :=
  let R := fun i => (s.c i).right
  match x.ph with
  | .idle => True
  | .done => True
  | .find => 2 ≤ x.cell ∧ x.cell < n ∧ x.kind ≠ .none ∧ x.pred < n ∧ x.succ < n ∧ rk x.pred < rk x.cell ∧ x.succ ≠ 0 ∧ (x.succ ≠ 1 → R x.succ ≠ 0) ∧ R x.pred ≠ 0
  | .lockP => 2 ≤ x.cell ∧ x.cell < n ∧ (x.kind = .ins ∨ x.kind = .rem) ∧ x.pred < n ∧ x.succ < n ∧ rk x.pred < rk x.cell ∧ rk x.cell ≤ rk x.succ ∧ (x.succ ≠ 1 → R x.succ ≠ 0) ∧ R x.pred ≠ 0
  | .lockS => 2 ≤ x.cell ∧ x.cell < n ∧ (x.kind = .ins ∨ x.kind = .rem) ∧ x.pred < n ∧ x.succ < n ∧ rk x.pred < rk x.cell ∧ rk x.cell ≤ rk x.succ ∧ (x.succ ≠ 1 → R x.succ ≠ 0) ∧ R x.pred ≠ 0
  | .check => 2 ≤ x.cell ∧ x.cell < n ∧ x.kind ≠ .none ∧ x.pred < n ∧ x.succ < n ∧ rk x.pred < rk x.cell ∧ rk x.cell ≤ rk x.succ ∧ (x.succ ≠ 1 → R x.succ ≠ 0) ∧ R x.pred ≠ 0
  | .retry => 2 ≤ x.cell ∧ x.cell < n ∧ (x.kind = .ins ∨ x.kind = .rem) ∧ x.pred < n ∧ x.succ < n
  | .link0 => 2 ≤ x.cell ∧ x.cell < n ∧ x.kind = .ins ∧ K x.pred ∧ K x.succ ∧ R x.pred = x.succ ∧ (s.c x.pred).gone = false ∧ rk x.pred < rk x.cell ∧ rk x.cell < rk x.succ
  | .link1 => 2 ≤ x.cell ∧ x.cell < n ∧ x.kind = .ins ∧ K x.pred ∧ K x.succ ∧ R x.pred = x.succ ∧ (s.c x.pred).gone = false ∧ rk x.pred < rk x.cell ∧ rk x.cell < rk x.succ ∧ R x.cell = x.succ ∧ (s.c x.cell).left = x.pred
  | .link2 => 2 ≤ x.cell ∧ x.cell < n ∧ x.kind = .ins ∧ K x.pred ∧ K x.cell ∧ R x.pred = x.cell ∧ R x.cell = x.succ ∧ rk x.pred < rk x.cell ∧ rk x.cell < rk x.succ
  | .lockN => 2 ≤ x.cell ∧ x.cell < n ∧ x.kind = .rem ∧ x.succ = x.cell ∧ K x.pred ∧ K x.cell ∧ R x.pred = x.cell ∧ (s.c x.pred).gone = false ∧ (s.c x.cell).gone = false ∧ rk x.pred < rk x.cell
  | .un0 => 2 ≤ x.cell ∧ x.cell < n ∧ x.kind = .rem ∧ x.succ = x.cell ∧ K x.pred ∧ K x.cell ∧ R x.pred = x.cell ∧ (s.c x.pred).gone = false ∧ (s.c x.cell).gone = false ∧ x.next = R x.cell ∧ rk x.pred < rk x.cell
  | .un1 => 2 ≤ x.cell ∧ x.cell < n ∧ x.kind = .rem ∧ x.succ = x.cell ∧ K x.pred ∧ K x.cell ∧ R x.pred = x.cell ∧ (s.c x.pred).gone = false ∧ (s.c x.cell).gone = true ∧ x.next = R x.cell ∧ rk x.pred < rk x.cell
  | .un2 => 2 ≤ x.cell ∧ x.cell < n ∧ x.kind = .rem ∧ x.succ = x.cell ∧ K x.pred ∧ R x.pred = x.next ∧ K x.next ∧ rk x.pred < rk x.cell
  | .rel => 2 ≤ x.cell ∧ x.cell < n ∧ (x.kind = .ins ∨ x.kind = .rem) ∧ x.pred < n ∧ x.succ < n ∧ x.next < n
/-- The order of the cells. -/
structure Odr : Prop where
  two : 2 ≤ n
  inj : ∀ a b, a < n → b < n → rk a = rk b → a = b
  fst : ∀ a, a < n → a ≠ 0 → rk 0 < rk a
  lst : ∀ a, a < n → a ≠ 1 → rk a < rk 1
/-- The invariant. -/
structure Ivt (s : St) (K : Nat → Prop) : Prop where
  k0 : K 0
  k1 : K 1
  kn : ∀ i, K i → i < n
  kR : ∀ i, K i → i ≠ 1 → K (s.c i).right ∧ rk i < rk (s.c i).right ∧ ∀ d, K d → rk i < rk d → rk (s.c i).right ≤ rk d
  g0 : (s.c 0).gone = false
  g1 : (s.c 1).gone = false
  gK : ∀ i, 2 ≤ i → i < n → (s.c i).gone = false → K i
  gU : ∀ i, K i → (s.c i).gone = true → ∃ p, p < m ∧ (s.p p).ph = .un1 ∧ (s.p p).cell = i
  lk : ∀ i, i < n → ∀ p, p < m → ((s.c i).lock = p + 1 ↔ holds (s.p p) i)
  lm : ∀ i, i < n → (s.c i).lock ≤ m
  rn : ∀ i, i < n → (s.c i).right < n
  rL : ∀ i, i < n → (s.c i).right ≠ 0 → rk i < rk (s.c i).right ∧ ((s.c i).right ≠ 1 → (s.c (s.c i).right).right ≠ 0)
  lf : ∀ i, K i → i ≠ 1 → (s.c (s.c i).right).left = i ∨ ∃ p, p < m ∧ (((s.p p).ph = .link2 ∧ (s.p p).cell = i ∧ (s.p p).succ = (s.c i).right) ∨ ((s.p p).ph = .un2 ∧ (s.p p).pred = i ∧ (s.p p).next = (s.c i).right))
  pi : ∀ p, p < m → PI n rk s K (s.p p)
  nx : ∀ p, p < m → (s.p p).next < n
  nz : ∀ p, p < m → (s.p p).next = 0 ∨ (s.p p).ph = .idle ∨ (s.p p).ph = .done ∨ (s.p p).ph = .un0 ∨ (s.p p).ph = .un1 ∨ (s.p p).ph = .un2 ∨ (s.p p).ph = .rel
/-- Two processes never hold the same cell. -/
theorem Ivt.hold_uniq {n m : Nat} {rk : Nat → Nat} {s : St} {K : Nat → Prop} (h : Ivt n m rk s K) {i p q : Nat} (hi : i < n) (hp : p < m) (hq : q < m) (a : holds (s.p p) i) (b : holds (s.p q) i) : p = q := by
  have h1 := (h.lk i hi p hp).2 a
  have h2 := (h.lk i hi q hq).2 b
  omega
variable {n m : Nat} {rk : Nat → Nat}
theorem St.setP_c (s : St) (i : Nat) (x : Pr) : (s.setP i x).c = s.c := rfl
theorem St.setP_p (s : St) (i : Nat) (x : Pr) (j : Nat) : (s.setP i x).p j = if j = i then x else s.p j := rfl
theorem St.setC_c (s : St) (i : Nat) (x : Cl) (j : Nat) : (s.setC i x).c j = if j = i then x else s.c j := rfl
theorem St.setC_p (s : St) (i : Nat) (x : Cl) : (s.setC i x).p = s.p := rfl
theorem PI_congr {s t : St} {K : Nat → Prop} (hr : ∀ i, (t.c i).right = (s.c i).right) (hl : ∀ i, (t.c i).left = (s.c i).left) (hg : ∀ i, (t.c i).gone = (s.c i).gone) (x : Pr) : PI n rk t K x = PI n rk s K x := by
  unfold PI
  simp only [hr, hl, hg]
/-- Only locks and a process's record change. -/
theorem pres_gen {s t : St} {K : Nat → Prop} (h : Ivt n m rk s K) {p : Nat} (y : Pr) (hr : ∀ i, (t.c i).right = (s.c i).right) (hl : ∀ i, (t.c i).left = (s.c i).left) (hg : ∀ i, (t.c i).gone = (s.c i).gone) (ht : t.p = s.p)
    (hlk : ∀ i, i < n → ∀ q, q < m → ((t.c i).lock = q + 1 ↔ holds (if q = p then y else s.p q) i)) (hlm : ∀ i, i < n → (t.c i).lock ≤ m) (hpi : PI n rk s K y) (hn : y.next < n) (hz : y.next = 0 ∨ y.ph = .idle ∨ y.ph = .done ∨ y.ph = .un0 ∨ y.ph = .un1 ∨ y.ph = .un2 ∨ y.ph = .rel)
    (h1 : (s.p p).ph ≠ .un1) (h2 : (s.p p).ph ≠ .link2) (h3 : (s.p p).ph ≠ .un2) : Ivt n m rk (t.setP p y) K := by
  refine ⟨h.k0, h.k1, h.kn, fun i hi h0 => ?_, ?_, ?_, fun i i2 hi hgi => ?_, fun i hi hgi => ?_, fun i hi q hq => ?_, hlm, fun i hi => ?_, fun i hi => ?_, fun i hi h0 => ?_, fun q hq => ?_, fun q hq => ?_, fun q hq => ?_⟩
  · rw [St.setP_c, hr]; exact h.kR i hi h0
  · rw [St.setP_c, hg]; exact h.g0
  · rw [St.setP_c, hg]; exact h.g1
  · rw [St.setP_c, hg] at hgi; exact h.gK i i2 hi hgi
  · rw [St.setP_c, hg] at hgi
    obtain ⟨q, hq, e1, e2⟩ := h.gU i hi hgi
    have : q ≠ p := fun e => h1 (e ▸ e1)
    exact ⟨q, hq, by rw [St.setP_p, if_neg this, ht]; exact ⟨e1, e2⟩⟩
  · rw [St.setP_p, ht]
    exact hlk i hi q hq
  · rw [St.setP_c, hr]; exact h.rn i hi
  · rw [St.setP_c, hr, hr]; exact h.rL i hi
  · rw [St.setP_c, hl, hr]
    rcases h.lf i hi h0 with e | ⟨q, hq, e⟩
    · exact .inl e
    · refine .inr ⟨q, hq, ?_⟩
      have : q ≠ p := fun e2 => by
        subst e2
        rcases e with e | e
        · exact h2 e.1
        · exact h3 e.1
      rw [St.setP_p, if_neg this, ht]
      exact e
  · rw [St.setP_p, PI_congr (s := s) (fun i => by rw [St.setP_c, hr]) (fun i => by rw [St.setP_c, hl]) (fun i => by rw [St.setP_c, hg])]
    split
    · exact hpi
    · rw [ht]; exact h.pi q hq
  · rw [St.setP_p, ht]
    split
    · exact hn
    · exact h.nx q hq
  · rw [St.setP_p, ht]
    split
    · exact hz
    · exact h.nz q hq
/-- A process's record alone changes, and it holds what it held. -/
theorem pres_rec {s : St} {K : Nat → Prop} (h : Ivt n m rk s K) {p : Nat} (hp : p < m) (y : Pr) (hh : ∀ i, i < n → (holds y i ↔ holds (s.p p) i)) (hpi : PI n rk s K y) (hn : y.next < n) (hz : y.next = 0 ∨ y.ph = .idle ∨ y.ph = .done ∨ y.ph = .un0 ∨ y.ph = .un1 ∨ y.ph = .un2 ∨ y.ph = .rel)
    (h1 : (s.p p).ph ≠ .un1) (h2 : (s.p p).ph ≠ .link2) (h3 : (s.p p).ph ≠ .un2) : Ivt n m rk (s.setP p y) K := by
  refine pres_gen h y (fun _ => rfl) (fun _ => rfl) (fun _ => rfl) rfl (fun i hi q hq => ?_) h.lm hpi hn hz h1 h2 h3
  split
  · rename_i e
    subst e
    rw [hh i hi]
    exact h.lk i hi q hp
  · exact h.lk i hi q hq
/-- A cell is locked. -/
theorem pres_lock {s : St} {K : Nat → Prop} (h : Ivt n m rk s K) {p : Nat} (hp : p < m) {c : Nat} (h0 : (s.c c).lock = 0) (y : Pr) (hh : ∀ i, i < n → (holds y i ↔ (holds (s.p p) i ∨ i = c))) (hpi : PI n rk s K y) (hn : y.next < n) (hz : y.next = 0 ∨ y.ph = .idle ∨ y.ph = .done ∨ y.ph = .un0 ∨ y.ph = .un1 ∨ y.ph = .un2 ∨ y.ph = .rel)
    (h1 : (s.p p).ph ≠ .un1) (h2 : (s.p p).ph ≠ .link2) (h3 : (s.p p).ph ≠ .un2) : Ivt n m rk ((s.setC c { s.c c with lock := p + 1 }).setP p y) K := by
  refine pres_gen h y (fun i => ?_) (fun i => ?_) (fun i => ?_) rfl (fun i hi q hq => ?_) (fun i hi => ?_) hpi hn hz h1 h2 h3
  · rw [St.setC_c]; split
    · rename_i e; subst e; rfl
    · rfl
  · rw [St.setC_c]; split
    · rename_i e; subst e; rfl
    · rfl
  · rw [St.setC_c]; split
    · rename_i e; subst e; rfl
    · rfl
  · have hq' := h.lk i hi q hq
    rw [St.setC_c]
    by_cases e : i = c
    · subst e
      rw [if_pos rfl]
      by_cases eq : q = p
      · subst eq
        rw [if_pos rfl, hh i hi]
        simp
      · rw [if_neg eq]
        rw [h0] at hq'
        rw [← hq']
        constructor
        · intro k; exact absurd (show q = p by simpa using k.symm) eq
        · intro k; omega
    · rw [if_neg e]
      by_cases eq : q = p
      · subst eq
        rw [if_pos rfl, hh i hi, hq']
        simp [e]
      · rw [if_neg eq]
        exact hq'
  · rw [St.setC_c]; split
    · show p + 1 ≤ m
      omega
    · exact h.lm i hi
/-- A process gives all its cells free. -/
theorem pres_free {s : St} {K : Nat → Prop} (h : Ivt n m rk s K) {p : Nat} (hp : p < m) (y : Pr) (hh : ∀ i, ¬ holds y i) (hpi : PI n rk s K y) (hn : y.next < n) (hz : y.next = 0 ∨ y.ph = .idle ∨ y.ph = .done ∨ y.ph = .un0 ∨ y.ph = .un1 ∨ y.ph = .un2 ∨ y.ph = .rel)
    (h1 : (s.p p).ph ≠ .un1) (h2 : (s.p p).ph ≠ .link2) (h3 : (s.p p).ph ≠ .un2) : Ivt n m rk ((s.free p).setP p y) K := by
  refine pres_gen h y (fun i => ?_) (fun i => ?_) (fun i => ?_) rfl (fun i hi q hq => ?_) (fun i hi => ?_) hpi hn hz h1 h2 h3
  · unfold St.free; dsimp only; split <;> rfl
  · unfold St.free; dsimp only; split <;> rfl
  · unfold St.free; dsimp only; split <;> rfl
  · have hq' := h.lk i hi q hq
    unfold St.free
    dsimp only
    by_cases eq : q = p
    · subst eq
      rw [if_pos rfl]
      constructor
      · intro k
        split at k
        · cases k
        · rename_i k2; exact absurd k k2
      · intro k
        exact absurd k (hh i)
    · rw [if_neg eq, ← hq']
      split
      · rename_i k
        rw [k]
        constructor
        · intro k2; cases k2
        · intro k2; omega
      · exact Iff.rfl
  · unfold St.free; dsimp only; split
    · exact Nat.zero_le _
    · exact h.lm i hi
theorem pres_find {s : St} {K : Nat → Prop} (o : Odr n rk) (h : Ivt n m rk s K) {p : Nat} (hp : p < m) (e : (s.p p).ph = .find) {s' : St} (hs : stp rk s p = some s') : Ivt n m rk s' K := by
  have hi := h.pi p hp
  have hx := h.nx p hp
  unfold PI at hi
  rw [e] at hi
  obtain ⟨a1, a2, a3, a4, a5, a6, a7, a8, a9⟩ := hi
  have hl := o.lst
  have h1 := h.rn (s.p p).succ a5
  have h2 := h.rL (s.p p).succ a5
  simp only [stp, e] at hs
  split at hs
  · rename_i k
    have hs1 : (s.p p).succ ≠ 1 := fun e1 => by
      have := hl (s.p p).cell a2 (by omega)
      rw [e1] at k
      omega
    injection hs with hs
    subst hs
    refine pres_rec h hp _ (fun i _ => ?_) ?_ hx (by have hz := h.nz p hp; simp [e] at hz ⊢; try exact hz) (by rw [e]; simp) (by rw [e]; simp) (by rw [e]; simp)
    · unfold holds; simp [e]
    · unfold PI
      simp only [e]
      exact ⟨a1, a2, a3, a5, h1, k, a8 hs1, (h2 (a8 hs1)).2, a8 hs1⟩
  · rename_i k
    split at hs
    · rename_i kf
      injection hs with hs
      subst hs
      refine pres_rec h hp _ (fun i _ => ?_) ?_ hx (by have hz := h.nz p hp; simp [e] at hz ⊢; try exact hz) (by rw [e]; simp) (by rw [e]; simp) (by rw [e]; simp)
      · unfold holds; simp [kf]
      · unfold PI
        exact ⟨a1, a2, a3, a4, a5, a6, Nat.le_of_not_lt k, a8, a9⟩
    · rename_i kf
      injection hs with hs
      subst hs
      refine pres_rec h hp _ (fun i _ => ?_) ?_ hx (by have hz := h.nz p hp; simp [e] at hz ⊢; try exact hz) (by rw [e]; simp) (by rw [e]; simp) (by rw [e]; simp)
      · unfold holds; simp [e]
      · unfold PI
        refine ⟨a1, a2, ?_, a4, a5, a6, Nat.le_of_not_lt k, a8, a9⟩
        revert a3 kf
        cases (s.p p).kind <;> simp
theorem pres_lockP {s : St} {K : Nat → Prop} (h : Ivt n m rk s K) {p : Nat} (hp : p < m) (e : (s.p p).ph = .lockP) {s' : St} (hs : stp rk s p = some s') : Ivt n m rk s' K := by
  have hi := h.pi p hp
  have hx := h.nx p hp
  unfold PI at hi
  rw [e] at hi
  obtain ⟨a1, a2, a3, a4, a5, a6, a7, a8, a9⟩ := hi
  simp only [stp, e] at hs
  split at hs
  · cases hs
  · rename_i k
    injection hs with hs
    subst hs
    refine pres_lock h hp (by omega) _ (fun i _ => ?_) ?_ hx (by have hz := h.nz p hp; simp [e] at hz ⊢; try exact hz) (by rw [e]; simp) (by rw [e]; simp) (by rw [e]; simp)
    · have hk : (s.p p).kind ≠ .fnd := by rcases a3 with a3 | a3 <;> rw [a3] <;> simp
      unfold holds; simp [e, hk]
    · exact ⟨a1, a2, a3, a4, a5, a6, a7, a8, a9⟩
theorem pres_lockS {s : St} {K : Nat → Prop} (h : Ivt n m rk s K) {p : Nat} (hp : p < m) (e : (s.p p).ph = .lockS) {s' : St} (hs : stp rk s p = some s') : Ivt n m rk s' K := by
  have hi := h.pi p hp
  have hx := h.nx p hp
  unfold PI at hi
  rw [e] at hi
  obtain ⟨a1, a2, a3, a4, a5, a6, a7, a8, a9⟩ := hi
  simp only [stp, e] at hs
  split at hs
  · cases hs
  · rename_i k
    injection hs with hs
    subst hs
    have hk : (s.p p).kind ≠ .fnd := by rcases a3 with a3 | a3 <;> rw [a3] <;> simp
    have hk2 : (s.p p).kind ≠ .none := by rcases a3 with a3 | a3 <;> rw [a3] <;> simp
    refine pres_lock h hp (by omega) _ (fun i _ => ?_) ?_ hx (by have hz := h.nz p hp; simp [e] at hz ⊢; try exact hz) (by rw [e]; simp) (by rw [e]; simp) (by rw [e]; simp)
    · unfold holds; simp [e, hk]
    · exact ⟨a1, a2, hk2, a4, a5, a6, a7, a8, a9⟩
theorem pres_retry {s : St} {K : Nat → Prop} (o : Odr n rk) (h : Ivt n m rk s K) {p : Nat} (hp : p < m) (e : (s.p p).ph = .retry) {s' : St} (hs : stp rk s p = some s') : Ivt n m rk s' K := by
  have hi := h.pi p hp
  have hx := h.nx p hp
  unfold PI at hi
  rw [e] at hi
  obtain ⟨a1, a2, a3, a4, a5⟩ := hi
  simp only [stp, e] at hs
  injection hs with hs
  subst hs
  have o2 := o.two
  have hr := h.kR 0 h.k0 (by omega)
  have h00 : (s.c 0).right ≠ 0 := fun e0 => by have := hr.2.1; rw [e0] at this; omega
  refine pres_free h hp _ (fun i => ?_) ?_ hx (by have hz := h.nz p hp; simp [e] at hz ⊢; try exact hz) (by rw [e]; simp) (by rw [e]; simp) (by rw [e]; simp)
  · unfold holds; simp
  · have hk2 : (s.p p).kind ≠ .none := by rcases a3 with a3 | a3 <;> rw [a3] <;> simp
    exact ⟨a1, a2, hk2, by show 0 < n; omega, h.rn 0 (by omega), o.fst (s.p p).cell a2 (by omega), h00, fun h1 => (h.rL 0 (by omega) h00).2 h1, h00⟩
theorem pres_rel {s : St} {K : Nat → Prop} (h : Ivt n m rk s K) {p : Nat} (hp : p < m) (e : (s.p p).ph = .rel) {s' : St} (hs : stp rk s p = some s') : Ivt n m rk s' K := by
  have hx := h.nx p hp
  simp only [stp, e] at hs
  injection hs with hs
  subst hs
  refine pres_free h hp _ (fun i => ?_) ?_ hx (by have hz := h.nz p hp; simp [e] at hz ⊢; try exact hz) (by rw [e]; simp) (by rw [e]; simp) (by rw [e]; simp)
  · unfold holds; simp
  · exact True.intro
theorem pres_lockN {s : St} {K : Nat → Prop} (o : Odr n rk) (h : Ivt n m rk s K) {p : Nat} (hp : p < m) (e : (s.p p).ph = .lockN) {s' : St} (hs : stp rk s p = some s') : Ivt n m rk s' K := by
  have hi := h.pi p hp
  unfold PI at hi
  rw [e] at hi
  obtain ⟨a1, a2, a3, a4, a5, a6, a7, a8, a9, a10⟩ := hi
  have hne : (s.p p).cell ≠ 1 := by omega
  have hr := h.kR _ a6 hne
  have h00 : (s.c (s.p p).cell).right ≠ 0 := fun e0 => by
    have := hr.2.1
    rw [e0] at this
    have := o.fst (s.p p).cell a2 (by omega)
    omega
  simp only [stp, e] at hs
  split at hs
  · cases hs
  · rename_i k
    injection hs with hs
    subst hs
    refine pres_lock h hp (by omega) _ (fun i _ => ?_) ?_ (h.rn _ a2) (by have hz := h.nz p hp; simp [e] at hz ⊢; try exact hz) (by rw [e]; simp) (by rw [e]; simp) (by rw [e]; simp)
    · unfold holds; simp [e, a3, h00, or_assoc]
    · exact ⟨a1, a2, a3, a4, a5, a6, a7, a8, a9, rfl, a10⟩
theorem hold_ph {x : Pr} {i : Nat} (hk : x.kind = .ins ∨ x.kind = .rem) (hp : x.ph = .check ∨ x.ph = .link0 ∨ x.ph = .link1 ∨ x.ph = .link2 ∨ x.ph = .lockN ∨ x.ph = .un0 ∨ x.ph = .un1 ∨ x.ph = .un2 ∨ x.ph = .rel ∨ x.ph = .retry) (hi : i = x.pred ∨ i = x.succ) : holds x i := by
  have hk2 : x.kind ≠ .fnd := by rcases hk with hk | hk <;> rw [hk] <;> simp
  unfold holds
  rcases hp with e | e | e | e | e | e | e | e | e | e <;> rw [e] <;> simp [hk2] <;> rcases hi with hi | hi <;> simp [hi]
theorem pres_check {s : St} {K : Nat → Prop} (o : Odr n rk) (h : Ivt n m rk s K) {p : Nat} (hp : p < m) (e : (s.p p).ph = .check) {s' : St} (hs : stp rk s p = some s') : Ivt n m rk s' K := by
  have hi := h.pi p hp
  have hx := h.nx p hp
  have hz0 : (s.p p).next = 0 := by have hz := h.nz p hp; simpa [e] using hz
  unfold PI at hi
  rw [e] at hi
  obtain ⟨a1, a2, a3, a4, a5, a6, a7, a8, a9⟩ := hi
  have o1 := o.lst
  have o2 := o.fst
  have hpred1 : (s.p p).pred ≠ 1 := fun e1 => by
    have := o1 (s.p p).cell a2 (by omega)
    rw [e1] at a6
    omega
  have hsucc0 : (s.p p).succ ≠ 0 := fun e1 => by
    have := o2 (s.p p).cell a2 (by omega)
    rw [e1] at a7
    omega
  have kk : ∀ i, i < n → (s.c i).gone = false → K i := fun i hin hg => by
    by_cases i0 : i = 0
    · rw [i0]; exact h.k0
    · by_cases i1 : i = 1
      · rw [i1]; exact h.k1
      · exact h.gK i (by omega) hin hg
  simp only [stp, e] at hs
  split at hs
  · rename_i kf
    injection hs with hs
    subst hs
    refine pres_rec h hp _ (fun i _ => ?_) True.intro hx (by simp) (by rw [e]; simp) (by rw [e]; simp) (by rw [e]; simp)
    unfold holds; simp [kf]
  · rename_i kf
    have hk : (s.p p).kind = .ins ∨ (s.p p).kind = .rem := by
      revert a3 kf
      cases (s.p p).kind <;> simp
    split at hs
    · injection hs with hs
      subst hs
      refine pres_rec h hp _ (fun i _ => ?_) ⟨a1, a2, hk, a4, a5⟩ hx (.inl hz0) (by rw [e]; simp) (by rw [e]; simp) (by rw [e]; simp)
      unfold holds; simp [e]
    · rename_i kc
      have g1 : (s.c (s.p p).pred).gone = false := by
        cases hg : (s.c (s.p p).pred).gone
        · rfl
        · exact absurd (.inl hg) kc
      have g2 : (s.c (s.p p).succ).gone = false := by
        cases hg : (s.c (s.p p).succ).gone
        · rfl
        · exact absurd (.inr (.inl hg)) kc
      have g3 : (s.c (s.p p).pred).right = (s.p p).succ := Decidable.byContradiction fun k => kc (.inr (.inr k))
      split at hs
      · rename_i ki
        injection hs with hs
        subst hs
        have hlt : rk (s.p p).cell < rk (s.p p).succ := by
          rcases Nat.lt_or_ge (rk (s.p p).cell) (rk (s.p p).succ) with k | k
          · exact k
          · exact absurd (o.inj _ _ a5 a2 (by omega)) ki.2
        refine pres_rec h hp _ (fun i _ => ?_) ⟨a1, a2, ki.1, kk _ a4 g1, kk _ a5 g2, g3, g1, a6, hlt⟩ hx (.inl hz0) (by rw [e]; simp) (by rw [e]; simp) (by rw [e]; simp)
        unfold holds; simp [e]
      · split at hs
        · rename_i ki
          injection hs with hs
          subst hs
          refine pres_rec h hp _ (fun i _ => ?_) ⟨a1, a2, ki.1, ki.2, kk _ a4 g1, kk _ a2 (by rw [← ki.2]; exact g2), by rw [← ki.2]; exact g3, g1, by rw [← ki.2]; exact g2, a6⟩ hx (.inl hz0) (by rw [e]; simp) (by rw [e]; simp) (by rw [e]; simp)
          unfold holds; simp [e]
        · injection hs with hs
          subst hs
          refine pres_rec h hp _ (fun i _ => ?_) ⟨a1, a2, hk, a4, a5, hx⟩ hx (.inl hz0) (by rw [e]; simp) (by rw [e]; simp) (by rw [e]; simp)
          unfold holds; simp [e, hz0]
theorem Ivt.rinj {s : St} {K : Nat → Prop} (o : Odr n rk) (h : Ivt n m rk s K) {i j : Nat} (hi : K i) (hj : K j) (h1 : i ≠ 1) (h2 : j ≠ 1) (e : (s.c i).right = (s.c j).right) : i = j := by
  obtain ⟨a1, a2, a3⟩ := h.kR i hi h1
  obtain ⟨b1, b2, b3⟩ := h.kR j hj h2
  rcases Nat.lt_trichotomy (rk i) (rk j) with k | k | k
  · have := a3 j hj k
    rw [e] at this
    omega
  · exact o.inj i j (h.kn i hi) (h.kn j hj) k
  · have := b3 i hi k
    rw [← e] at this
    omega
theorem Ivt.mid {s : St} {K : Nat → Prop} (h : Ivt n m rk s K) {i x : Nat} (hi : K i) (h1 : i ≠ 1) (a : rk i < rk x) (b : rk x < rk (s.c i).right) : ¬ K x := fun k => by
  have := (h.kR i hi h1).2.2 x k a
  omega
theorem Ivt.pos {s : St} {K : Nat → Prop} (o : Odr n rk) (h : Ivt n m rk s K) {i j x : Nat} (hi : K i) (hj : K j) (h1 : i ≠ 1) (h2 : j ≠ 1) (a : rk i < rk x) (b : rk x < rk (s.c i).right) (c : rk j < rk x) (d : rk x < rk (s.c j).right) : i = j := by
  rcases Nat.lt_trichotomy (rk i) (rk j) with k | k | k
  · have := (h.kR i hi h1).2.2 j hj k
    omega
  · exact o.inj i j (h.kn i hi) (h.kn j hj) k
  · have := (h.kR j hj h2).2.2 i hi k
    omega
theorem Ivt.clash {s : St} {K : Nat → Prop} (h : Ivt n m rk s K) {p q : Nat} (hp : p < m) (hq : q < m) (hne : q ≠ p) : ∀ i, i < n → holds (s.p p) i → holds (s.p q) i → False := fun _ hi a b => hne (h.hold_uniq hi hq hp b a)
theorem Odr.ne1 (o : Odr n rk) {i x : Nat} (hx : x < n) (h : rk i < rk x) : i ≠ 1 := fun e => by
  subst e
  by_cases k : x = 1
  · subst k; omega
  · have := o.lst x hx k
    omega
theorem Odr.ne0 (o : Odr n rk) {i x : Nat} (hx : x < n) (h : rk x < rk i) : i ≠ 0 := fun e => by
  subst e
  by_cases k : x = 0
  · subst k; omega
  · have := o.fst x hx k
    omega
theorem pres_link0 {s : St} {K : Nat → Prop} (o : Odr n rk) (h : Ivt n m rk s K) {p : Nat} (hp : p < m) (e : (s.p p).ph = .link0) {s' : St} (hs : stp rk s p = some s') : Ivt n m rk s' K := by
  have hi := h.pi p hp
  have hx := h.nx p hp
  have hz0 : (s.p p).next = 0 := by have hz := h.nz p hp; simpa [e] using hz
  unfold PI at hi
  rw [e] at hi
  obtain ⟨a1, a2, a3, a4, a5, a6, a7, a8, a9⟩ := hi
  dsimp only at a6
  have hp1 : (s.p p).pred ≠ 1 := o.ne1 a2 a8
  have hs0 : (s.p p).succ ≠ 0 := o.ne0 a2 a9
  have hxK : ¬ K (s.p p).cell := h.mid a4 hp1 a8 (by rw [a6]; exact a9)
  have hsn := h.kn _ a5
  have hpn := h.kn _ a4
  simp only [stp, e] at hs
  injection hs with hs
  subst hs
  have hr : ∀ i, ((s.setC (s.p p).cell { s.c (s.p p).cell with left := (s.p p).pred, right := (s.p p).succ }).c i).right = if i = (s.p p).cell then (s.p p).succ else (s.c i).right := fun i => by rw [St.setC_c]; split <;> rfl
  have hl : ∀ i, ((s.setC (s.p p).cell { s.c (s.p p).cell with left := (s.p p).pred, right := (s.p p).succ }).c i).left = if i = (s.p p).cell then (s.p p).pred else (s.c i).left := fun i => by rw [St.setC_c]; split <;> rfl
  have hg : ∀ i, ((s.setC (s.p p).cell { s.c (s.p p).cell with left := (s.p p).pred, right := (s.p p).succ }).c i).gone = (s.c i).gone := fun i => by rw [St.setC_c]; split <;> simp_all
  have hk : ∀ i, ((s.setC (s.p p).cell { s.c (s.p p).cell with left := (s.p p).pred, right := (s.p p).succ }).c i).lock = (s.c i).lock := fun i => by rw [St.setC_c]; split <;> simp_all
  have ht : (s.setC (s.p p).cell { s.c (s.p p).cell with left := (s.p p).pred, right := (s.p p).succ }).p = s.p := rfl
  generalize (s.setC (s.p p).cell { s.c (s.p p).cell with left := (s.p p).pred, right := (s.p p).succ }) = t at *
  have hnK : ∀ i, K i → i ≠ (s.p p).cell := fun i hi e => hxK (e ▸ hi)
  have hsR : (s.p p).succ ≠ 1 → (s.c (s.p p).succ).right ≠ 0 := fun k => o.ne0 hsn (h.kR _ a5 k).2.1
  refine ⟨h.k0, h.k1, h.kn, fun i hi h0 => ?_, ?_, ?_, fun i i2 hi hgi => ?_, fun i hi hgi => ?_, fun i hi q hq => ?_, fun i hi => ?_, fun i hi => ?_, fun i hi => ?_, fun i hi h0 => ?_, fun q hq => ?_, fun q hq => ?_, fun q hq => ?_⟩
  · rw [St.setP_c, hr, if_neg (hnK i hi)]; exact h.kR i hi h0
  · rw [St.setP_c, hg]; exact h.g0
  · rw [St.setP_c, hg]; exact h.g1
  · rw [St.setP_c, hg] at hgi; exact h.gK i i2 hi hgi
  · rw [St.setP_c, hg] at hgi
    obtain ⟨q, hq, e1, e2⟩ := h.gU i hi hgi
    have : q ≠ p := fun e3 => by rw [e3, e] at e1; cases e1
    exact ⟨q, hq, by rw [St.setP_p, if_neg this, ht]; exact ⟨e1, e2⟩⟩
  · rw [St.setP_p, ht, St.setP_c, hk]
    have := h.lk i hi q hq
    split
    · rename_i e3
      rw [this, e3]
      unfold holds
      simp [e]
    · exact this
  · rw [St.setP_c, hk]; exact h.lm i hi
  · rw [St.setP_c, hr]; split
    · exact hsn
    · exact h.rn i hi
  · have h3 := h.rL i hi
    rw [St.setP_c, hr, hr]
    grind
  · have h3 := h.kR i hi h0
    rw [St.setP_c, hl, hr, if_neg (hnK i hi), if_neg (hnK _ h3.1)]
    rcases h.lf i hi h0 with e3 | ⟨q, hq, e3⟩
    · exact .inl e3
    · refine .inr ⟨q, hq, ?_⟩
      have : q ≠ p := fun e2 => by
        subst e2
        rw [e] at e3
        rcases e3 with e3 | e3
        · cases e3.1
        · cases e3.1
      rw [St.setP_p, if_neg this, ht]
      exact e3
  · by_cases eq : q = p
    · subst eq
      rw [St.setP_p, if_pos rfl]
      unfold PI
      dsimp only
      rw [St.setP_c]
      simp only [hr, hl, hg]
      have := hnK _ a4
      simp [*]
    · rw [St.setP_p, if_neg eq, ht]
      have hcl := h.clash hp hq eq
      have hq2 := h.pi q hq
      have hpos := fun (j : Nat) (hj : K j) (h2 : j ≠ 1) => h.pos o (i := (s.p p).pred) (x := (s.p p).cell) a4 hj hp1 h2 a8 (by rw [a6]; exact a9)
      have hn1 : ∀ i x, x < n → rk i < rk x → i ≠ 1 := fun i x h1 h2 => o.ne1 h1 h2
      have hpp : holds (s.p p) (s.p p).pred := hold_ph (.inl a3) (by simp [e]) (.inl rfl)
      have hqq := fun hk hp => hold_ph (x := s.p q) (i := (s.p q).pred) hk hp (.inl rfl)
      unfold PI at hq2 ⊢
      rw [St.setP_c]
      simp only [hr, hl, hg]
      cases eph : (s.p q).ph <;> rw [eph] at hq2 <;> dsimp only at hq2 ⊢ <;> grind
  · rw [St.setP_p, ht]
    split
    · exact hx
    · exact h.nx q hq
  · rw [St.setP_p, ht]
    split
    · exact .inl hz0
    · exact h.nz q hq
set_option maxHeartbeats 4000000 in
theorem pres_link1 {s : St} {K : Nat → Prop} (o : Odr n rk) (h : Ivt n m rk s K) {p : Nat} (hp : p < m) (e : (s.p p).ph = .link1) {s' : St} (hs : stp rk s p = some s') : Ivt n m rk s' (fun i => K i ∨ i = (s.p p).cell) := by
  have hi := h.pi p hp
  have hx := h.nx p hp
  have hz0 : (s.p p).next = 0 := by have hz := h.nz p hp; simpa [e] using hz
  unfold PI at hi
  rw [e] at hi
  obtain ⟨a1, a2, a3, a4, a5, a6, a7, a8, a9, a10, a11⟩ := hi
  dsimp only at a6 a10
  have hp1 : (s.p p).pred ≠ 1 := o.ne1 a2 a8
  have hs0 : (s.p p).succ ≠ 0 := o.ne0 a2 a9
  have hxK : ¬ K (s.p p).cell := h.mid a4 hp1 a8 (by rw [a6]; exact a9)
  have hsn := h.kn _ a5
  have hpn := h.kn _ a4
  have hnK : ∀ i, K i → i ≠ (s.p p).cell := fun i hi e => hxK (e ▸ hi)
  have hpc := hnK _ a4
  simp only [stp, e] at hs
  injection hs with hs
  subst hs
  generalize ht' : (((s.setC (s.p p).pred { s.c (s.p p).pred with right := (s.p p).cell }).setC (s.p p).cell { ((s.setC (s.p p).pred { s.c (s.p p).pred with right := (s.p p).cell }).c (s.p p).cell) with gone := false })) = t
  have hr : ∀ i, (t.c i).right = if i = (s.p p).pred then (s.p p).cell else (s.c i).right := fun i => by
    rw [← ht', St.setC_c, St.setC_c, St.setC_c]
    by_cases e1 : i = (s.p p).cell
    · subst e1; rw [if_pos rfl, if_neg (Ne.symm hpc), if_neg (Ne.symm hpc)]
    · rw [if_neg e1]; split <;> rfl
  have hl : ∀ i, (t.c i).left = (s.c i).left := fun i => by
    rw [← ht', St.setC_c, St.setC_c, St.setC_c]
    by_cases e1 : i = (s.p p).cell
    · subst e1; rw [if_pos rfl, if_neg (Ne.symm hpc)]
    · rw [if_neg e1]; split <;> simp_all
  have hg : ∀ i, (t.c i).gone = if i = (s.p p).cell then false else (s.c i).gone := fun i => by
    rw [← ht', St.setC_c, St.setC_c, St.setC_c]
    by_cases e1 : i = (s.p p).cell
    · subst e1; rw [if_pos rfl, if_pos rfl]
    · rw [if_neg e1, if_neg e1]; split <;> simp_all
  have hk : ∀ i, (t.c i).lock = (s.c i).lock := fun i => by
    rw [← ht', St.setC_c, St.setC_c, St.setC_c]
    by_cases e1 : i = (s.p p).cell
    · subst e1; rw [if_pos rfl, if_neg (Ne.symm hpc)]
    · rw [if_neg e1]; split <;> simp_all
  have ht : t.p = s.p := by rw [← ht']; rfl
  clear ht'
  refine ⟨.inl h.k0, .inl h.k1, fun i hi => ?_, fun i hi h0 => ?_, ?_, ?_, fun i i2 hi hgi => ?_, fun i hi hgi => ?_, fun i hi q hq => ?_, fun i hi => ?_, fun i hi => ?_, fun i hi => ?_, fun i hi h0 => ?_, fun q hq => ?_, fun q hq => ?_, fun q hq => ?_⟩
  · rcases hi with hi | hi
    · exact h.kn i hi
    · rw [hi]; exact a2
  · rw [St.setP_c, hr]
    have hkR := h.kR
    have hin := o.inj
    have hkn := h.kn
    have hsp := (h.kR _ a4 hp1).2.2
    rw [a6] at hsp
    have hdd : ∀ i, K i → i ≠ (s.p p).pred → rk i < rk (s.p p).cell → rk i < rk (s.p p).pred := fun i hi hne hlt => by
      rcases Nat.lt_trichotomy (rk i) (rk (s.p p).pred) with k | k | k
      · exact k
      · exact absurd (o.inj _ _ (h.kn i hi) hpn k) hne
      · have := hsp i hi k; omega
    by_cases ei : i = (s.p p).pred
    · subst ei
      rw [if_pos rfl]
      refine ⟨.inr rfl, a8, fun d hd hlt => ?_⟩
      rcases hd with hd | hd
      · have := hsp d hd hlt; omega
      · rw [hd]; exact Nat.le_refl _
    · rw [if_neg ei]
      rcases hi with hi | hi
      · obtain ⟨b1, b2, b3⟩ := h.kR i hi h0
        refine ⟨.inl b1, b2, fun d hd hlt => ?_⟩
        rcases hd with hd | hd
        · exact b3 d hd hlt
        · rw [hd] at hlt ⊢
          have := b3 _ a4 (hdd i hi ei hlt)
          omega
      · subst hi
        rw [a10]
        refine ⟨.inl a5, a9, fun d hd hlt => ?_⟩
        rcases hd with hd | hd
        · exact hsp d hd (by omega)
        · rw [hd] at hlt; omega
  · rw [St.setP_c, hg, if_neg (by omega)]; exact h.g0
  · rw [St.setP_c, hg, if_neg (by omega)]; exact h.g1
  · rw [St.setP_c, hg] at hgi
    by_cases ei : i = (s.p p).cell
    · exact .inr ei
    · rw [if_neg ei] at hgi
      exact .inl (h.gK i i2 hi hgi)
  · rw [St.setP_c, hg] at hgi
    by_cases ei : i = (s.p p).cell
    · rw [if_pos ei] at hgi; cases hgi
    · rw [if_neg ei] at hgi
      obtain ⟨q, hq, e1, e2⟩ := h.gU i (hi.resolve_right ei) hgi
      have : q ≠ p := fun e3 => by rw [e3, e] at e1; cases e1
      exact ⟨q, hq, by rw [St.setP_p, if_neg this, ht]; exact ⟨e1, e2⟩⟩
  · rw [St.setP_p, ht, St.setP_c, hk]
    have := h.lk i hi q hq
    split
    · rename_i e3
      rw [this, e3]
      unfold holds
      simp [e]
    · exact this
  · rw [St.setP_c, hk]; exact h.lm i hi
  · rw [St.setP_c, hr]; split
    · exact a2
    · exact h.rn i hi
  · have h3 := h.rL i hi
    rw [St.setP_c, hr, hr]
    grind
  · rw [St.setP_c, hl, hr]
    by_cases ei : i = (s.p p).pred
    · rw [if_pos ei, ei]
      exact .inl a11
    · rw [if_neg ei]
      rcases hi with hi | hi
      · rcases h.lf i hi h0 with e3 | ⟨q, hq, e3⟩
        · exact .inl e3
        · refine .inr ⟨q, hq, ?_⟩
          have : q ≠ p := fun e2 => by
            subst e2
            rw [e] at e3
            rcases e3 with e3 | e3
            · cases e3.1
            · cases e3.1
          rw [St.setP_p, if_neg this, ht]
          exact e3
      · refine .inr ⟨p, hp, .inl ?_⟩
        rw [St.setP_p, if_pos rfl, hi, a10]
        exact ⟨rfl, rfl, rfl⟩
  · by_cases eq : q = p
    · subst eq
      rw [St.setP_p, if_pos rfl]
      unfold PI
      dsimp only
      rw [St.setP_c]
      simp only [hr, hl, hg]
      refine ⟨a1, a2, a3, .inl a4, .inr trivial, ?_, ?_, a8, a9⟩
      · simp
      · rw [if_neg (Ne.symm hpc)]; exact a10
    · rw [St.setP_p, if_neg eq, ht]
      have hcl := h.clash hp hq eq
      have hq2 := h.pi q hq
      have hpos := fun (j : Nat) (hj : K j) (h2 : j ≠ 1) => h.pos o (i := (s.p p).pred) (x := (s.p p).cell) a4 hj hp1 h2 a8 (by rw [a6]; exact a9)
      have hmid := fun (j x : Nat) (hj : K j) (h2 : j ≠ 1) => h.mid (i := j) (x := x) hj h2
      have hn1 : ∀ i x, x < n → rk i < rk x → i ≠ 1 := fun i x h1 h2 => o.ne1 h1 h2
      have hpp : holds (s.p p) (s.p p).pred := hold_ph (.inl a3) (by simp [e]) (.inl rfl)
      have hps : holds (s.p p) (s.p p).succ := hold_ph (.inl a3) (by simp [e]) (.inr rfl)
      have hqq := fun hk hp => hold_ph (x := s.p q) (i := (s.p q).pred) hk hp (.inl rfl)
      have hqs := fun hk hp => hold_ph (x := s.p q) (i := (s.p q).succ) hk hp (.inr rfl)
      unfold PI at hq2 ⊢
      rw [St.setP_c]
      simp only [hr, hl, hg]
      cases eph : (s.p q).ph <;> rw [eph] at hq2 <;> dsimp only at hq2 ⊢ <;> grind
  · rw [St.setP_p, ht]
    split
    · exact hx
    · exact h.nx q hq
  · rw [St.setP_p, ht]
    split
    · exact .inl hz0
    · exact h.nz q hq
set_option maxHeartbeats 4000000 in
theorem pres_link2 {s : St} {K : Nat → Prop} (o : Odr n rk) (h : Ivt n m rk s K) {p : Nat} (hp : p < m) (e : (s.p p).ph = .link2) {s' : St} (hs : stp rk s p = some s') : Ivt n m rk s' K := by
  have hi := h.pi p hp
  have hx := h.nx p hp
  unfold PI at hi
  rw [e] at hi
  obtain ⟨a1, a2, a3, a4, a5, a6, a7, a8, a9⟩ := hi
  try dsimp only at *
  have hz0 : (s.p p).next = 0 := by have hz := h.nz p hp; simpa [e] using hz
  have hp1 : (s.p p).pred ≠ 1 := o.ne1 a2 a8
  have hc1 : (s.p p).cell ≠ 1 := by omega
  have hsn : (s.p p).succ < n := by rw [← a7]; exact h.rn _ a2
  have hsK : K (s.p p).succ := by rw [← a7]; exact (h.kR _ a5 hc1).1
  simp only [stp, e] at hs
  injection hs with hs
  subst hs
  generalize ht' : (s.setC (s.p p).succ { s.c (s.p p).succ with left := (s.p p).cell }) = t
  have hr : ∀ i, (t.c i).right = (s.c i).right := fun i => by rw [← ht', St.setC_c]; split <;> simp_all
  have hl : ∀ i, (t.c i).left = if i = (s.p p).succ then (s.p p).cell else (s.c i).left := fun i => by rw [← ht', St.setC_c]; split <;> rfl
  have hg : ∀ i, (t.c i).gone = (s.c i).gone := fun i => by rw [← ht', St.setC_c]; split <;> simp_all
  have hk : ∀ i, (t.c i).lock = (s.c i).lock := fun i => by rw [← ht', St.setC_c]; split <;> simp_all
  have ht : t.p = s.p := by rw [← ht']; rfl
  clear ht'
  refine ⟨h.k0, h.k1, h.kn, fun i hi h0 => ?_, ?_, ?_, fun i i2 hi hgi => ?_, fun i hi hgi => ?_, fun i hi q hq => ?_, fun i hi => ?_, fun i hi => ?_, fun i hi => ?_, fun i hi h0 => ?_, fun q hq => ?_, fun q hq => ?_, fun q hq => ?_⟩
  · rw [St.setP_c, hr]; exact h.kR i hi h0
  · rw [St.setP_c, hg]; exact h.g0
  · rw [St.setP_c, hg]; exact h.g1
  · rw [St.setP_c, hg] at hgi; exact h.gK i i2 hi hgi
  · rw [St.setP_c, hg] at hgi
    obtain ⟨q, hq, e1, e2⟩ := h.gU i hi hgi
    have : q ≠ p := fun e3 => by rw [e3, e] at e1; cases e1
    exact ⟨q, hq, by rw [St.setP_p, if_neg this, ht]; exact ⟨e1, e2⟩⟩
  · rw [St.setP_p, ht, St.setP_c, hk]
    have := h.lk i hi q hq
    split
    · rename_i e3
      rw [this, e3]
      unfold holds
      simp [e, a3, hz0]
    · exact this
  · rw [St.setP_c, hk]; exact h.lm i hi
  · rw [St.setP_c, hr]; exact h.rn i hi
  · rw [St.setP_c, hr, hr]; exact h.rL i hi
  · rw [St.setP_c, hl, hr]
    by_cases ei : i = (s.p p).cell
    · rw [ei, if_pos a7]; exact .inl rfl
    · rw [if_neg (fun e4 => ei (h.rinj o hi a5 h0 hc1 (e4.trans a7.symm)))]
      rcases h.lf i hi h0 with e3 | ⟨q, hq, e3⟩
      · exact .inl e3
      · refine .inr ⟨q, hq, ?_⟩
        have : q ≠ p := fun e2 => by
          subst e2
          rw [e] at e3
          rcases e3 with e3 | e3
          · exact ei e3.2.1.symm
          · cases e3.1
        rw [St.setP_p, if_neg this, ht]
        exact e3
  · by_cases eq : q = p
    · subst eq
      rw [St.setP_p, if_pos rfl]
      exact ⟨a1, a2, .inl a3, h.kn _ a4, hsn, hx⟩
    · rw [St.setP_p, if_neg eq, ht]
      have hcl := h.clash hp hq eq
      have hq2 := h.pi q hq
      have hkn := h.kn
      have hmid := fun (j x : Nat) (hj : K j) (h2 : j ≠ 1) => h.mid (i := j) (x := x) hj h2
      have hrj := fun (i j : Nat) (hi : K i) (hj : K j) (h1 : i ≠ 1) (h2 : j ≠ 1) => h.rinj o hi hj h1 h2
      have hn1 : ∀ i x, x < n → rk i < rk x → i ≠ 1 := fun i x h1 h2 => o.ne1 h1 h2
      have hkR1 := fun (j : Nat) (hj : K j) (h2 : j ≠ 1) => (h.kR j hj h2).1
      have hkR2 := fun (j : Nat) (hj : K j) (h2 : j ≠ 1) => (h.kR j hj h2).2.1
      have hpp : holds (s.p p) (s.p p).pred := hold_ph (.inl a3) (by simp [e]) (.inl rfl)
      have hps : holds (s.p p) (s.p p).succ := hold_ph (.inl a3) (by simp [e]) (.inr rfl)
      have hqq := fun hk hp => hold_ph (x := s.p q) (i := (s.p q).pred) hk hp (.inl rfl)
      have hqs := fun hk hp => hold_ph (x := s.p q) (i := (s.p q).succ) hk hp (.inr rfl)
      unfold PI at hq2 ⊢
      rw [St.setP_c]
      simp only [hr, hl, hg]
      cases eph : (s.p q).ph <;> rw [eph] at hq2 <;> dsimp only at hq2 ⊢ <;> grind
  · rw [St.setP_p, ht]
    split
    · exact hx
    · exact h.nx q hq
  · rw [St.setP_p, ht]
    split
    · exact .inl hz0
    · exact h.nz q hq
set_option maxHeartbeats 4000000 in
theorem pres_un0 {s : St} {K : Nat → Prop} (o : Odr n rk) (h : Ivt n m rk s K) {p : Nat} (hp : p < m) (e : (s.p p).ph = .un0) {s' : St} (hs : stp rk s p = some s') : Ivt n m rk s' K := by
  have hi := h.pi p hp
  have hx := h.nx p hp
  unfold PI at hi
  rw [e] at hi
  obtain ⟨a1, a2, a3, a4, a5, a6, a7, a8, a9, a10, a11⟩ := hi
  try dsimp only at *
  have hc1 : (s.p p).cell ≠ 1 := by omega
  simp only [stp, e] at hs
  injection hs with hs
  subst hs
  generalize ht' : (s.setC (s.p p).cell { s.c (s.p p).cell with gone := true }) = t
  have hr : ∀ i, (t.c i).right = (s.c i).right := fun i => by rw [← ht', St.setC_c]; split <;> simp_all
  have hl : ∀ i, (t.c i).left = (s.c i).left := fun i => by rw [← ht', St.setC_c]; split <;> simp_all
  have hg : ∀ i, (t.c i).gone = if i = (s.p p).cell then true else (s.c i).gone := fun i => by rw [← ht', St.setC_c]; split <;> rfl
  have hk : ∀ i, (t.c i).lock = (s.c i).lock := fun i => by rw [← ht', St.setC_c]; split <;> simp_all
  have ht : t.p = s.p := by rw [← ht']; rfl
  clear ht'
  refine ⟨h.k0, h.k1, h.kn, fun i hi h0 => ?_, ?_, ?_, fun i i2 hi hgi => ?_, fun i hi hgi => ?_, fun i hi q hq => ?_, fun i hi => ?_, fun i hi => ?_, fun i hi => ?_, fun i hi h0 => ?_, fun q hq => ?_, fun q hq => ?_, fun q hq => ?_⟩
  · rw [St.setP_c, hr]; exact h.kR i hi h0
  · rw [St.setP_c, hg, if_neg (by omega)]; exact h.g0
  · rw [St.setP_c, hg, if_neg (by omega)]; exact h.g1
  · rw [St.setP_c, hg] at hgi
    by_cases ei : i = (s.p p).cell
    · rw [ei]; exact a6
    · rw [if_neg ei] at hgi; exact h.gK i i2 hi hgi
  · rw [St.setP_c, hg] at hgi
    by_cases ei : i = (s.p p).cell
    · exact ⟨p, hp, by rw [St.setP_p, if_pos rfl]; exact ⟨rfl, ei.symm⟩⟩
    rw [if_neg ei] at hgi
    obtain ⟨q, hq, e1, e2⟩ := h.gU i hi hgi
    have : q ≠ p := fun e3 => by rw [e3, e] at e1; cases e1
    exact ⟨q, hq, by rw [St.setP_p, if_neg this, ht]; exact ⟨e1, e2⟩⟩
  · rw [St.setP_p, ht, St.setP_c, hk]
    have := h.lk i hi q hq
    split
    · rename_i e3
      rw [this, e3]
      unfold holds
      simp [e]
    · exact this
  · rw [St.setP_c, hk]; exact h.lm i hi
  · rw [St.setP_c, hr]; exact h.rn i hi
  · rw [St.setP_c, hr, hr]; exact h.rL i hi
  · rw [St.setP_c, hl, hr]
    rcases h.lf i hi h0 with e3 | ⟨q, hq, e3⟩
    · exact .inl e3
    · refine .inr ⟨q, hq, ?_⟩
      have : q ≠ p := fun e2 => by
        subst e2
        rw [e] at e3
        rcases e3 with e3 | e3
        · cases e3.1
        · cases e3.1
      rw [St.setP_p, if_neg this, ht]
      exact e3
  · by_cases eq : q = p
    · subst eq
      rw [St.setP_p, if_pos rfl]
      have hne : (s.p q).pred ≠ (s.p q).cell := fun e4 => by
        have := (h.kR _ a5 (by rw [e4]; exact hc1)).2.1
        rw [a7, e4] at this
        omega
      unfold PI
      dsimp only
      rw [St.setP_c]
      simp only [hr, hl, hg]
      refine ⟨a1, a2, a3, a4, a5, a6, a7, ?_, ?_, a10, a11⟩
      · rw [if_neg hne]; exact a8
      · simp
    · rw [St.setP_p, if_neg eq, ht]
      have hcl := h.clash hp hq eq
      have hq2 := h.pi q hq
      have hkn := h.kn
      have hmid := fun (j x : Nat) (hj : K j) (h2 : j ≠ 1) => h.mid (i := j) (x := x) hj h2
      have hrj := fun (i j : Nat) (hi : K i) (hj : K j) (h1 : i ≠ 1) (h2 : j ≠ 1) => h.rinj o hi hj h1 h2
      have hn1 : ∀ i x, x < n → rk i < rk x → i ≠ 1 := fun i x h1 h2 => o.ne1 h1 h2
      have hkR1 := fun (j : Nat) (hj : K j) (h2 : j ≠ 1) => (h.kR j hj h2).1
      have hkR2 := fun (j : Nat) (hj : K j) (h2 : j ≠ 1) => (h.kR j hj h2).2.1
      have hpp : holds (s.p p) (s.p p).pred := hold_ph (.inr a3) (by simp [e]) (.inl rfl)
      have hps : holds (s.p p) (s.p p).succ := hold_ph (.inr a3) (by simp [e]) (.inr rfl)
      have hqq := fun hk hp => hold_ph (x := s.p q) (i := (s.p q).pred) hk hp (.inl rfl)
      have hqs := fun hk hp => hold_ph (x := s.p q) (i := (s.p q).succ) hk hp (.inr rfl)
      unfold PI at hq2 ⊢
      rw [St.setP_c]
      simp only [hr, hl, hg]
      cases eph : (s.p q).ph <;> rw [eph] at hq2 <;> dsimp only at hq2 ⊢ <;> grind
  · rw [St.setP_p, ht]
    split
    · exact hx
    · exact h.nx q hq
  · rw [St.setP_p, ht]
    split
    · simp
    · exact h.nz q hq
set_option maxHeartbeats 4000000 in
theorem pres_un2 {s : St} {K : Nat → Prop} (o : Odr n rk) (h : Ivt n m rk s K) {p : Nat} (hp : p < m) (e : (s.p p).ph = .un2) {s' : St} (hs : stp rk s p = some s') : Ivt n m rk s' K := by
  have hi := h.pi p hp
  have hx := h.nx p hp
  unfold PI at hi
  rw [e] at hi
  obtain ⟨a1, a2, a3, a4, a5, a6, a7, a8⟩ := hi
  try dsimp only at *
  have hp1 : (s.p p).pred ≠ 1 := o.ne1 a2 a8
  simp only [stp, e] at hs
  injection hs with hs
  subst hs
  generalize ht' : (s.setC (s.p p).next { s.c (s.p p).next with left := (s.p p).pred }) = t
  have hr : ∀ i, (t.c i).right = (s.c i).right := fun i => by rw [← ht', St.setC_c]; split <;> simp_all
  have hl : ∀ i, (t.c i).left = if i = (s.p p).next then (s.p p).pred else (s.c i).left := fun i => by rw [← ht', St.setC_c]; split <;> rfl
  have hg : ∀ i, (t.c i).gone = (s.c i).gone := fun i => by rw [← ht', St.setC_c]; split <;> simp_all
  have hk : ∀ i, (t.c i).lock = (s.c i).lock := fun i => by rw [← ht', St.setC_c]; split <;> simp_all
  have ht : t.p = s.p := by rw [← ht']; rfl
  clear ht'
  refine ⟨h.k0, h.k1, h.kn, fun i hi h0 => ?_, ?_, ?_, fun i i2 hi hgi => ?_, fun i hi hgi => ?_, fun i hi q hq => ?_, fun i hi => ?_, fun i hi => ?_, fun i hi => ?_, fun i hi h0 => ?_, fun q hq => ?_, fun q hq => ?_, fun q hq => ?_⟩
  · rw [St.setP_c, hr]; exact h.kR i hi h0
  · rw [St.setP_c, hg]; exact h.g0
  · rw [St.setP_c, hg]; exact h.g1
  · rw [St.setP_c, hg] at hgi; exact h.gK i i2 hi hgi
  · rw [St.setP_c, hg] at hgi
    obtain ⟨q, hq, e1, e2⟩ := h.gU i hi hgi
    have : q ≠ p := fun e3 => by rw [e3, e] at e1; cases e1
    exact ⟨q, hq, by rw [St.setP_p, if_neg this, ht]; exact ⟨e1, e2⟩⟩
  · rw [St.setP_p, ht, St.setP_c, hk]
    have := h.lk i hi q hq
    split
    · rename_i e3
      rw [this, e3]
      unfold holds
      simp [e]
    · exact this
  · rw [St.setP_c, hk]; exact h.lm i hi
  · rw [St.setP_c, hr]; exact h.rn i hi
  · rw [St.setP_c, hr, hr]; exact h.rL i hi
  · rw [St.setP_c, hl, hr]
    by_cases ei : i = (s.p p).pred
    · rw [ei, if_pos a6]; exact .inl rfl
    · rw [if_neg (fun e4 => ei (h.rinj o hi a5 h0 hp1 (e4.trans a6.symm)))]
      rcases h.lf i hi h0 with e3 | ⟨q, hq, e3⟩
      · exact .inl e3
      · refine .inr ⟨q, hq, ?_⟩
        have : q ≠ p := fun e2 => by
          subst e2
          rw [e] at e3
          rcases e3 with e3 | e3
          · cases e3.1
          · exact ei e3.2.1.symm
        rw [St.setP_p, if_neg this, ht]
        exact e3
  · by_cases eq : q = p
    · subst eq
      rw [St.setP_p, if_pos rfl]
      exact ⟨a1, a2, .inr a3, h.kn _ a5, by rw [a4]; exact a2, hx⟩
    · rw [St.setP_p, if_neg eq, ht]
      have hcl := h.clash hp hq eq
      have hq2 := h.pi q hq
      have hkn := h.kn
      have hmid := fun (j x : Nat) (hj : K j) (h2 : j ≠ 1) => h.mid (i := j) (x := x) hj h2
      have hrj := fun (i j : Nat) (hi : K i) (hj : K j) (h1 : i ≠ 1) (h2 : j ≠ 1) => h.rinj o hi hj h1 h2
      have hn1 : ∀ i x, x < n → rk i < rk x → i ≠ 1 := fun i x h1 h2 => o.ne1 h1 h2
      have hkR1 := fun (j : Nat) (hj : K j) (h2 : j ≠ 1) => (h.kR j hj h2).1
      have hkR2 := fun (j : Nat) (hj : K j) (h2 : j ≠ 1) => (h.kR j hj h2).2.1
      have hpp : holds (s.p p) (s.p p).pred := hold_ph (.inr a3) (by simp [e]) (.inl rfl)
      have hps : holds (s.p p) (s.p p).succ := hold_ph (.inr a3) (by simp [e]) (.inr rfl)
      have hqq := fun hk hp => hold_ph (x := s.p q) (i := (s.p q).pred) hk hp (.inl rfl)
      have hqs := fun hk hp => hold_ph (x := s.p q) (i := (s.p q).succ) hk hp (.inr rfl)
      unfold PI at hq2 ⊢
      rw [St.setP_c]
      simp only [hr, hl, hg]
      cases eph : (s.p q).ph <;> rw [eph] at hq2 <;> dsimp only at hq2 ⊢ <;> grind
  · rw [St.setP_p, ht]
    split
    · exact hx
    · exact h.nx q hq
  · rw [St.setP_p, ht]
    split
    · simp
    · exact h.nz q hq
set_option maxHeartbeats 4000000 in
theorem pres_un1 {s : St} {K : Nat → Prop} (o : Odr n rk) (h : Ivt n m rk s K) {p : Nat} (hp : p < m) (e : (s.p p).ph = .un1) {s' : St} (hs : stp rk s p = some s') : Ivt n m rk s' (fun i => K i ∧ i ≠ (s.p p).cell) := by
  have hi := h.pi p hp
  have hx := h.nx p hp
  unfold PI at hi
  rw [e] at hi
  obtain ⟨a1, a2, a3, a4, a5, a6, a7, a8, a9, a10, a11⟩ := hi
  try dsimp only at *
  have hp1 : (s.p p).pred ≠ 1 := o.ne1 a2 a11
  have hc1 : (s.p p).cell ≠ 1 := by omega
  have hpn := h.kn _ a5
  have hpc : (s.p p).pred ≠ (s.p p).cell := fun e4 => by rw [e4] at a11; omega
  obtain ⟨b1, b2, b3⟩ := h.kR _ a6 hc1
  rw [← a10] at b1 b2 b3
  have hnc : (s.p p).next ≠ (s.p p).cell := fun e4 => by rw [e4] at b2; omega
  have hnn := h.kn _ b1
  simp only [stp, e] at hs
  injection hs with hs
  subst hs
  generalize ht' : (s.setC (s.p p).pred { s.c (s.p p).pred with right := (s.p p).next }) = t
  have hr : ∀ i, (t.c i).right = if i = (s.p p).pred then (s.p p).next else (s.c i).right := fun i => by rw [← ht', St.setC_c]; split <;> rfl
  have hl : ∀ i, (t.c i).left = (s.c i).left := fun i => by rw [← ht', St.setC_c]; split <;> simp_all
  have hg : ∀ i, (t.c i).gone = (s.c i).gone := fun i => by rw [← ht', St.setC_c]; split <;> simp_all
  have hk : ∀ i, (t.c i).lock = (s.c i).lock := fun i => by rw [← ht', St.setC_c]; split <;> simp_all
  have ht : t.p = s.p := by rw [← ht']; rfl
  clear ht'
  refine ⟨⟨h.k0, by omega⟩, ⟨h.k1, by omega⟩, fun i hi => h.kn i hi.1, fun i hi h0 => ?_, ?_, ?_, fun i i2 hi hgi => ?_, fun i hi hgi => ?_, fun i hi q hq => ?_, fun i hi => ?_, fun i hi => ?_, fun i hi => ?_, fun i hi h0 => ?_, fun q hq => ?_, fun q hq => ?_, fun q hq => ?_⟩
  · rw [St.setP_c, hr]
    by_cases ei : i = (s.p p).pred
    · subst ei
      rw [if_pos rfl]
      refine ⟨⟨b1, hnc⟩, by omega, fun d hd hlt => ?_⟩
      have h1 := (h.kR _ a5 hp1).2.2 d hd.1 hlt
      rw [a7] at h1
      rcases Nat.lt_or_ge (rk (s.p p).cell) (rk d) with k | k
      · exact b3 d hd.1 k
      · exact absurd (o.inj _ _ (h.kn _ hd.1) a2 (by omega)) hd.2
    · rw [if_neg ei]
      obtain ⟨c1, c2, c3⟩ := h.kR i hi.1 h0
      exact ⟨⟨c1, fun e4 => ei (h.rinj o hi.1 a5 h0 hp1 (e4.trans a7.symm))⟩, c2, fun d hd => c3 d hd.1⟩
  · rw [St.setP_c, hg]; exact h.g0
  · rw [St.setP_c, hg]; exact h.g1
  · rw [St.setP_c, hg] at hgi
    exact ⟨h.gK i i2 hi hgi, fun e4 => by rw [e4, a9] at hgi; cases hgi⟩
  · rw [St.setP_c, hg] at hgi
    obtain ⟨q, hq, e1, e2⟩ := h.gU i hi.1 hgi
    have : q ≠ p := fun e3 => hi.2 (by rw [← e2, e3])
    exact ⟨q, hq, by rw [St.setP_p, if_neg this, ht]; exact ⟨e1, e2⟩⟩
  · rw [St.setP_p, ht, St.setP_c, hk]
    have := h.lk i hi q hq
    split
    · rename_i e3
      rw [this, e3]
      unfold holds
      simp [e]
    · exact this
  · rw [St.setP_c, hk]; exact h.lm i hi
  · rw [St.setP_c, hr]; split
    · exact hnn
    · exact h.rn i hi
  · have h3 := h.rL i hi
    have h4 : (s.p p).next ≠ 1 → (s.c (s.p p).next).right ≠ 0 := fun k => o.ne0 hnn (h.kR _ b1 k).2.1
    have h5 : (s.p p).next ≠ 0 := o.ne0 a2 b2
    rw [St.setP_c, hr, hr]
    grind
  · rw [St.setP_c, hl, hr]
    by_cases ei : i = (s.p p).pred
    · refine .inr ⟨p, hp, .inr ?_⟩
      rw [St.setP_p, if_pos rfl, if_pos ei]
      exact ⟨rfl, ei.symm, rfl⟩
    · rw [if_neg ei]
      rcases h.lf i hi.1 h0 with e3 | ⟨q, hq, e3⟩
      · exact .inl e3
      · refine .inr ⟨q, hq, ?_⟩
        have : q ≠ p := fun e2 => by
          subst e2
          rw [e] at e3
          rcases e3 with e3 | e3
          · cases e3.1
          · cases e3.1
        rw [St.setP_p, if_neg this, ht]
        exact e3
  · by_cases eq : q = p
    · subst eq
      rw [St.setP_p, if_pos rfl]
      unfold PI
      dsimp only
      rw [St.setP_c]
      simp only [hr, hl, hg]
      exact ⟨a1, a2, a3, a4, ⟨a5, hpc⟩, by simp, ⟨b1, hnc⟩, a11⟩
    · rw [St.setP_p, if_neg eq, ht]
      have hcl := h.clash hp hq eq
      have hq2 := h.pi q hq
      have hkn := h.kn
      have hmid := fun (j x : Nat) (hj : K j) (h2 : j ≠ 1) => h.mid (i := j) (x := x) hj h2
      have hrj := fun (i j : Nat) (hi : K i) (hj : K j) (h1 : i ≠ 1) (h2 : j ≠ 1) => h.rinj o hi hj h1 h2
      have hn1 : ∀ i x, x < n → rk i < rk x → i ≠ 1 := fun i x h1 h2 => o.ne1 h1 h2
      have hkR1 := fun (j : Nat) (hj : K j) (h2 : j ≠ 1) => (h.kR j hj h2).1
      have hkR2 := fun (j : Nat) (hj : K j) (h2 : j ≠ 1) => (h.kR j hj h2).2.1
      have hpp : holds (s.p p) (s.p p).pred := hold_ph (.inr a3) (by simp [e]) (.inl rfl)
      have hps : holds (s.p p) (s.p p).succ := hold_ph (.inr a3) (by simp [e]) (.inr rfl)
      have hqq := fun hk hp => hold_ph (x := s.p q) (i := (s.p q).pred) hk hp (.inl rfl)
      have hqs := fun hk hp => hold_ph (x := s.p q) (i := (s.p q).succ) hk hp (.inr rfl)
      have hqn : (s.p q).ph = .un2 → (s.p q).kind = .rem → (s.p q).next ≠ 0 → holds (s.p q) (s.p q).next := fun e1 e2 e3 => by
        unfold holds
        simp [e1, e2, e3]
      have hn0 : ∀ j x, x < n → rk x < rk j → j ≠ 0 := fun j x h1 h2 => o.ne0 h1 h2
      unfold PI at hq2 ⊢
      rw [St.setP_c]
      simp only [hr, hl, hg]
      cases eph : (s.p q).ph <;> rw [eph] at hq2 <;> dsimp only at hq2 ⊢ <;> grind
  · rw [St.setP_p, ht]
    split
    · exact hx
    · exact h.nx q hq
  · rw [St.setP_p, ht]
    split
    · simp
    · exact h.nz q hq

/-- Every step keeps the invariant. -/
theorem pres {s : St} {K : Nat → Prop} (o : Odr n rk) (h : Ivt n m rk s K) {p : Nat} (hp : p < m) {s' : St} (hs : stp rk s p = some s') : ∃ K', Ivt n m rk s' K' := by
  cases e : (s.p p).ph with
  | idle => simp [stp, e] at hs
  | done => simp [stp, e] at hs
  | find => exact ⟨_, pres_find o h hp e hs⟩
  | lockP => exact ⟨_, pres_lockP h hp e hs⟩
  | lockS => exact ⟨_, pres_lockS h hp e hs⟩
  | check => exact ⟨_, pres_check o h hp e hs⟩
  | retry => exact ⟨_, pres_retry o h hp e hs⟩
  | link0 => exact ⟨_, pres_link0 o h hp e hs⟩
  | link1 => exact ⟨_, pres_link1 o h hp e hs⟩
  | link2 => exact ⟨_, pres_link2 o h hp e hs⟩
  | lockN => exact ⟨_, pres_lockN o h hp e hs⟩
  | un0 => exact ⟨_, pres_un0 o h hp e hs⟩
  | un1 => exact ⟨_, pres_un1 o h hp e hs⟩
  | un2 => exact ⟨_, pres_un2 o h hp e hs⟩
  | rel => exact ⟨_, pres_rel h hp e hs⟩
/-- An operation begins. -/
def beg (s : St) (p : Nat) (k : Kd) (i : Nat) : St := s.setP p ⟨k, .find, i, 0, (s.c 0).right, 0, false⟩
theorem pres_beg {s : St} {K : Nat → Prop} (o : Odr n rk) (h : Ivt n m rk s K) {p : Nat} (hp : p < m) (e : (s.p p).ph = .idle ∨ (s.p p).ph = .done) {k : Kd} (hk : k ≠ .none) {i : Nat} (i2 : 2 ≤ i) (hi : i < n) : Ivt n m rk (beg s p k i) K := by
  have o2 := o.two
  have hr := h.kR 0 h.k0 (by omega)
  have h00 : (s.c 0).right ≠ 0 := fun e0 => by have := hr.2.1; rw [e0] at this; omega
  refine pres_rec h hp _ (fun j _ => ?_) ⟨i2, hi, hk, by show 0 < n; omega, h.rn 0 (by omega), o.fst i hi (by omega), h00, fun _ => (h.rL 0 (by omega) h00).2 (by assumption), h00⟩ (by show 0 < n; omega) (.inl rfl) ?_ ?_ ?_
  · unfold holds
    rcases e with e | e <;> simp [e]
  · rcases e with e | e <;> rw [e] <;> simp
  · rcases e with e | e <;> rw [e] <;> simp
  · rcases e with e | e <;> rw [e] <;> simp
/-- The cell for which a process waits. -/
def wt (s : St) (x : Pr) : Option Nat := match x.ph with
  | .lockP => some x.pred
  | .lockS => some x.succ
  | .lockN => some (s.c x.cell).right
  | _ => none
theorem wait_of {s : St} {p : Nat} (hw : (s.p p).ph ≠ .idle ∧ (s.p p).ph ≠ .done) (h : stp rk s p = none) : ∃ w, wt s (s.p p) = some w ∧ (s.c w).lock ≠ 0 := by
  unfold stp at h
  unfold wt
  cases e : (s.p p).ph <;> simp only [e] at h ⊢ <;> grind
theorem wait_up {s : St} {K : Nat → Prop} (h : Ivt n m rk s K) {q w v : Nat} (hq : q < m) (hh : holds (s.p q) w) (hw : wt s (s.p q) = some v) : rk w < rk v ∧ v < n := by
  have hi := h.pi q hq
  have hkR := h.kR
  have hkn := h.kn
  have hrn := h.rn
  unfold wt at hw
  unfold holds at hh
  unfold PI at hi
  cases e : (s.p q).ph <;> simp only [e] at hh hw hi <;> grind
theorem wait_in {s : St} {K : Nat → Prop} (h : Ivt n m rk s K) {q v : Nat} (hq : q < m) (hw : wt s (s.p q) = some v) : v < n := by
  have hi := h.pi q hq
  have hrn := h.rn
  unfold wt at hw
  unfold PI at hi
  cases e : (s.p q).ph <;> simp only [e] at hw hi <;> grind
/-- Nobody waits for ever: if a process is at work, some process can step. -/
theorem some_step {s : St} {K : Nat → Prop} (o : Odr n rk) (h : Ivt n m rk s K) {p : Nat} (hp : p < m) (hw : (s.p p).ph ≠ .idle ∧ (s.p p).ph ≠ .done) : ∃ q s', q < m ∧ stp rk s q = some s' := by
  have key : ∀ k q, q < m → (s.p q).ph ≠ .idle ∧ (s.p q).ph ≠ .done → (∀ w, wt s (s.p q) = some w → rk 1 - rk w ≤ k) → ∃ q s', q < m ∧ stp rk s q = some s' := by
    intro k
    induction k with
    | zero =>
      intro q hq hw hb
      cases e : stp rk s q with
      | some t => exact ⟨q, t, hq, e⟩
      | none =>
        obtain ⟨w, hw1, hw2⟩ := wait_of hw e
        have hwn := wait_in h hq hw1
        have hlm := h.lm w hwn
        obtain ⟨r, hr⟩ : ∃ r, (s.c w).lock = r + 1 := ⟨(s.c w).lock - 1, by omega⟩
        have hh := (h.lk w hwn r (by omega)).1 hr
        have hb1 := hb w hw1
        have hrw : (s.p r).ph ≠ .idle ∧ (s.p r).ph ≠ .done := by unfold holds at hh; exact ⟨hh.2.1, hh.2.2.2.2.1⟩
        cases e2 : stp rk s r with
        | some t => exact ⟨r, t, by omega, e2⟩
        | none =>
          obtain ⟨v, hv1, hv2⟩ := wait_of hrw e2
          obtain ⟨hv3, hv4⟩ := wait_up h (by omega) hh hv1
          have : v ≤ v := Nat.le_refl _
          by_cases hv : v = 1
          · rw [hv] at hv3; omega
          · have := o.lst v hv4 hv; omega
    | succ k ih =>
      intro q hq hw hb
      cases e : stp rk s q with
      | some t => exact ⟨q, t, hq, e⟩
      | none =>
        obtain ⟨w, hw1, hw2⟩ := wait_of hw e
        have hwn := wait_in h hq hw1
        have hlm := h.lm w hwn
        obtain ⟨r, hr⟩ : ∃ r, (s.c w).lock = r + 1 := ⟨(s.c w).lock - 1, by omega⟩
        have hh := (h.lk w hwn r (by omega)).1 hr
        have hb1 := hb w hw1
        have hrw : (s.p r).ph ≠ .idle ∧ (s.p r).ph ≠ .done := by unfold holds at hh; exact ⟨hh.2.1, hh.2.2.2.2.1⟩
        refine ih r (by omega) hrw fun v hv1 => ?_
        obtain ⟨hv3, hv4⟩ := wait_up h (by omega) hh hv1
        by_cases hv : v = 1
        · rw [hv]; omega
        · have := o.lst v hv4 hv; omega
  exact key (rk 1) p hp hw fun w _ => Nat.sub_le _ _
/-- If no process is at work, no cell is locked, and all links to the left are right. -/
theorem rest_free {s : St} {K : Nat → Prop} (h : Ivt n m rk s K) (hw : ∀ p, p < m → (s.p p).ph = .idle ∨ (s.p p).ph = .done) : ∀ i, i < n → (s.c i).lock = 0 := by
  intro i hi
  have hlm := h.lm i hi
  cases e : (s.c i).lock with
  | zero => rfl
  | succ r =>
    have hh := (h.lk i hi r (by omega)).1 e
    unfold holds at hh
    rcases hw r (by omega) with k | k
    · exact absurd k hh.2.1
    · exact absurd k hh.2.2.2.2.1
/-- If no cell is locked, all links to the left are right. -/
theorem free_left {s : St} {K : Nat → Prop} (h : Ivt n m rk s K) (hf : ∀ i, i < n → (s.c i).lock = 0) : ∀ i, K i → i ≠ 1 → (s.c (s.c i).right).left = i := by
  intro i hi h1
  rcases h.lf i hi h1 with e | ⟨p, hp, e⟩
  · exact e
  · have hip := h.pi p hp
    have hpn : (s.p p).pred < n := by
      have hkn := h.kn
      unfold PI at hip
      rcases e with e | e <;> rw [e.1] at hip <;> grind
    have hh : holds (s.p p) (s.p p).pred := by
      unfold PI at hip
      unfold holds
      rcases e with e | e <;> rw [e.1] at hip ⊢ <;> simp <;> grind
    have := (h.lk _ hpn p hp).2 hh
    rw [hf _ hpn] at this
    omega
/-- A step changes the members only where it links or unlinks. -/
theorem mem_same {s s' : St} {p : Nat} (hs : stp rk s p = some s') (h1 : (s.p p).ph ≠ .link1) (h2 : (s.p p).ph ≠ .un0) : ∀ i, (s'.c i).gone = (s.c i).gone := by
  intro i
  have hset : ∀ (c : Nat) (x : Cl), x.gone = (s.c c).gone → ((s.setC c x).c i).gone = (s.c i).gone := fun c x hx => by
    rw [St.setC_c]
    split
    · rename_i e; rw [e]; exact hx
    · rfl
  have hfr : ∀ q, ((s.free q).c i).gone = (s.c i).gone := fun q => by
    unfold St.free
    dsimp only
    split <;> rfl
  unfold stp at hs
  cases e : (s.p p).ph <;> simp only [e] at hs h1 h2 <;> (repeat' split at hs) <;> (first | (cases hs; done) | (injection hs with hs; subst hs; first | rfl | exact hset _ _ rfl | exact hfr _) | exact absurd rfl h1 | exact (absurd rfl h2))
theorem mem_link {s s' : St} {K : Nat → Prop} (o : Odr n rk) (h : Ivt n m rk s K) {p : Nat} (hp : p < m) (hs : stp rk s p = some s') (h1 : (s.p p).ph = .link1) : (s.c (s.p p).cell).gone = true ∧ ∀ i, (s'.c i).gone = if i = (s.p p).cell then false else (s.c i).gone := by
  have hi := h.pi p hp
  unfold PI at hi
  rw [h1] at hi
  obtain ⟨a1, a2, a3, a4, a5, a6, a7, a8, a9, a10, a11⟩ := hi
  dsimp only at a6 a10
  have hxK : ¬ K (s.p p).cell := h.mid a4 (o.ne1 a2 a8) a8 (by rw [a6]; exact a9)
  refine ⟨?_, fun i => ?_⟩
  · cases hg : (s.c (s.p p).cell).gone
    · exact absurd (h.gK _ a1 a2 hg) hxK
    · rfl
  · unfold stp at hs
    simp only [h1] at hs
    injection hs with hs
    subst hs
    rw [St.setP_c, St.setC_c]
    split
    · rfl
    · rw [St.setC_c]
      split
      · rename_i e; rw [e]
      · rfl
theorem mem_unlink {s s' : St} {K : Nat → Prop} (h : Ivt n m rk s K) {p : Nat} (hp : p < m) (hs : stp rk s p = some s') (h1 : (s.p p).ph = .un0) : (s.c (s.p p).cell).gone = false ∧ ∀ i, (s'.c i).gone = if i = (s.p p).cell then true else (s.c i).gone := by
  have hi := h.pi p hp
  unfold PI at hi
  rw [h1] at hi
  obtain ⟨a1, a2, a3, a4, a5, a6, a7, a8, a9, a10, a11⟩ := hi
  refine ⟨a9, fun i => ?_⟩
  unfold stp at hs
  simp only [h1] at hs
  injection hs with hs
  subst hs
  rw [St.setP_c, St.setC_c]
  split <;> rfl
/-! moments -/
/-- A cell is reached from another one by links to the right. -/
inductive Rc (rk : Nat → Nat) (R : Nat → Nat) : Nat → Nat → Prop
  | refl (a : Nat) : Rc rk R a a
  | step (a b : Nat) : rk a < rk (R a) → Rc rk R (R a) b → Rc rk R a b
theorem Rc.le {R : Nat → Nat} {a b : Nat} (h : Rc rk R a b) : a = b ∨ rk a < rk b := by
  induction h with
  | refl a => exact .inl rfl
  | step a b h1 _ ih =>
    rcases ih with e | e
    · rw [← e]; exact .inr h1
    · exact .inr (by omega)
theorem Rc.inv {R : Nat → Nat} {a b : Nat} (h : Rc rk R a b) : a = b ∨ Rc rk R (R a) b := by
  cases h with
  | refl => exact .inl rfl
  | step _ _ _ h2 => exact .inr h2
/-- In the chain every cell is reached from each before it. -/
theorem chain_reach {s : St} {K : Nat → Prop} (o : Odr n rk) (h : Ivt n m rk s K) {x : Nat} (hx : K x) : ∀ k a, K a → rk a ≤ rk x → rk x - rk a ≤ k → Rc rk (fun i => (s.c i).right) a x := by
  intro k
  induction k with
  | zero =>
    intro a ha h1 h2
    have : a = x := o.inj a x (h.kn a ha) (h.kn x hx) (by omega)
    rw [this]
    exact Rc.refl x
  | succ k ih =>
    intro a ha h1 h2
    by_cases e : a = x
    · rw [e]; exact Rc.refl x
    · have hlt : rk a < rk x := by
        rcases Nat.lt_or_ge (rk a) (rk x) with k2 | k2
        · exact k2
        · exact absurd (o.inj a x (h.kn a ha) (h.kn x hx) (by omega)) e
      obtain ⟨b1, b2, b3⟩ := h.kR a ha (o.ne1 (h.kn x hx) hlt)
      have b4 := b3 x hx hlt
      exact Rc.step a x b2 (ih _ b1 b4 (by omega))
/-- One link changes, and what is reached behind it is in the chain. -/
theorem rc_change {s' : St} {K' : Nat → Prop} (o : Odr n rk) (h' : Ivt n m rk s' K') {R : Nat → Nat} {x y : Nat} (hx : K' x) (hR : ∀ i, i ≠ y → (s'.c i).right = R i)
    (hy : rk y < rk x → K' (s'.c y).right ∧ rk y < rk (s'.c y).right ∧ rk (s'.c y).right ≤ rk x) {a : Nat} (ha : Rc rk R a x) : Rc rk (fun i => (s'.c i).right) a x := by
  induction ha with
  | refl a => exact Rc.refl a
  | step a b h1 h2 ih =>
    by_cases e : a = y
    · subst e
      have h3 : rk a < rk b := by
        rcases h2.le with k | k
        · rw [← k]; exact h1
        · omega
      obtain ⟨c1, c2, c3⟩ := hy h3
      exact Rc.step a b c2 (chain_reach o h' hx _ _ c1 c3 (Nat.le_refl _))
    · have e2 := hR a e
      refine Rc.step a b ?_ ?_
      · show rk a < rk (s'.c a).right
        rw [e2]; exact h1
      · show Rc rk _ (s'.c a).right b
        rw [e2]
        exact ih hx hy
/-- A member that was reached is reached after a step of another process. -/
theorem rc_keep {s s' : St} {K : Nat → Prop} (o : Odr n rk) (h : Ivt n m rk s K) {p : Nat} (hp : p < m) (hs : stp rk s p = some s') {x : Nat} (x2 : 2 ≤ x) (xn : x < n) (g1 : (s.c x).gone = false) (g2 : (s'.c x).gone = false) {a : Nat} (ha : Rc rk (fun i => (s.c i).right) a x) : Rc rk (fun i => (s'.c i).right) a x := by
  have hxK : K x := h.gK x x2 xn g1
  have same : (∀ i, (s'.c i).right = (s.c i).right) → Rc rk (fun i => (s'.c i).right) a x := fun e => by
    have : (fun i => (s'.c i).right) = fun i => (s.c i).right := funext e
    rw [this]; exact ha
  have hi := h.pi p hp
  unfold PI at hi
  have hset : ∀ (c : Nat) (z : Cl) (i : Nat), z.right = (s.c c).right → ((s.setC c z).c i).right = (s.c i).right := fun c z i hz => by
    rw [St.setC_c]
    split
    · rename_i e; rw [e]; exact hz
    · rfl
  have hfr : ∀ q i, ((s.free q).c i).right = (s.c i).right := fun q i => by
    unfold St.free
    dsimp only
    split <;> rfl
  by_cases h0 : (s.p p).ph = .link0
  · have h' := pres_link0 o h hp h0 hs
    rw [h0] at hi
    obtain ⟨a1, a2, a3, a4, a5, a6, a7, a8, a9⟩ := hi
    dsimp only at a6
    have e1 : ∀ i, (s'.c i).right = if i = (s.p p).cell then (s.p p).succ else (s.c i).right := fun i => by
      simp only [stp, h0] at hs
      injection hs with hs
      subst hs
      rw [St.setP_c, St.setC_c]
      split <;> rfl
    refine rc_change o h' hxK (y := (s.p p).cell) (fun i hne => by rw [e1, if_neg hne]) (fun hlt => ?_) ha
    rw [e1, if_pos rfl]
    refine ⟨a5, a9, ?_⟩
    have := (h.kR _ a4 (o.ne1 a2 a8)).2.2 x hxK (by omega)
    rw [a6] at this
    exact this
  by_cases h1 : (s.p p).ph = .link1
  · have h' := pres_link1 o h hp h1 hs
    rw [h1] at hi
    obtain ⟨a1, a2, a3, a4, a5, a6, a7, a8, a9, a10, a11⟩ := hi
    dsimp only at a6
    have hne : (s.p p).cell ≠ (s.p p).pred := fun e => by rw [e] at a8; omega
    have e1 : ∀ i, (s'.c i).right = if i = (s.p p).pred then (s.p p).cell else (s.c i).right := fun i => by
      simp only [stp, h1] at hs
      injection hs with hs
      subst hs
      rw [St.setP_c, St.setC_c]
      by_cases ei : i = (s.p p).cell
      · rw [if_pos ei, if_neg (by rw [ei]; exact hne), St.setC_c, if_neg hne, ei]
      · rw [if_neg ei, St.setC_c]
        split <;> rfl
    refine rc_change o h' (.inl hxK) (y := (s.p p).pred) (fun i hne => by rw [e1, if_neg hne]) (fun hlt => ?_) ha
    rw [e1, if_pos rfl]
    refine ⟨.inr rfl, a8, ?_⟩
    have := (h.kR _ a4 (o.ne1 a2 a8)).2.2 x hxK hlt
    rw [a6] at this
    omega
  by_cases h2 : (s.p p).ph = .un1
  · have h' := pres_un1 o h hp h2 hs
    rw [h2] at hi
    obtain ⟨a1, a2, a3, a4, a5, a6, a7, a8, a9, a10, a11⟩ := hi
    dsimp only at a7 a10
    have e1 : ∀ i, (s'.c i).right = if i = (s.p p).pred then (s.p p).next else (s.c i).right := fun i => by
      simp only [stp, h2] at hs
      injection hs with hs
      subst hs
      rw [St.setP_c, St.setC_c]
      split <;> rfl
    have hxc : x ≠ (s.p p).cell := fun e => by rw [e, a9] at g1; cases g1
    refine rc_change o h' ⟨hxK, hxc⟩ (y := (s.p p).pred) (fun i hne => by rw [e1, if_neg hne]) (fun hlt => ?_) ha
    obtain ⟨b1, b2, b3⟩ := h.kR _ a6 (by omega)
    rw [← a10] at b1 b2 b3
    rw [e1, if_pos rfl]
    refine ⟨⟨b1, fun e => by rw [e] at b2; omega⟩, by omega, ?_⟩
    have := (h.kR _ a5 (o.ne1 a2 a11)).2.2 x hxK hlt
    rw [a7] at this
    refine b3 x hxK ?_
    rcases Nat.lt_or_ge (rk (s.p p).cell) (rk x) with k | k
    · exact k
    · exact absurd (o.inj x _ xn a2 (by omega)) hxc
  · refine same fun i => ?_
    unfold stp at hs
    cases e : (s.p p).ph <;> simp only [e] at hs h0 h1 h2 <;> (repeat' split at hs) <;> (first | (cases hs; done) | (injection hs with hs; subst hs; first | rfl | exact hset _ _ _ rfl | exact hfr _ _) | exact absurd trivial h0 | exact absurd trivial h1 | exact absurd trivial h2)
/-- Where a search stands: if it has not missed its cell, it will come to it. -/
theorem find_own {s s' : St} {K : Nat → Prop} (h : Ivt n m rk s K) {p : Nat} (hs : stp rk s p = some s') (h1 : (s.p p).ph = .find) (ha : Rc rk (fun i => (s.c i).right) (s.p p).succ (s.p p).cell) : Rc rk (fun i => (s'.c i).right) (s'.p p).succ (s'.p p).cell := by
  simp only [stp, h1] at hs
  split at hs
  · rename_i k
    injection hs with hs
    subst hs
    rw [St.setP_p, if_pos rfl]
    show Rc rk (fun i => (s.c i).right) (s.c (s.p p).succ).right (s.p p).cell
    rcases ha.inv with e | e
    · rw [e] at k; omega
    · exact e
  · split at hs <;> injection hs with hs <;> subst hs <;> rw [St.setP_p, if_pos rfl] <;> exact ha
/-- A search from the head on comes to each member. -/
theorem head_reach {s : St} {K : Nat → Prop} (o : Odr n rk) (h : Ivt n m rk s K) {x : Nat} (x2 : 2 ≤ x) (xn : x < n) (g : (s.c x).gone = false) : Rc rk (fun i => (s.c i).right) (s.c 0).right x := by
  have hx := h.gK x x2 xn g
  obtain ⟨b1, b2, b3⟩ := h.kR 0 h.k0 (by omega)
  exact chain_reach o h hx _ _ b1 (b3 x hx (o.fst x xn (by omega))) (Nat.le_refl _)
/-- Where the search has stopped. -/
theorem check_reach {s : St} {K : Nat → Prop} (h : Ivt n m rk s K) {p : Nat} (hp : p < m) (h1 : (s.p p).ph = .check) (ha : Rc rk (fun i => (s.c i).right) (s.p p).succ (s.p p).cell) : (s.p p).succ = (s.p p).cell := by
  have hi := h.pi p hp
  unfold PI at hi
  rw [h1] at hi
  obtain ⟨_, _, _, _, _, _, a7, _⟩ := hi
  rcases ha.le with e | e
  · exact e
  · omega
/-! how many steps -/
def sm (f : Nat → Nat) : Nat → Nat
  | 0 => 0
  | k + 1 => sm f k + f k
theorem sm_le {f g : Nat → Nat} : ∀ {k : Nat}, (∀ i, i < k → f i ≤ g i) → sm f k ≤ sm g k
  | 0, _ => Nat.le_refl _
  | k + 1, h => by
    have := sm_le (k := k) fun i hi => h i (by omega)
    have := h k (by omega)
    unfold sm
    omega
theorem sm_lt {f g : Nat → Nat} {p : Nat} : ∀ {k : Nat}, (∀ i, i < k → f i ≤ g i) → p < k → f p < g p → sm f k < sm g k
  | 0, _, h, _ => by omega
  | k + 1, h, hp, hlt => by
    have h1 := h k (by omega)
    unfold sm
    by_cases e : p = k
    · have := sm_le (k := k) fun i hi => h i (by omega)
      subst e
      omega
    · have := sm_lt (k := k) (fun i hi => h i (by omega)) (by omega) hlt
      omega
theorem sm_const (c : Nat) : ∀ k : Nat, ∀ f : Nat → Nat, sm (fun i => f i * c) k = sm f k * c
  | 0, f => by simp [sm]
  | k + 1, f => by
    unfold sm
    rw [sm_const c k f, Nat.add_mul]
/-- A process that is at work; one that may still change the chain. -/
def act (x : Pr) : Bool := match x.ph with
  | .idle => false
  | .done => false
  | _ => true
def can (x : Pr) : Bool := match x.ph with
  | .idle => false
  | .done => false
  | .link2 => false
  | .un2 => false
  | .rel => false
  | _ => true
/-- How many others may still change it. -/
def cn (m : Nat) (s : St) (r : Nat) : Nat := sm (fun q => if q ≠ r ∧ can (s.p q) = true then 1 else 0) m
/-- What is left of this way through. -/
def ps (rk : Nat → Nat) (x : Pr) : Nat := match x.ph with
  | .idle => 0
  | .done => 0
  | .find => (rk x.cell - rk x.succ) + 9
  | .lockP => 8
  | .lockS => 7
  | .check => 6
  | .retry => 5
  | .lockN => 5
  | .link0 => 4
  | .un0 => 4
  | .link1 => 3
  | .un1 => 3
  | .link2 => 2
  | .un2 => 2
  | .rel => 1
/-- The steps left, d: who has seen a change on this way through. -/
def ph1 (n m : Nat) (rk : Nat → Nat) (s : St) (d : Nat → Bool) (p : Nat) : Nat := if act (s.p p) = true then (cn m s p + (d p).toNat) * (n + 5) + ps rk (s.p p) else 0
def phi (n m : Nat) (rk : Nat → Nat) (s : St) (d : Nat → Bool) : Nat := sm (ph1 n m rk s d) m
/-- Who has seen no change stands in the chain. -/
structure Fr (m : Nat) (s : St) (K : Nat → Prop) (d : Nat → Bool) : Prop where
  ni : ∀ p, p < m → d p = false → ((s.p p).ph = .find ∨ (s.p p).ph = .lockP ∨ (s.p p).ph = .lockS ∨ (s.p p).ph = .check) → K (s.p p).pred ∧ (s.p p).pred ≠ 1 ∧ (s.c (s.p p).pred).right = (s.p p).succ
  rt : ∀ p, p < m → (s.p p).ph = .retry → d p = true
theorem stp_oth {s s' : St} {p : Nat} (hs : stp rk s p = some s') : ∀ q, q ≠ p → s'.p q = s.p q := fun q hq => by
  unfold stp at hs
  cases e : (s.p p).ph <;> simp only [e] at hs <;> (repeat' split at hs) <;> (first | (cases hs; done) | (injection hs with hs; subst hs; exact if_neg hq))
/-- Who has seen no change does not begin again. -/
theorem no_retry {s s' : St} {K : Nat → Prop} {d : Nat → Bool} (h : Ivt n m rk s K) (f : Fr m s K d) {p : Nat} (hp : p < m) (hd : d p = false) (e : (s.p p).ph = .check) (hs : stp rk s p = some s') : (s'.p p).ph ≠ .retry := by
  obtain ⟨k1, k2, k3⟩ := f.ni p hp hd (.inr (.inr (.inr e)))
  have hi := h.pi p hp
  unfold PI at hi
  rw [e] at hi
  obtain ⟨a1, a2, a3, a4, a5, a6, a7, a8, a9⟩ := hi
  have kS : K (s.p p).succ := by rw [← k3]; exact (h.kR _ k1 k2).1
  simp only [stp, e] at hs
  split at hs
  · injection hs with hs; subst hs; rw [St.setP_p, if_pos rfl]; simp
  · rename_i kf
    have hk : (s.p p).kind = .ins ∨ (s.p p).kind = .rem := by
      revert a3 kf
      cases (s.p p).kind <;> simp
    have gone : ∀ i, K i → (i = (s.p p).pred ∨ i = (s.p p).succ) → (s.c i).gone = true → False := fun i hi h1 h2 => by
      obtain ⟨q, hq, e1, e2⟩ := h.gU i hi h2
      have hiq := h.pi q hq
      unfold PI at hiq
      rw [e1] at hiq
      have hh1 := hold_ph (x := s.p p) (i := i) hk (by simp [e]) h1
      have hh2 := hold_ph (x := s.p q) (i := i) (.inr hiq.2.2.1) (by simp [e1]) (.inr (by rw [hiq.2.2.2.1, e2]))
      have := h.hold_uniq (h.kn i hi) hp hq hh1 hh2
      subst this
      rw [e] at e1
      cases e1
    split at hs
    · rename_i kc
      rcases kc with kc | kc | kc
      · exact absurd kc fun k => gone _ k1 (.inl rfl) k
      · exact absurd kc fun k => gone _ kS (.inr rfl) k
      · exact absurd k3 kc
    · split at hs
      · injection hs with hs; subst hs; rw [St.setP_p, if_pos rfl]; simp
      · split at hs <;> injection hs with hs <;> subst hs <;> rw [St.setP_p, if_pos rfl] <;> simp
theorem pres2 {s : St} {K : Nat → Prop} (o : Odr n rk) (h : Ivt n m rk s K) {p : Nat} (hp : p < m) {s' : St} (hs : stp rk s p = some s') : ∃ K', Ivt n m rk s' K' ∧ (((s.p p).ph = .link1 ∨ (s.p p).ph = .un1) ∨ K' = K) := by
  cases e : (s.p p).ph with
  | idle => simp [stp, e] at hs
  | done => simp [stp, e] at hs
  | find => exact ⟨_, pres_find o h hp e hs, .inr rfl⟩
  | lockP => exact ⟨_, pres_lockP h hp e hs, .inr rfl⟩
  | lockS => exact ⟨_, pres_lockS h hp e hs, .inr rfl⟩
  | check => exact ⟨_, pres_check o h hp e hs, .inr rfl⟩
  | retry => exact ⟨_, pres_retry o h hp e hs, .inr rfl⟩
  | link0 => exact ⟨_, pres_link0 o h hp e hs, .inr rfl⟩
  | link1 => exact ⟨_, pres_link1 o h hp e hs, .inl (.inl rfl)⟩
  | link2 => exact ⟨_, pres_link2 o h hp e hs, .inr rfl⟩
  | lockN => exact ⟨_, pres_lockN o h hp e hs, .inr rfl⟩
  | un0 => exact ⟨_, pres_un0 o h hp e hs, .inr rfl⟩
  | un1 => exact ⟨_, pres_un1 o h hp e hs, .inl (.inr rfl)⟩
  | un2 => exact ⟨_, pres_un2 o h hp e hs, .inr rfl⟩
  | rel => exact ⟨_, pres_rel h hp e hs, .inr rfl⟩
theorem right_K {s s' : St} {K : Nat → Prop} (o : Odr n rk) (h : Ivt n m rk s K) {p : Nat} (hp : p < m) (hs : stp rk s p = some s') (h1 : (s.p p).ph ≠ .link1) (h2 : (s.p p).ph ≠ .un1) : ∀ i, K i → (s'.c i).right = (s.c i).right := by
  intro i hiK
  have hset : ∀ (c : Nat) (z : Cl) (i : Nat), z.right = (s.c c).right → ((s.setC c z).c i).right = (s.c i).right := fun c z i hz => by
    rw [St.setC_c]
    split
    · rename_i e; rw [e]; exact hz
    · rfl
  have hfr : ∀ q i, ((s.free q).c i).right = (s.c i).right := fun q i => by
    unfold St.free
    dsimp only
    split <;> rfl
  have hi := h.pi p hp
  unfold PI at hi
  by_cases h0 : (s.p p).ph = .link0
  · rw [h0] at hi
    obtain ⟨a1, a2, a3, a4, a5, a6, a7, a8, a9⟩ := hi
    dsimp only at a6
    have hxK : ¬ K (s.p p).cell := h.mid a4 (o.ne1 a2 a8) a8 (by rw [a6]; exact a9)
    simp only [stp, h0] at hs
    injection hs with hs
    subst hs
    rw [St.setP_c, St.setC_c, if_neg (fun e : i = (s.p p).cell => hxK (e ▸ hiK))]
  · unfold stp at hs
    cases e : (s.p p).ph <;> simp only [e] at hs h0 h1 h2 <;> (repeat' split at hs) <;> (first | (cases hs; done) | (injection hs with hs; subst hs; first | rfl | exact hset _ _ _ rfl | exact hfr _ _) | exact absurd trivial h0 | exact absurd rfl h1 | exact (absurd rfl h2))
/-- Who has seen a change after a step. -/
def nd (s : St) (p : Nat) (d : Nat → Bool) (r : Nat) : Bool := if (s.p p).ph = .link1 ∨ (s.p p).ph = .un1 then (if r = p then d r else true) else if r = p ∧ (s.p p).ph = .retry then false else d r
theorem fr_keep {s s' : St} {K K' : Nat → Prop} {d : Nat → Bool} (o : Odr n rk) (h : Ivt n m rk s K) (f : Fr m s K d) {p : Nat} (hp : p < m) (hs : stp rk s p = some s') (hK : ((s.p p).ph = .link1 ∨ (s.p p).ph = .un1) ∨ K' = K) : Fr m s' K' (nd s p d) := by
  have hoth := stp_oth hs
  by_cases hc : (s.p p).ph = .link1 ∨ (s.p p).ph = .un1
  · have hpp : (s'.p p).ph = .link2 ∨ (s'.p p).ph = .un2 := by
      rcases hc with e | e <;> simp only [stp, e] at hs <;> injection hs with hs <;> subst hs <;> rw [St.setP_p, if_pos rfl]
      · exact .inl rfl
      · exact .inr rfl
    refine ⟨fun r hr hd hph => ?_, fun r hr hph => ?_⟩
    · unfold nd at hd
      rw [if_pos hc] at hd
      by_cases e : r = p
      · subst e
        rcases hpp with k | k <;> rw [k] at hph <;> simp at hph
      · rw [if_neg e] at hd; cases hd
    · unfold nd
      rw [if_pos hc]
      by_cases e : r = p
      · subst e
        rcases hpp with k | k <;> rw [k] at hph <;> cases hph
      · rw [if_neg e]
  · have eK : K' = K := hK.resolve_left hc
    subst eK
    have hR := right_K o h hp hs (fun e => hc (.inl e)) (fun e => hc (.inr e))
    refine ⟨fun r hr hd hph => ?_, fun r hr hph => ?_⟩
    · unfold nd at hd
      rw [if_neg hc] at hd
      by_cases e : r = p
      · subst e
        have hi := h.pi r hr
        unfold PI at hi
        have h00 := hR 0 h.k0
        have hfi := f.ni r hr
        have hkR := h.kR
        have hkn := h.kn
        have ho1 : ∀ i x, x < n → rk i < rk x → i ≠ 1 := fun i x a b => o.ne1 a b
        cases e1 : (s.p r).ph with
        | find =>
          have hd' : d r = false := by simpa [e1] using hd
          obtain ⟨k1, k2, k3⟩ := hfi hd' (.inl e1)
          rw [e1] at hi
          simp only [stp, e1] at hs
          split at hs
          · rename_i k
            injection hs with hs
            subst hs
            rw [St.setP_p, if_pos rfl]
            refine ⟨?_, o.ne1 hi.2.1 k, rfl⟩
            show K' (s.p r).succ
            rw [← k3]; exact (hkR _ k1 k2).1
          · split at hs <;> injection hs with hs <;> subst hs <;> rw [St.setP_p, if_pos rfl] <;> exact ⟨k1, k2, k3⟩
        | lockP =>
          have hd' : d r = false := by simpa [e1] using hd
          obtain ⟨k1, k2, k3⟩ := hfi hd' (.inr (.inl e1))
          have h4 := hR _ k1
          simp only [stp, e1] at hs
          split at hs
          · cases hs
          · injection hs with hs
            subst hs
            rw [St.setP_p, if_pos rfl]
            exact ⟨k1, k2, h4.trans k3⟩
        | lockS =>
          have hd' : d r = false := by simpa [e1] using hd
          obtain ⟨k1, k2, k3⟩ := hfi hd' (.inr (.inr (.inl e1)))
          have h4 := hR _ k1
          simp only [stp, e1] at hs
          split at hs
          · cases hs
          · injection hs with hs
            subst hs
            rw [St.setP_p, if_pos rfl]
            exact ⟨k1, k2, h4.trans k3⟩
        | retry =>
          simp only [stp, e1] at hs
          injection hs with hs
          subst hs
          rw [St.setP_p, if_pos rfl]
          exact ⟨h.k0, by simp, h00⟩
        | idle => simp [stp, e1] at hs
        | done => simp [stp, e1] at hs
        | link1 => exact absurd (.inl e1) hc
        | un1 => exact absurd (.inr e1) hc
        | check =>
          simp only [stp, e1] at hs
          exfalso
          (repeat' split at hs) <;> injection hs with hs <;> subst hs <;> rw [St.setP_p, if_pos rfl] at hph <;> simp at hph
        | lockN =>
          simp only [stp, e1] at hs
          exfalso
          split at hs
          · cases hs
          · injection hs with hs
            subst hs
            rw [St.setP_p, if_pos rfl] at hph
            simp at hph
        | link0 => simp only [stp, e1] at hs; injection hs with hs; subst hs; rw [St.setP_p, if_pos rfl] at hph; simp at hph
        | link2 => simp only [stp, e1] at hs; injection hs with hs; subst hs; rw [St.setP_p, if_pos rfl] at hph; simp at hph
        | un0 => simp only [stp, e1] at hs; injection hs with hs; subst hs; rw [St.setP_p, if_pos rfl] at hph; simp at hph
        | un2 => simp only [stp, e1] at hs; injection hs with hs; subst hs; rw [St.setP_p, if_pos rfl] at hph; simp at hph
        | rel => simp only [stp, e1] at hs; injection hs with hs; subst hs; rw [St.setP_p, if_pos rfl] at hph; simp at hph
      · rw [if_neg (fun k => e k.1)] at hd
        rw [hoth r e] at hph ⊢
        obtain ⟨k1, k2, k3⟩ := f.ni r hr hd hph
        exact ⟨k1, k2, (hR _ k1).trans k3⟩
    · unfold nd
      rw [if_neg hc]
      by_cases e : r = p
      · subst e
        have hne : (s.p r).ph ≠ .retry := fun e1 => by
          simp only [stp, e1] at hs
          injection hs with hs
          subst hs
          rw [St.setP_p, if_pos rfl] at hph
          cases hph
        have hck : (s.p r).ph = .check := by
          unfold stp at hs
          cases e1 : (s.p r).ph <;> simp only [e1] at hs hne <;> first | rfl | (exfalso; (repeat' split at hs) <;> (first | (cases hs; done) | (injection hs with hs; subst hs; rw [St.setP_p, if_pos rfl] at hph; simp [e1] at hph) | exact absurd rfl hne))
        rw [if_neg (fun k => hne k.2)]
        cases hdr : d r
        · exact absurd hph (no_retry h f hr hdr hck hs)
        · rfl
      · rw [if_neg (fun k => e k.1)]
        rw [hoth r e] at hph
        exact f.rt r hr hph
theorem can_le {s s' : St} {p : Nat} (hs : stp rk s p = some s') : can (s'.p p) = true → can (s.p p) = true := by
  unfold stp at hs
  unfold can
  cases e : (s.p p).ph <;> simp only [e] at hs <;> (repeat' split at hs) <;> (first | (cases hs; done) | (injection hs with hs; subst hs; rw [St.setP_p, if_pos rfl]; simp [e]))
/-- A step takes something from what is left of the way. -/
theorem ps_lt {s s' : St} {K : Nat → Prop} (o : Odr n rk) (h : Ivt n m rk s K) {p : Nat} (hp : p < m) (hs : stp rk s p = some s') (hr : (s.p p).ph ≠ .retry) : ps rk (s'.p p) < ps rk (s.p p) := by
  have hi := h.pi p hp
  unfold PI at hi
  unfold stp at hs
  cases e : (s.p p).ph <;> simp only [e] at hs hr hi
  case find =>
    obtain ⟨a1, a2, a3, a4, a5, a6, a7, a8, a9⟩ := hi
    split at hs
    · rename_i k
      injection hs with hs
      subst hs
      rw [St.setP_p, if_pos rfl]
      simp only [ps, e]
      have := (h.rL _ a5 (a8 (o.ne1 a2 k))).1
      omega
    · split at hs <;> injection hs with hs <;> subst hs <;> rw [St.setP_p, if_pos rfl] <;> simp [ps, e] <;> omega
  case retry => exact absurd rfl hr
  all_goals
    (repeat' split at hs) <;> (first | (cases hs; done) | (injection hs with hs; subst hs; rw [St.setP_p, if_pos rfl]; simp [ps, e]))
theorem cn_le {s s' : St} {p : Nat} (hs : stp rk s p = some s') (r : Nat) : cn m s' r ≤ cn m s r := sm_le fun q _ => by
  by_cases e : q = p
  · subst e
    have := can_le hs
    split
    · rename_i k
      rw [if_pos ⟨k.1, this k.2⟩]
      exact Nat.le_refl _
    · exact Nat.zero_le _
  · rw [stp_oth hs q e]
    exact Nat.le_refl _
theorem cn_own {s s' : St} {p : Nat} (hs : stp rk s p = some s') : cn m s' p ≤ cn m s p := cn_le hs p
theorem cn_drop {s s' : St} {p : Nat} (hp : p < m) (hs : stp rk s p = some s') (hc : (s.p p).ph = .link1 ∨ (s.p p).ph = .un1) {r : Nat} (hr : r ≠ p) : cn m s' r < cn m s r := by
  refine sm_lt (p := p) (fun q _ => ?_) hp ?_
  · by_cases e : q = p
    · subst e
      have := can_le hs
      split
      · rename_i k
        rw [if_pos ⟨k.1, this k.2⟩]
        exact Nat.le_refl _
      · exact Nat.zero_le _
    · rw [stp_oth hs q e]
      exact Nat.le_refl _
  · have h1 : can (s.p p) = true := by rcases hc with e | e <;> simp [can, e]
    have h2 : can (s'.p p) = false := by
      rcases hc with e | e <;> simp only [stp, e] at hs <;> injection hs with hs <;> subst hs <;> rw [St.setP_p, if_pos rfl] <;> simp [can]
    rw [if_neg (by rw [h2]; simp), if_pos ⟨fun e => hr e.symm, h1⟩]
    omega
theorem own_lt {s s' : St} {K : Nat → Prop} {d : Nat → Bool} (o : Odr n rk) (hb : ∀ i, i < n → rk i < n) (h : Ivt n m rk s K) (f : Fr m s K d) {p : Nat} (hp : p < m) (hs : stp rk s p = some s') : ph1 n m rk s' (nd s p d) p < ph1 n m rk s d p := by
  have hact : act (s.p p) = true ∧ 0 < ps rk (s.p p) := by
    unfold stp at hs
    unfold act ps
    cases e : (s.p p).ph <;> simp only [e] at hs <;> first | (cases hs; done) | simp
  have hcn := cn_own (m := m) hs
  unfold ph1
  rw [if_pos hact.1]
  split
  · by_cases hr : (s.p p).ph = .retry
    · have h1 : d p = true := f.rt p hp hr
      have h2 : nd s p d p = false := by unfold nd; simp [hr]
      have hi := h.pi p hp
      unfold PI at hi
      rw [hr] at hi
      have h3 : ps rk (s'.p p) ≤ n + 8 := by
        simp only [stp, hr] at hs
        injection hs with hs
        subst hs
        rw [St.setP_p, if_pos rfl]
        have := hb _ hi.2.1
        simp only [ps]
        omega
      have h4 : ps rk (s.p p) = 5 := by simp [ps, hr]
      rw [h1, h2, h4]
      have h5 := Nat.mul_le_mul_right (n + 5) hcn
      show (cn m s' p + 0) * (n + 5) + _ < (cn m s p + 1) * (n + 5) + 5
      rw [Nat.add_zero, Nat.add_mul]
      omega
    · have h2 : nd s p d p = d p := by unfold nd; split <;> simp [hr]
      rw [h2]
      have h3 := ps_lt o h hp hs hr
      have h5 := Nat.mul_le_mul_right (n + 5) (Nat.add_le_add_right hcn (d p).toNat)
      omega
  · have := hact.2
    omega
/-- Each step takes from the steps left. -/
theorem phi_lt {s s' : St} {K : Nat → Prop} {d : Nat → Bool} (o : Odr n rk) (hb : ∀ i, i < n → rk i < n) (h : Ivt n m rk s K) (f : Fr m s K d) {p : Nat} (hp : p < m) (hs : stp rk s p = some s') : phi n m rk s' (nd s p d) < phi n m rk s d := by
  have hown := own_lt o hb h f hp hs
  refine sm_lt (p := p) (fun r hr => ?_) hp hown
  by_cases e : r = p
  · subst e
    exact Nat.le_of_lt hown
  · unfold ph1
    rw [stp_oth hs r e]
    split
    · have key : cn m s' r + (nd s p d r).toNat ≤ cn m s r + (d r).toNat := by
        unfold nd
        by_cases hc : (s.p p).ph = .link1 ∨ (s.p p).ph = .un1
        · rw [if_pos hc, if_neg e]
          have := cn_drop hp hs hc e
          show _ + 1 ≤ _
          omega
        · rw [if_neg hc, if_neg (fun k => e k.1)]
          have := cn_le (m := m) hs r
          omega
      have := Nat.mul_le_mul_right (n + 5) key
      omega
    · exact Nat.le_refl _
/-- How many processes are at work. -/
def bz (m : Nat) (s : St) : Nat := sm (fun q => if act (s.p q) = true then 1 else 0) m
theorem can_act {x : Pr} (h : can x = true) : act x = true := by
  unfold can at h
  unfold act
  cases e : x.ph <;> simp [e] at h ⊢
theorem cn_bz {s : St} {p : Nat} (hp : p < m) (ha : act (s.p p) = true) : cn m s p < bz m s := by
  refine sm_lt (p := p) (fun q _ => ?_) hp ?_
  · split
    · rename_i k
      rw [if_pos (can_act k.2)]
      exact Nat.le_refl _
    · exact Nat.zero_le _
  · rw [if_neg (fun k => k.1 rfl), if_pos ha]
    omega
theorem ps_le (hb : ∀ i, i < n → rk i < n) {s : St} {K : Nat → Prop} (h : Ivt n m rk s K) {p : Nat} (hp : p < m) (o : Odr n rk) : ps rk (s.p p) ≤ n + 8 := by
  have hi := h.pi p hp
  have h2 := o.two
  unfold PI at hi
  unfold ps
  cases e : (s.p p).ph <;> simp only [e] at hi ⊢ <;> try omega
  have := hb _ hi.2.1
  omega
/-- The steps left are at most Bound. -/
theorem phi_bound {s : St} {K : Nat → Prop} (o : Odr n rk) (hb : ∀ i, i < n → rk i < n) (h : Ivt n m rk s K) (d : Nat → Bool) : phi n m rk s d ≤ bz m s * ((bz m s + 1) * (n + 5) + 6) := by
  unfold phi
  refine Nat.le_trans (sm_le (g := fun q => (if act (s.p q) = true then 1 else 0) * ((bz m s + 1) * (n + 5) + 6)) fun q hq => ?_) ?_
  · unfold ph1
    split
    · rename_i ha
      have h1 := cn_bz hq ha
      have h2 := ps_le hb h hq o
      have h3 : (d q).toNat ≤ 1 := by cases d q <;> simp
      have h4 := Nat.mul_le_mul_right (n + 5) (show cn m s q + (d q).toNat ≤ bz m s by omega)
      have h5 : (bz m s + 1) * (n + 5) = bz m s * (n + 5) + (n + 5) := by rw [Nat.add_mul, Nat.one_mul]
      rw [Nat.one_mul, h5]
      omega
    · exact Nat.zero_le _
  · rw [sm_const]
    exact Nat.le_refl _
/-- None is at work just if nothing is left. -/
theorem bz_zero {s : St} : bz m s = 0 ↔ ∀ p, p < m → act (s.p p) = false := by
  constructor
  · intro h p hp
    cases e : act (s.p p)
    · rfl
    · have : 0 < bz m s := by
        have := sm_lt (f := fun _ => 0) (g := fun q => if act (s.p q) = true then 1 else 0) (p := p) (k := m) (fun _ _ => Nat.zero_le _) hp (by simp [e])
        exact Nat.lt_of_le_of_lt (Nat.zero_le _) this
      omega
  · intro h
    have : bz m s ≤ sm (fun _ => 0) m := sm_le fun q hq => by rw [h q hq]; simp
    have h0 : ∀ k, sm (fun _ => 0) k = 0 := fun k => by
      induction k with
      | zero => rfl
      | succ k ih => unfold sm; rw [ih]
    rw [h0] at this
    omega
end Lk
end Go.Proofs.YtmhbloefmknikaaGreatDoor
