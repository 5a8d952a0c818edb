/-
  The list that several processes change with locks, as a plain state: every step keeps the invariant, some process can always step, at most Bound steps are left, where members change, what a search comes to. Conditions: the cells are ordered by a rank, the head first and the tail last.
-/
import Derived.Lib.Hide
set_option linter.unusedSimpArgs false
set_option linter.unusedVariables false
namespace Go.Proofs.YtmhbloefmknikaaGreatDoor
namespace Lk
/-- Phases of an operation. -/
inductive Ph where
  | idle | find | lockP | lockS | check | retry | link0 | link1 | link2 | lockN | un0 | un1 | un2 | rel | done
deriving DecidableEq, Inhabited
inductive Kd where
  | none | ins | rem | fnd
deriving DecidableEq, Inhabited
structure Cl where
  left : Nat
  right : Nat
  lock : Nat
  gone : Bool
deriving Inhabited
structure Pr where
  kind : Kd
  ph : Ph
  cell : Nat
  pred : Nat
  succ : Nat
  next : Nat
  res : Bool
deriving Inhabited
structure St where
  c : Nat → Cl
  p : Nat → Pr
def St.setC (s : St) (i : Nat) (x : Cl) : St := { s with c := fun j => if j = i then x else s.c j }
def St.setP (s : St) (i : Nat) (x : Pr) : St := { s with p := fun j => if j = i then x else s.p j }
def St.free (s : St) (p : Nat) : St := { s with c := fun j => if (s.c j).lock = p + 1 then { s.c j with lock := 0 } else s.c j }
/-- Which cells a process holds. -/
def holds (x : Pr) (i : Nat) : Prop :=
  x.kind ≠ .fnd ∧ x.ph ≠ .idle ∧ x.ph ≠ .find ∧ x.ph ≠ .lockP ∧ x.ph ≠ .done ∧
  (i = x.pred ∨ (i = x.succ ∧ x.ph ≠ .lockS) ∨ (i = x.next ∧ x.next ≠ 0 ∧ (x.ph = .un0 ∨ x.ph = .un1 ∨ x.ph = .un2 ∨ x.ph = .rel)))
variable (n m : Nat) (rk : Nat → Nat)
/-- What is known of a process. -/
def PI (s : St) (K : Nat → Prop) (x : Pr) : Prop :=
  let R := fun i => (s.c i).right
  match x.ph with
  | .idle => True
  | .done => True
  | .find => 2 ≤ x.cell ∧ x.cell < n ∧ x.kind ≠ .none ∧ x.pred < n ∧ x.succ < n ∧ rk x.pred < rk x.cell ∧ x.succ ≠ 0 ∧ (x.succ ≠ 1 → R x.succ ≠ 0) ∧ R x.pred ≠ 0
  | .lockP => 2 ≤ x.cell ∧ x.cell < n ∧ (x.kind = .ins ∨ x.kind = .rem) ∧ x.pred < n ∧ x.succ < n ∧ rk x.pred < rk x.cell ∧ rk x.cell ≤ rk x.succ ∧ (x.succ ≠ 1 → R x.succ ≠ 0) ∧ R x.pred ≠ 0
  | .lockS => 2 ≤ x.cell ∧ x.cell < n ∧ (x.kind = .ins ∨ x.kind = .rem) ∧ x.pred < n ∧ x.succ < n ∧ rk x.pred < rk x.cell ∧ rk x.cell ≤ rk x.succ ∧ (x.succ ≠ 1 → R x.succ ≠ 0) ∧ R x.pred ≠ 0
  | .check => 2 ≤ x.cell ∧ x.cell < n ∧ x.kind ≠ .none ∧ x.pred < n ∧ x.succ < n ∧ rk x.pred < rk x.cell ∧ rk x.cell ≤ rk x.succ ∧ (x.succ ≠ 1 → R x.succ ≠ 0) ∧ R x.pred ≠ 0
  | .retry => 2 ≤ x.cell ∧ x.cell < n ∧ (x.kind = .ins ∨ x.kind = .rem) ∧ x.pred < n ∧ x.succ < n
  | .link0 => 2 ≤ x.cell ∧ x.cell < n ∧ x.kind = .ins ∧ K x.pred ∧ K x.succ ∧ R x.pred = x.succ ∧ (s.c x.pred).gone = false ∧ rk x.pred < rk x.cell ∧ rk x.cell < rk x.succ
  | .link1 => 2 ≤ x.cell ∧ x.cell < n ∧ x.kind = .ins ∧ K x.pred ∧ K x.succ ∧ R x.pred = x.succ ∧ (s.c x.pred).gone = false ∧ rk x.pred < rk x.cell ∧ rk x.cell < rk x.succ ∧ R x.cell = x.succ ∧ (s.c x.cell).left = x.pred
  | .link2 => 2 ≤ x.cell ∧ x.cell < n ∧ x.kind = .ins ∧ K x.pred ∧ K x.cell ∧ R x.pred = x.cell ∧ R x.cell = x.succ ∧ rk x.pred < rk x.cell ∧ rk x.cell < rk x.succ
  | .lockN => 2 ≤ x.cell ∧ x.cell < n ∧ x.kind = .rem ∧ x.succ = x.cell ∧ K x.pred ∧ K x.cell ∧ R x.pred = x.cell ∧ (s.c x.pred).gone = false ∧ (s.c x.cell).gone = false ∧ rk x.pred < rk x.cell
  | .un0 => 2 ≤ x.cell ∧ x.cell < n ∧ x.kind = .rem ∧ x.succ = x.cell ∧ K x.pred ∧ K x.cell ∧ R x.pred = x.cell ∧ (s.c x.pred).gone = false ∧ (s.c x.cell).gone = false ∧ x.next = R x.cell ∧ rk x.pred < rk x.cell
  | .un1 => 2 ≤ x.cell ∧ x.cell < n ∧ x.kind = .rem ∧ x.succ = x.cell ∧ K x.pred ∧ K x.cell ∧ R x.pred = x.cell ∧ (s.c x.pred).gone = false ∧ (s.c x.cell).gone = true ∧ x.next = R x.cell ∧ rk x.pred < rk x.cell
  | .un2 => 2 ≤ x.cell ∧ x.cell < n ∧ x.kind = .rem ∧ x.succ = x.cell ∧ K x.pred ∧ R x.pred = x.next ∧ K x.next ∧ rk x.pred < rk x.cell
  | .rel => 2 ≤ x.cell ∧ x.cell < n ∧ (x.kind = .ins ∨ x.kind = .rem) ∧ x.pred < n ∧ x.succ < n ∧ x.next < n
/-- The order of the cells. -/
structure Odr : Prop where
  two : 2 ≤ n
  inj : ∀ a b, a < n → b < n → rk a = rk b → a = b
  fst : ∀ a, a < n → a ≠ 0 → rk 0 < rk a
  lst : ∀ a, a < n → a ≠ 1 → rk a < rk 1
/-- The invariant. -/
structure Ivt (s : St) (K : Nat → Prop) : Prop where
  k0 : K 0
  k1 : K 1
  kn : ∀ i, K i → i < n
  kR : ∀ i, K i → i ≠ 1 → K (s.c i).right ∧ rk i < rk (s.c i).right ∧ ∀ d, K d → rk i < rk d → rk (s.c i).right ≤ rk d
  g0 : (s.c 0).gone = false
  g1 : (s.c 1).gone = false
  gK : ∀ i, 2 ≤ i → i < n → (s.c i).gone = false → K i
  gU : ∀ i, K i → (s.c i).gone = true → ∃ p, p < m ∧ (s.p p).ph = .un1 ∧ (s.p p).cell = i
  lk : ∀ i, i < n → ∀ p, p < m → ((s.c i).lock = p + 1 ↔ holds (s.p p) i)
  lm : ∀ i, i < n → (s.c i).lock ≤ m
  rn : ∀ i, i < n → (s.c i).right < n
  rL : ∀ i, i < n → (s.c i).right ≠ 0 → rk i < rk (s.c i).right ∧ ((s.c i).right ≠ 1 → (s.c (s.c i).right).right ≠ 0)
  lf : ∀ i, K i → i ≠ 1 → (s.c (s.c i).right).left = i ∨ ∃ p, p < m ∧ (((s.p p).ph = .link2 ∧ (s.p p).cell = i ∧ (s.p p).succ = (s.c i).right) ∨ ((s.p p).ph = .un2 ∧ (s.p p).pred = i ∧ (s.p p).next = (s.c i).right))
  pi : ∀ p, p < m → PI n rk s K (s.p p)
  nx : ∀ p, p < m → (s.p p).next < n
  nz : ∀ p, p < m → (s.p p).next = 0 ∨ (s.p p).ph = .idle ∨ (s.p p).ph = .done ∨ (s.p p).ph = .un0 ∨ (s.p p).ph = .un1 ∨ (s.p p).ph = .un2 ∨ (s.p p).ph = .rel
variable {n m : Nat} {rk : Nat → Nat}
theorem St.setP_c (s : St) (i : Nat) (x : Pr) : (s.setP i x).c = s.c := rfl
theorem St.setP_p (s : St) (i : Nat) (x : Pr) (j : Nat) : (s.setP i x).p j = if j = i then x else s.p j := rfl
theorem St.setC_c (s : St) (i : Nat) (x : Cl) (j : Nat) : (s.setC i x).c j = if j = i then x else s.c j := rfl
theorem Ivt.pos {s : St} {K : Nat → Prop} (o : Odr n rk) (h : Ivt n m rk s K) {i j x : Nat} (hi : K i) (hj : K j) (h1 : i ≠ 1) (h2 : j ≠ 1) (a : rk i < rk x) (b : rk x < rk (s.c i).right) (c : rk j < rk x) (d : rk x < rk (s.c j).right) : i = j := by
  rcases Nat.lt_trichotomy (rk i) (rk j) with k | k | k
  · have := (h.kR i hi h1).2.2 j hj k
    omega
  · exact o.inj i j (h.kn i hi) (h.kn j hj) k
  · have := (h.kR j hj h2).2.2 i hi k
    omega
theorem Odr.ne1 (o : Odr n rk) {i x : Nat} (hx : x < n) (h : rk i < rk x) : i ≠ 1 := fun e => by
  subst e
  by_cases k : x = 1
  · subst k; omega
  · have := o.lst x hx k
    omega
/-! moments -/
/-- A cell is reached from another one by links to the right. -/
inductive Rc (rk : Nat → Nat) (R : Nat → Nat) : Nat → Nat → Prop
  | refl (a : Nat) : Rc rk R a a
  | step (a b : Nat) : rk a < rk (R a) → Rc rk R (R a) b → Rc rk R a b
/-! how many steps -/
def sm (f : Nat → Nat) : Nat → Nat
  | 0 => 0
  | k + 1 => sm f k + f k
def can (x : Pr) : Bool := match x.ph with
  | .idle => false
  | .done => false
  | .link2 => false
  | .un2 => false
  | .rel => false
  | _ => true
/-- How many others may still change it. -/
def cn (m : Nat) (s : St) (r : Nat) : Nat := sm (fun q => if q ≠ r ∧ can (s.p q) = true then 1 else 0) m
/-- What is left of this way through. -/
def ps (rk : Nat → Nat) (x : Pr) : Nat := match x.ph with
  | .idle => 0
  | .done => 0
  | .find => (rk x.cell - rk x.succ) + 9
  | .lockP => 8
  | .lockS => 7
  | .check => 6
  | .retry => 5
  | .lockN => 5
  | .link0 => 4
  | .un0 => 4
  | .link1 => 3
  | .un1 => 3
  | .link2 => 2
  | .un2 => 2
  | .rel => 1
end Lk
end Go.Proofs.YtmhbloefmknikaaGreatDoor
