/-
  Plain facts on bounds and ranges of keys: their order, and what intersections, hulls, differences and unions contain. No condition.
  Words on worlds: what was there is as it was, and named blocks hold named cells; and plain words on ranges. No condition.
-/
import Derived.WalkKit
import Derived.WalkSpells
import Derived.WalkLawsBesides
namespace Go.Proofs.YtmhbloefmknikaaGreatDoor
section
open Go.RowKit

theorem bl_eq : ∀ (x y : List UInt8), Op.bytesLess x y = decide (x < y)
  | [], [] => by simp [Op.bytesLess]
  | _ :: _, [] => by simp [Op.bytesLess]
  | [], _ :: _ => by simp [Op.bytesLess]
  | a :: x, b :: y => by
    unfold Op.bytesLess
    rw [bl_eq x y]
    rw [Bool.eq_iff_iff]
    simp [List.cons_lt_cons_iff]

theorem toList_data (s : ByteArray) : s.toList = s.data.toList := by
  obtain ⟨⟨l⟩⟩ := s
  exact ByteArray.toList_mk l

theorem toList_inj {a b : ByteArray} (h : a.toList = b.toList) : a = b := by
  rw [toList_data, toList_data] at h
  obtain ⟨⟨x⟩⟩ := a
  obtain ⟨⟨y⟩⟩ := b
  simp at h
  rw [h]

/-- The strings' order. -/
def kl (a b : ByteArray) : Bool := Op.bytesLess a.toList b.toList

theorem kl_iff (a b : ByteArray) : kl a b = true ↔ a.toList < b.toList := by unfold kl; rw [bl_eq]; simp
theorem kl_false (a b : ByteArray) : kl a b = false ↔ b.toList ≤ a.toList := by
  rw [← List.not_lt, ← kl_iff]; simp
theorem kl_irrefl (a : ByteArray) : kl a a = false := (kl_false a a).2 (List.le_refl _)
theorem kl_trans {a b c : ByteArray} (h : kl a b = true) (k : kl b c = true) : kl a c = true := by
  rw [kl_iff] at *; exact List.lt_trans h k
theorem kl_asymm {a b : ByteArray} (h : kl a b = true) : kl b a = false := by
  rw [kl_iff] at h; rw [kl_false]; exact List.le_of_lt h
theorem kl_tri {a b : ByteArray} (h : kl a b = false) (k : kl b a = false) : a = b := by
  rw [kl_false] at *; exact toList_inj (List.le_antisymm k h)

/-- A bound of the key space, as the program holds it. -/
structure Bd where
  key : ByteArray
  top : Bool

/-- A range of keys. -/
structure Rg where
  lo : Bd
  hi : Bd

abbrev Bd.val (b : Bd) : Value := .agg #[.string b.key, .bool b.top]
abbrev Rg.val (r : Rg) : Value := .agg #[.string r.lo.key, .bool r.lo.top, .string r.hi.key, .bool r.hi.top]

/-- What Compare answers. -/
def Bd.cmp (a b : Bd) : Int :=
  if a.top then (if b.top then 0 else 1) else if b.top then -1 else if kl a.key b.key then -1 else if kl b.key a.key then 1 else 0

theorem cmp_lt {a b : ByteArray} (h : Op.bytesLess a.toList b.toList = true) : Bd.cmp ⟨a, false⟩ ⟨b, false⟩ = -1 := by
  have h' : kl a b = true := h
  simp [Bd.cmp, h']
theorem cmp_gt {a b : ByteArray} (h : Op.bytesLess a.toList b.toList = false) (k : (!a.toList == b.toList) = true) : Bd.cmp ⟨a, false⟩ ⟨b, false⟩ = 1 := by
  have h' : kl a b = false := h
  have k' : kl b a = true := by
    cases e : kl b a with
    | true => rfl
    | false =>
      rw [kl_tri h' e] at k
      simp at k
  simp [Bd.cmp, h', k']
theorem cmp_eq {a b : ByteArray} (h : Op.bytesLess a.toList b.toList = false) (k : (!a.toList == b.toList) = false) : Bd.cmp ⟨a, false⟩ ⟨b, false⟩ = 0 := by
  have e : a = b := toList_inj (by simpa using k)
  subst e
  have h' : kl a a = false := h
  simp [Bd.cmp, h']
theorem cmp_gt2 {a b : ByteArray} (h : (!Op.bytesLess a.toList b.toList) = true ∧ (!a.toList == b.toList) = true) : Bd.cmp ⟨a, false⟩ ⟨b, false⟩ = 1 := cmp_gt (by simpa using h.1) h.2
theorem cmp_eq2 {a b : ByteArray} (h : (!Op.bytesLess a.toList b.toList) = false ∨ (!a.toList == b.toList) = false) (k : Op.bytesLess a.toList b.toList = false) : Bd.cmp ⟨a, false⟩ ⟨b, false⟩ = 0 :=
  cmp_eq k (by simpa [k] using h)
theorem ret_int {k : IntKind} {a b : Int} (h : a = b) : Ending.returned (.int k a) = .returned (.int k b) := by rw [h]
theorem ret_bool {a b : Bool} (h : a = b) : Ending.returned (.bool a) = .returned (.bool b) := by rw [h]

/-- What ValidKey and ValidBound answer. -/
def vk (k : ByteArray) : Bool := decide (k.size ≤ 64)
def Bd.ok (b : Bd) : Bool := if b.top then b.key.toList.isEmpty else vk b.key

theorem vk_empty {k : ByteArray} (h : vk k = false) : k.toList.isEmpty = false := by
  cases e : k.toList.isEmpty with
  | false => rfl
  | true =>
    rw [toList_data, List.isEmpty_iff] at e
    have hs : k.size = 0 := by
      have : k.data.toList.length = 0 := by rw [e]; rfl
      exact this
    unfold vk at h
    rw [hs] at h
    cases h

def Rg.ok (r : Rg) : Bool := r.lo.ok && r.hi.ok && decide (r.lo.cmp r.hi ≤ 0)
def Rg.emp (r : Rg) : Bool := !r.ok || (r.lo.cmp r.hi == 0)

def Rg.has (r : Rg) (k : ByteArray) : Bool := !r.emp && vk k && decide (r.lo.cmp ⟨k, false⟩ ≤ 0) && decide (Bd.cmp ⟨k, false⟩ r.hi < 0)

/-- What was there reads as it did. -/
theorem bcell {W w1 : World} (hb : Below W.heap.size W w1) : (∀ b o, b < W.heap.size → w1.cell? ⟨b, o, none⟩ = W.cell? ⟨b, o, none⟩) ∧ (∀ b o, b < W.heap.size → w1.frozen? ⟨b, o, none⟩ = W.frozen? ⟨b, o, none⟩) :=
  ⟨fun b o h => hb.cell (p := ⟨b, o, none⟩) h, fun b o h => hb.frozen (p := ⟨b, o, none⟩) h⟩
end
section
open Go.RowKit

/-- Block b is just these cells. -/
def Has (w : World) (b : Nat) (t : TypeId) (cs : Array Value) : Prop := w.heap[b]? = some (.cells cs t (0, 0))

/-- What was there before w is as it was, and these blocks are just these cells. -/
def Inv (w : World) (l : List (Nat × TypeId × Array Value)) (w' : World) : Prop := Below w.heap.size w w' ∧ ∀ p ∈ l, Has w' p.1 p.2.1 p.2.2

section
variable {w a b : World} {l : List (Nat × TypeId × Array Value)} {g : Nat} {t : TypeId} {cs : Array Value}
theorem Has.lt (h : Has w g t cs) : g < w.heap.size := by
  unfold Has at h
  rcases Nat.lt_or_ge g w.heap.size with hlt | hge
  · exact hlt
  · rw [Array.getElem?_eq_none hge] at h; cases h
theorem Has.cell (h : Has w g t cs) (o : Nat) : w.cell? ⟨g, o, none⟩ = cs[o]? := cell_of_row w g o cs t (0, 0) h
theorem Has.frozen (h : Has w g t cs) (o : Nat) : w.frozen? ⟨g, o, none⟩ = false := by unfold Has at h; simp [World.frozen?, h]
theorem Has.new (w : World) (t : TypeId) (cs : Array Value) : Has (w.alloc (.cells cs t)) w.heap.size t cs := heap_alloc_new w _
theorem Has.alloc (h : Has w g t cs) (o : Obj) : Has (w.alloc o) g t cs := (Below.heap_alloc w o g h.lt).trans h
theorem Has.below (h : Has a g t cs) (k : Below a.heap.size a b) : Has b g t cs := (k.block g h.lt).trans h
theorem Has.far (h : Has w g t cs) {p : Addr} (hp : g ≠ p.block) (u : Value) : Has (w.setCell p u) g t cs := (Below.heap_setCell w p u g hp).trans h
theorem Has.set_ (h : Has w g t cs) (i : Nat) (u : Value) : Has (w.setCell ⟨g, i, none⟩ u) g t (cs.setIfInBounds i u) := by
  unfold Has at h ⊢
  simp [World.setCell, Array.getElem?_modify, h]
theorem Inv.below (h : Inv w l a) (k : Below a.heap.size a b) : Inv w l b := ⟨h.1.trans (k.mono h.1.size), fun p hp => (h.2 p hp).below k⟩
theorem Inv.drewN (h : Inv w l a) (n : Nat) : Inv w l (a.drewN n) := ⟨⟨h.1.os, h.1.tape, h.1.output, h.1.size, h.1.block⟩, h.2⟩
theorem Inv.drew (h : Inv w l a) : Inv w l a.drew := ⟨h.1.drew, h.2⟩
theorem Inv.nil (w : World) : Inv w [] w := ⟨Below.refl _ _, fun _ h => by cases h⟩
theorem Inv.add (h : Inv w l a) (t : TypeId) (cs : Array Value) : Inv w ((a.heap.size, t, cs) :: l) (a.alloc (.cells cs t)) :=
  ⟨h.1.alloc h.1.size _, fun p hp => by
    rcases List.mem_cons.1 hp with rfl | hp
    · exact Has.new a t cs
    · exact (h.2 p hp).alloc _⟩
theorem Inv.alloc (h : Inv w l a) (o : Obj) : Inv w l (a.alloc o) := ⟨h.1.alloc h.1.size _, fun p hp => (h.2 p hp).alloc _⟩
theorem Inv.less {l' : List (Nat × TypeId × Array Value)} (h : Inv w l a) (k : ∀ p ∈ l', p ∈ l) : Inv w l' a := ⟨h.1, fun p hp => h.2 p (k p hp)⟩
theorem Inv.set {p : Addr} (h : Inv w l a) (hp : w.heap.size ≤ p.block) (hne : ∀ q ∈ l, q.1 ≠ p.block) (u : Value) : Inv w l (a.setCell p u) :=
  ⟨h.1.setCell hp u, fun q hq => (h.2 q hq).far (hne q hq) u⟩
theorem Inv.cell (h : Inv w l a) (hm : (g, t, cs) ∈ l) (o : Nat) : a.cell? ⟨g, o, none⟩ = cs[o]? := (h.2 _ hm).cell o
theorem Inv.frozen (h : Inv w l a) (hm : (g, t, cs) ∈ l) (o : Nat) : a.frozen? ⟨g, o, none⟩ = false := (h.2 _ hm).frozen o
theorem Inv.hd {p : Nat × TypeId × Array Value} (h : Inv w (p :: l) a) : (∀ o, a.cell? ⟨p.1, o, none⟩ = p.2.2[o]?) ∧ (∀ o, a.frozen? ⟨p.1, o, none⟩ = false) :=
  ⟨fun o => (h.2 p (.head _)).cell o, fun o => (h.2 p (.head _)).frozen o⟩
theorem Inv.tl {p : Nat × TypeId × Array Value} (h : Inv w (p :: l) a) : Inv w l a := ⟨h.1, fun q hq => h.2 q (.tail _ hq)⟩
theorem Inv.put2 {x y u v : Value} (h : Inv w ((g, t, #[x, y]) :: l) a) (hb : w.heap.size ≤ g) (hne : ∀ q ∈ l, q.1 ≠ g) : Inv w ((g, t, #[u, v]) :: l) ((a.setCell ⟨g, 0, none⟩ u).setCell ⟨g, 1, none⟩ v) :=
  ⟨(h.1.setCell hb u).setCell hb v, fun q hq => by
    rcases List.mem_cons.1 hq with rfl | hq
    · exact ((h.2 _ (.head _)).set_ 0 u).set_ 1 v
    · exact ((h.2 q (.tail _ hq)).far (hne q hq) u).far (hne q hq) v⟩
end

/-- Block b is some four cells. -/
def Any4 (b : Nat) (t : TypeId) (w : World) : Prop := ∃ x0 x1 x2 x3 : Value, Has w b t #[x0, x1, x2, x3]

theorem held_below {w a c : World} {l : List (Nat × TypeId × Array Value)} {b : Nat} {t : TypeId} (h : Inv w l a ∧ Any4 b t a) (k : Below a.heap.size a c) : Inv w l c ∧ Any4 b t c := by
  obtain ⟨h1, x0, x1, x2, x3, h2⟩ := h
  exact ⟨h1.below k, x0, x1, x2, x3, h2.below k⟩
theorem held_set4 {w a : World} {l : List (Nat × TypeId × Array Value)} {b : Nat} {t : TypeId} (h : Inv w l a ∧ Any4 b t a) (hb : w.heap.size ≤ b) (hne : ∀ q ∈ l, q.1 ≠ b) (u0 u1 u2 u3 : Value) :
    Inv w l ((((a.setCell ⟨b, 0, none⟩ u0).setCell ⟨b, 1, none⟩ u1).setCell ⟨b, 2, none⟩ u2).setCell ⟨b, 3, none⟩ u3) ∧ Any4 b t ((((a.setCell ⟨b, 0, none⟩ u0).setCell ⟨b, 1, none⟩ u1).setCell ⟨b, 2, none⟩ u2).setCell ⟨b, 3, none⟩ u3) := by
  obtain ⟨h1, x0, x1, x2, x3, h2⟩ := h
  exact ⟨(((h1.set hb hne u0).set hb hne u1).set hb hne u2).set hb hne u3, u0, u1, u2, u3, (((h2.set_ 0 u0).set_ 1 u1).set_ 2 u2).set_ 3 u3⟩

/-- The lower and the higher one of two bounds, as each package takes them (they part only where bounds are equal as bounds). -/
def Bd.loK (a b : Bd) : Bd := if b.cmp a < 0 then b else a
def Bd.hiK (a b : Bd) : Bd := if 0 < b.cmp a then b else a
def Bd.loR (a b : Bd) : Bd := if a.cmp b ≤ 0 then a else b
def Bd.hiR (a b : Bd) : Bd := if 0 ≤ a.cmp b then a else b
def Rg.zero : Rg := ⟨⟨ByteArray.empty, false⟩, ⟨ByteArray.empty, false⟩⟩
def Rg.orZ (r : Rg) : Rg := if r.emp then Rg.zero else r

def Rg.intK (a b : Rg) : Rg := if a.emp || b.emp then Rg.zero else Rg.orZ ⟨a.lo.hiK b.lo, a.hi.loK b.hi⟩
def Rg.intR (a b : Rg) : Rg := if a.emp || b.emp then Rg.zero else Rg.orZ ⟨a.lo.hiR b.lo, a.hi.loR b.hi⟩
end
end Go.Proofs.YtmhbloefmknikaaGreatDoor
