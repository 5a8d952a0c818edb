/-
  Plain facts on bounds and ranges of keys: their order, and what intersections, hulls, differences and unions contain. No condition.
  Words on worlds: what was there is as it was, and named blocks hold named cells; and plain words on ranges. No condition.
-/
import Derived.WalkKit
import Derived.WalkSpells
import Derived.WalkLawsBesides
namespace Go.Proofs.YtmhbloefmknikaaGreatDoor
section
open Go.RowKit

theorem bl_eq : ∀ (x y : List UInt8), Op.bytesLess x y = decide (x < y)
  | [], [] => by simp [Op.bytesLess]
  | _ :: _, [] => by simp [Op.bytesLess]
  | [], _ :: _ => by simp [Op.bytesLess]
  | a :: x, b :: y => by
    unfold Op.bytesLess
    rw [bl_eq x y]
    rw [Bool.eq_iff_iff]
    simp [List.cons_lt_cons_iff]

theorem toList_data (s : ByteArray) : s.toList = s.data.toList := by
  obtain ⟨⟨l⟩⟩ := s
  exact ByteArray.toList_mk l

theorem toList_inj {a b : ByteArray} (h : a.toList = b.toList) : a = b := by
  rw [toList_data, toList_data] at h
  obtain ⟨⟨x⟩⟩ := a
  obtain ⟨⟨y⟩⟩ := b
  simp at h
  rw [h]

/-- The strings' order. -/
def kl (a b : ByteArray) : Bool := Op.bytesLess a.toList b.toList

theorem kl_iff (a b : ByteArray) : kl a b = true ↔ a.toList < b.toList := by unfold kl; rw [bl_eq]; simp
theorem kl_false (a b : ByteArray) : kl a b = false ↔ b.toList ≤ a.toList := by
  rw [← List.not_lt, ← kl_iff]; simp
theorem kl_irrefl (a : ByteArray) : kl a a = false := (kl_false a a).2 (List.le_refl _)
theorem kl_trans {a b c : ByteArray} (h : kl a b = true) (k : kl b c = true) : kl a c = true := by
  rw [kl_iff] at *; exact List.lt_trans h k
theorem kl_tri {a b : ByteArray} (h : kl a b = false) (k : kl b a = false) : a = b := by
  rw [kl_false] at *; exact toList_inj (List.le_antisymm k h)

/-- A bound of the key space, as the program holds it. -/
structure Bd where
  key : ByteArray
  top : Bool

/-- A range of keys. -/
structure Rg where
  lo : Bd
  hi : Bd

abbrev Bd.val (b : Bd) : Value := .agg #[.string b.key, .bool b.top]
abbrev Rg.val (r : Rg) : Value := .agg #[.string r.lo.key, .bool r.lo.top, .string r.hi.key, .bool r.hi.top]

/-- What Compare answers. -/
def Bd.cmp (a b : Bd) : Int :=
  if a.top then (if b.top then 0 else 1) else if b.top then -1 else if kl a.key b.key then -1 else if kl b.key a.key then 1 else 0

theorem ret_int {k : IntKind} {a b : Int} (h : a = b) : Ending.returned (.int k a) = .returned (.int k b) := by rw [h]
theorem ret_bool {a b : Bool} (h : a = b) : Ending.returned (.bool a) = .returned (.bool b) := by rw [h]

/-- What ValidKey and ValidBound answer. -/
def vk (k : ByteArray) : Bool := decide (k.size ≤ 64)
def Bd.ok (b : Bd) : Bool := if b.top then b.key.toList.isEmpty else vk b.key

def Rg.ok (r : Rg) : Bool := r.lo.ok && r.hi.ok && decide (r.lo.cmp r.hi ≤ 0)
def Rg.emp (r : Rg) : Bool := !r.ok || (r.lo.cmp r.hi == 0)

def Rg.has (r : Rg) (k : ByteArray) : Bool := !r.emp && vk k && decide (r.lo.cmp ⟨k, false⟩ ≤ 0) && decide (Bd.cmp ⟨k, false⟩ r.hi < 0)

end
section
open Go.RowKit

/-- Block b is just these cells. -/
def Has (w : World) (b : Nat) (t : TypeId) (cs : Array Value) : Prop := w.heap[b]? = some (.cells cs t (0, 0))

/-- What was there before w is as it was, and these blocks are just these cells. -/
def Inv (w : World) (l : List (Nat × TypeId × Array Value)) (w' : World) : Prop := Below w.heap.size w w' ∧ ∀ p ∈ l, Has w' p.1 p.2.1 p.2.2

section
variable {w a b : World} {l : List (Nat × TypeId × Array Value)} {g : Nat} {t : TypeId} {cs : Array Value}
theorem Has.lt (h : Has w g t cs) : g < w.heap.size := by
  unfold Has at h
  rcases Nat.lt_or_ge g w.heap.size with hlt | hge
  · exact hlt
  · rw [Array.getElem?_eq_none hge] at h; cases h
theorem Has.cell (h : Has w g t cs) (o : Nat) : w.cell? ⟨g, o, none⟩ = cs[o]? := cell_of_row w g o cs t (0, 0) h
theorem Has.frozen (h : Has w g t cs) (o : Nat) : w.frozen? ⟨g, o, none⟩ = false := by unfold Has at h; simp [World.frozen?, h]
theorem Has.new (w : World) (t : TypeId) (cs : Array Value) : Has (w.alloc (.cells cs t)) w.heap.size t cs := heap_alloc_new w _
theorem Has.alloc (h : Has w g t cs) (o : Obj) : Has (w.alloc o) g t cs := (Below.heap_alloc w o g h.lt).trans h
theorem Has.below (h : Has a g t cs) (k : Below a.heap.size a b) : Has b g t cs := (k.block g h.lt).trans h
theorem Has.far (h : Has w g t cs) {p : Addr} (hp : g ≠ p.block) (u : Value) : Has (w.setCell p u) g t cs := (Below.heap_setCell w p u g hp).trans h
theorem Has.set_ (h : Has w g t cs) (i : Nat) (u : Value) : Has (w.setCell ⟨g, i, none⟩ u) g t (cs.setIfInBounds i u) := by
  unfold Has at h ⊢
  simp [World.setCell, Array.getElem?_modify, h]
theorem Inv.below (h : Inv w l a) (k : Below a.heap.size a b) : Inv w l b := ⟨h.1.trans (k.mono h.1.size), fun p hp => (h.2 p hp).below k⟩
theorem Inv.drewN (h : Inv w l a) (n : Nat) : Inv w l (a.drewN n) := ⟨⟨h.1.os, h.1.tape, h.1.output, h.1.size, h.1.block⟩, h.2⟩
theorem Inv.drew (h : Inv w l a) : Inv w l a.drew := ⟨h.1.drew, h.2⟩
theorem Inv.nil (w : World) : Inv w [] w := ⟨Below.refl _ _, fun _ h => by cases h⟩
theorem Inv.add (h : Inv w l a) (t : TypeId) (cs : Array Value) : Inv w ((a.heap.size, t, cs) :: l) (a.alloc (.cells cs t)) :=
  ⟨h.1.alloc h.1.size _, fun p hp => by
    rcases List.mem_cons.1 hp with rfl | hp
    · exact Has.new a t cs
    · exact (h.2 p hp).alloc _⟩
theorem Inv.alloc (h : Inv w l a) (o : Obj) : Inv w l (a.alloc o) := ⟨h.1.alloc h.1.size _, fun p hp => (h.2 p hp).alloc _⟩
theorem Inv.less {l' : List (Nat × TypeId × Array Value)} (h : Inv w l a) (k : ∀ p ∈ l', p ∈ l) : Inv w l' a := ⟨h.1, fun p hp => h.2 p (k p hp)⟩
theorem Inv.set {p : Addr} (h : Inv w l a) (hp : w.heap.size ≤ p.block) (hne : ∀ q ∈ l, q.1 ≠ p.block) (u : Value) : Inv w l (a.setCell p u) :=
  ⟨h.1.setCell hp u, fun q hq => (h.2 q hq).far (hne q hq) u⟩
theorem Inv.cell (h : Inv w l a) (hm : (g, t, cs) ∈ l) (o : Nat) : a.cell? ⟨g, o, none⟩ = cs[o]? := (h.2 _ hm).cell o
theorem Inv.frozen (h : Inv w l a) (hm : (g, t, cs) ∈ l) (o : Nat) : a.frozen? ⟨g, o, none⟩ = false := (h.2 _ hm).frozen o
theorem Inv.hd {p : Nat × TypeId × Array Value} (h : Inv w (p :: l) a) : (∀ o, a.cell? ⟨p.1, o, none⟩ = p.2.2[o]?) ∧ (∀ o, a.frozen? ⟨p.1, o, none⟩ = false) :=
  ⟨fun o => (h.2 p (.head _)).cell o, fun o => (h.2 p (.head _)).frozen o⟩
end

def Rg.zero : Rg := ⟨⟨ByteArray.empty, false⟩, ⟨ByteArray.empty, false⟩⟩
end
end Go.Proofs.YtmhbloefmknikaaGreatDoor
