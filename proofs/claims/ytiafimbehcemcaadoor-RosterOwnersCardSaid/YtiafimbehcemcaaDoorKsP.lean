/-
  Plain facts on bounds and ranges of keys: their order, and what intersections, hulls, differences and unions contain. No condition.
-/
import Derived.WalkKit
import Derived.WalkSpells
import Derived.WalkLawsBesides
namespace Go.Proofs.YtiafimbehcemcaaDoor
open Go.RowKit

theorem bl_eq : ∀ (x y : List UInt8), Op.bytesLess x y = decide (x < y)
  | [], [] => by simp [Op.bytesLess]
  | _ :: _, [] => by simp [Op.bytesLess]
  | [], _ :: _ => by simp [Op.bytesLess]
  | a :: x, b :: y => by
    unfold Op.bytesLess
    rw [bl_eq x y]
    rw [Bool.eq_iff_iff]
    simp [List.cons_lt_cons_iff]

theorem toList_data (s : ByteArray) : s.toList = s.data.toList := by
  obtain ⟨⟨l⟩⟩ := s
  exact ByteArray.toList_mk l

theorem toList_inj {a b : ByteArray} (h : a.toList = b.toList) : a = b := by
  rw [toList_data, toList_data] at h
  obtain ⟨⟨x⟩⟩ := a
  obtain ⟨⟨y⟩⟩ := b
  simp at h
  rw [h]

/-- The strings' order. -/
def kl (a b : ByteArray) : Bool := Op.bytesLess a.toList b.toList

theorem kl_iff (a b : ByteArray) : kl a b = true ↔ a.toList < b.toList := by unfold kl; rw [bl_eq]; simp
theorem kl_false (a b : ByteArray) : kl a b = false ↔ b.toList ≤ a.toList := by
  rw [← List.not_lt, ← kl_iff]; simp
theorem kl_irrefl (a : ByteArray) : kl a a = false := (kl_false a a).2 (List.le_refl _)
theorem kl_trans {a b c : ByteArray} (h : kl a b = true) (k : kl b c = true) : kl a c = true := by
  rw [kl_iff] at *; exact List.lt_trans h k
theorem kl_asymm {a b : ByteArray} (h : kl a b = true) : kl b a = false := by
  rw [kl_iff] at h; rw [kl_false]; exact List.le_of_lt h
theorem kl_tri {a b : ByteArray} (h : kl a b = false) (k : kl b a = false) : a = b := by
  rw [kl_false] at *; exact toList_inj (List.le_antisymm k h)

/-- A bound of the key space, as the program holds it. -/
structure Bd where
  key : ByteArray
  top : Bool

/-- A range of keys. -/
structure Rg where
  lo : Bd
  hi : Bd

abbrev Bd.val (b : Bd) : Value := .agg #[.string b.key, .bool b.top]
abbrev Rg.val (r : Rg) : Value := .agg #[.string r.lo.key, .bool r.lo.top, .string r.hi.key, .bool r.hi.top]

/-- What Compare answers. -/
def Bd.cmp (a b : Bd) : Int :=
  if a.top then (if b.top then 0 else 1) else if b.top then -1 else if kl a.key b.key then -1 else if kl b.key a.key then 1 else 0

theorem cmp_lt {a b : ByteArray} (h : Op.bytesLess a.toList b.toList = true) : Bd.cmp ⟨a, false⟩ ⟨b, false⟩ = -1 := by
  have h' : kl a b = true := h
  simp [Bd.cmp, h']
theorem cmp_gt {a b : ByteArray} (h : Op.bytesLess a.toList b.toList = false) (k : (!a.toList == b.toList) = true) : Bd.cmp ⟨a, false⟩ ⟨b, false⟩ = 1 := by
  have h' : kl a b = false := h
  have k' : kl b a = true := by
    cases e : kl b a with
    | true => rfl
    | false =>
      rw [kl_tri h' e] at k
      simp at k
  simp [Bd.cmp, h', k']
theorem cmp_eq {a b : ByteArray} (h : Op.bytesLess a.toList b.toList = false) (k : (!a.toList == b.toList) = false) : Bd.cmp ⟨a, false⟩ ⟨b, false⟩ = 0 := by
  have e : a = b := toList_inj (by simpa using k)
  subst e
  have h' : kl a a = false := h
  simp [Bd.cmp, h']
theorem cmp_gt2 {a b : ByteArray} (h : (!Op.bytesLess a.toList b.toList) = true ∧ (!a.toList == b.toList) = true) : Bd.cmp ⟨a, false⟩ ⟨b, false⟩ = 1 := cmp_gt (by simpa using h.1) h.2
theorem cmp_eq2 {a b : ByteArray} (h : (!Op.bytesLess a.toList b.toList) = false ∨ (!a.toList == b.toList) = false) (k : Op.bytesLess a.toList b.toList = false) : Bd.cmp ⟨a, false⟩ ⟨b, false⟩ = 0 :=
  cmp_eq k (by simpa [k] using h)
theorem ret_int {k : IntKind} {a b : Int} (h : a = b) : Ending.returned (.int k a) = .returned (.int k b) := by rw [h]
theorem ret_bool {a b : Bool} (h : a = b) : Ending.returned (.bool a) = .returned (.bool b) := by rw [h]

/-- What ValidKey and ValidBound answer. -/
def vk (k : ByteArray) : Bool := decide (k.size ≤ 64)
def Bd.ok (b : Bd) : Bool := if b.top then b.key.toList.isEmpty else vk b.key

theorem vk_empty {k : ByteArray} (h : vk k = false) : k.toList.isEmpty = false := by
  cases e : k.toList.isEmpty with
  | false => rfl
  | true =>
    rw [toList_data, List.isEmpty_iff] at e
    have hs : k.size = 0 := by
      have : k.data.toList.length = 0 := by rw [e]; rfl
      exact this
    unfold vk at h
    rw [hs] at h
    cases h

def Rg.ok (r : Rg) : Bool := r.lo.ok && r.hi.ok && decide (r.lo.cmp r.hi ≤ 0)
def Rg.emp (r : Rg) : Bool := !r.ok || (r.lo.cmp r.hi == 0)

def Rg.has (r : Rg) (k : ByteArray) : Bool := !r.emp && vk k && decide (r.lo.cmp ⟨k, false⟩ ≤ 0) && decide (Bd.cmp ⟨k, false⟩ r.hi < 0)

/-- What was there reads as it did. -/
theorem bcell {W w1 : World} (hb : Below W.heap.size W w1) : (∀ b o, b < W.heap.size → w1.cell? ⟨b, o, none⟩ = W.cell? ⟨b, o, none⟩) ∧ (∀ b o, b < W.heap.size → w1.frozen? ⟨b, o, none⟩ = W.frozen? ⟨b, o, none⟩) :=
  ⟨fun b o h => hb.cell (p := ⟨b, o, none⟩) h, fun b o h => hb.frozen (p := ⟨b, o, none⟩) h⟩

end Go.Proofs.YtiafimbehcemcaaDoor
