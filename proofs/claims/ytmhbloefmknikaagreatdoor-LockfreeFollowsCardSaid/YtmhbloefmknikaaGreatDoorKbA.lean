/-
  Words on slices of bytes: one that is read, one that the call made and appends to. No condition.
-/
import Derived.Test.YtmhbloefmknikaaGreatDoorKwT
import Derived.OwnWalk
import Derived.Maps.AppendAt
import Derived.Deep.AppendLies
import Derived.Laws.BytesArg
import Derived.Laws.IdiomStrings
import Derived.Lib.AppendStr
namespace Go.Proofs.YtmhbloefmknikaaGreatDoor
open Go.RowKit

/-- Bytes as cells. -/
def bv (l : List UInt8) : List Value := l.map fun c => Value.int .u8 (c.toNat : Int)
theorem bv_at (l : List UInt8) (i : Nat) : (bv l)[i]? = l[i]?.map fun c => Value.int .u8 (c.toNat : Int) := by simp [bv]
theorem bv_get {l : List UInt8} {i : Nat} (h : i < l.length) : (bv l)[i]? = some (.int .u8 (l[i].toNat : Int)) := by rw [bv_at, List.getElem?_eq_getElem h]; rfl
theorem add_at (G o j : Nat) : (⟨G, o, none⟩ : Addr).add j = ⟨G, o + j, none⟩ := by unfold Addr.add; split <;> simp_all

/-- A slice of bytes below block B, as it is read. -/
def Bys (w : World) (B : Nat) (A : Option Addr) (l : List UInt8) : Prop :=
  l ≠ [] → ∃ b o, A = some ⟨b, o, none⟩ ∧ b < B ∧ ∀ i (h : i < l.length), w.cell? ⟨b, o + i, none⟩ = some (.int .u8 (l[i].toNat : Int))
section
variable {w w' : World} {B B' : Nat} {A : Option Addr} {l : List UInt8}
theorem Bys.nil (A : Option Addr) : Bys w B A [] := fun h => absurd rfl h
theorem Bys.keep (h : Bys w B A l) (k : ∀ i, i < B → w'.heap[i]? = w.heap[i]?) : Bys w' B A l := fun hn => by
  obtain ⟨b, o, e, hb, hc⟩ := h hn
  exact ⟨b, o, e, hb, fun i hi => (World.cell?_of_block (k b hb)).trans (hc i hi)⟩
theorem Bys.below (h : Bys w B A l) (k : Below B w w') : Bys w' B A l := h.keep k.block
theorem Bys.at_ (h : Bys w B A l) {i : Nat} (hi : i < l.length) : ∃ b o, A = some ⟨b, o, none⟩ ∧ b < B ∧ w.cell? ⟨b, o + i, none⟩ = some (.int .u8 (l[i].toNat : Int)) := by
  obtain ⟨b, o, e, hb, hc⟩ := h (by intro e; rw [e] at hi; simp at hi)
  exact ⟨b, o, e, hb, hc i hi⟩
/-- A part of it. -/
theorem Bys.cut (h : Bys w B A l) {k cap : Nat} (hc : l.length ≤ cap) : Bys w B (if cap = k then A else A.map (·.add k)) (l.drop k) := fun hn => by
  have hk : k < l.length := by
    rcases Nat.lt_or_ge k l.length with h1 | h1
    · exact h1
    · exact absurd (List.drop_eq_nil_of_le h1) hn
  obtain ⟨b, o, rfl, hb, hcell⟩ := h (by intro e; rw [e] at hk; simp at hk)
  rw [if_neg (by omega)]
  refine ⟨b, o + k, by simp [add_at], hb, fun i hi => ?_⟩
  have hi' : k + i < l.length := by rw [List.length_drop] at hi; omega
  rw [Nat.add_assoc, hcell (k + i) hi', List.getElem_drop]
theorem Bys.take (h : Bys w B A l) (k : Nat) : Bys w B A (l.take k) := fun hn => by
  obtain ⟨b, o, e, hb, hcell⟩ := h (by rintro rfl; simp at hn)
  refine ⟨b, o, e, hb, fun i hi => ?_⟩
  rw [List.length_take] at hi
  rw [hcell i (by omega), List.getElem_take]
theorem Bys.drewN (h : Bys w B A l) (n : Nat) : Bys (w.drewN n) B A l := h
end

/-- A row of bytes of the call's own, from block base on. -/
def OwnB (w : World) (base : Nat) (v : Value) (l : List UInt8) : Prop := w.ownsRow base 5 1 v l.length (bv l)
/-- From v to v' by appends: of what was there only v's block has turned, and v' lies there or in a new block. -/
def Push (w : World) (v : Value) (w' : World) (v' : Value) : Prop := w.grownBy w' v.ownBlock ∧ (v'.ownBlock = v.ownBlock ∨ ∃ g, v'.ownBlock = some g ∧ w.heap.size ≤ g)
section
variable {w w' w1 : World} {base : Nat} {v v' v1 : Value} {l : List UInt8}
theorem OwnB.nil (w : World) (base : Nat) : OwnB w base (.slice none 0 0) [] := World.ownsRow_nil _ _ _ _
theorem OwnB.below (h : OwnB w base v l) (k : Below w.heap.size w w') : OwnB w' base v l := by
  obtain ⟨h1, h2 | ⟨g, cap, cur, h3, h4, h5, h6⟩⟩ := h
  · exact ⟨h1, .inl h2⟩
  · exact ⟨h1, .inr ⟨g, cap, cur, h3, h4, (k.block g (Has.lt h5)).trans h5, h6⟩⟩
theorem OwnB.alloc (h : OwnB w base v l) (o : Obj) : OwnB (w.alloc o) base v l := h.below ((Below.refl _ _).alloc (Nat.le_refl _) o)
theorem OwnB.base_le (h : OwnB w base v l) {g : Nat} (hg : v.ownBlock = some g) : base ≤ g ∧ g < w.heap.size := by
  obtain ⟨_, ⟨rfl, _⟩ | ⟨g', cap', cur, rfl, h4, h5, _⟩⟩ := h
  · cases hg
  · cases hg; exact ⟨h4, Has.lt h5⟩
theorem OwnB.less (h : OwnB w base v l) {b : Nat} (hb : b ≤ base) : OwnB w b v l := by
  obtain ⟨h1, h2 | ⟨g, cap, cur, h3, h4, h5⟩⟩ := h
  · exact ⟨h1, .inl h2⟩
  · exact ⟨h1, .inr ⟨g, cap, cur, h3, by omega, h5⟩⟩
theorem OwnB.read (h : OwnB w base v l) : ∃ A c, v = .slice A l.length c ∧ l.length ≤ c ∧ c ≤ maxLen ∧ Bys w w.heap.size A l := by
  obtain ⟨h1, ⟨rfl, h2⟩ | ⟨g, cap, cur, rfl, h4, h5, h6, h7, h8, h9⟩⟩ := h
  · have hl : l = [] := List.eq_nil_of_length_eq_zero h2
    subst hl
    exact ⟨none, 0, rfl, Nat.le_refl _, by unfold maxLen; omega, Bys.nil _⟩
  · refine ⟨_, cap, rfl, h6, h7, fun _ => ⟨g, 0, rfl, Has.lt h5, fun i hi => ?_⟩⟩
    rw [Nat.zero_add, Has.cell h5, ← Array.getElem?_toList]
    have h10 : (cur.toList.take (l.length * 1))[i]? = some (.int .u8 (l[i].toNat : Int)) := by rw [h9]; exact bv_get hi
    rw [List.getElem?_take_of_lt (by omega)] at h10
    exact h10
theorem Push.refl (w : World) (v : Value) : Push w v w v := ⟨World.grownBy.refl w _, .inl rfl⟩
theorem Push.trans (h : Push w v w1 v1) (k : Push w1 v1 w' v') : Push w v w' v' := by
  obtain ⟨hg, hl⟩ := h
  obtain ⟨kg, kl⟩ := k
  refine ⟨⟨kg.os.trans hg.os, kg.tape.trans hg.tape, kg.output.trans hg.output, Nat.le_trans hg.size kg.size, fun i hi hne => ?_⟩, ?_⟩
  · refine (kg.block i (Nat.lt_of_lt_of_le hi hg.size) ?_).trans (hg.block i hi hne)
    rcases hl with e | ⟨g, e, hge⟩
    · rw [e]; exact hne
    · rw [e]; intro e2; have := Option.some.inj e2; omega
  · rcases kl with e | ⟨g, e, hge⟩
    · rcases hl with e2 | ⟨g2, e2, hge2⟩
      · exact .inl (e.trans e2)
      · exact .inr ⟨g2, e.trans e2, hge2⟩
    · exact .inr ⟨g, e, Nat.le_trans hg.size hge⟩
theorem Push.pre (k : Below w.heap.size w w1) (h : Push w1 v w' v') : Push w v w' v' := by
  obtain ⟨hg, hl⟩ := h
  refine ⟨⟨hg.os.trans k.os, hg.tape.trans k.tape, hg.output.trans k.output, Nat.le_trans k.size hg.size, fun i hi hne => (hg.block i (Nat.lt_of_lt_of_le hi k.size) hne).trans (k.block i hi)⟩, ?_⟩
  rcases hl with e | ⟨g, e, hge⟩
  · exact .inl e
  · exact .inr ⟨g, e, Nat.le_trans k.size hge⟩
theorem Push.post (h : Push w v w1 v') (k : Below w1.heap.size w1 w') : Push w v w' v' := by
  obtain ⟨hg, hl⟩ := h
  refine ⟨⟨k.os.trans hg.os, k.tape.trans hg.tape, k.output.trans hg.output, Nat.le_trans hg.size k.size, fun i hi hne => (k.block i (Nat.lt_of_lt_of_le hi hg.size)).trans (hg.block i hi hne)⟩, hl⟩
/-- What lies below base is as it was. -/
theorem Push.below (h : Push w v w' v') (ho : OwnB w base v l) (_hb : base ≤ w.heap.size) : Below base w w' :=
  ⟨h.1.os, h.1.tape, h.1.output, h.1.size, fun i hi => h.1.block i (by omega) (fun e => by
    have := (ho.base_le e.symm).1
    omega)⟩
end

end Go.Proofs.YtmhbloefmknikaaGreatDoor
