/-
  Words that the walks of the laws share: a tape beside named blocks.
-/
import Derived.Test.YtmhbloefmknikaaGreatDoorKwT
namespace Go.Proofs.YtmhbloefmknikaaGreatDoor
open Go.RowKit

/-- What a law's walk ends in. -/
def LawP (w : World) (e : Ending) (w' : World) : Prop := e = .returned (.bool true) ∧ Below w.heap.size w w'

theorem Inv.grown {w a b : World} {l : List (Nat × TypeId × Array Value)} {g : Nat} (h : Inv w l a) (k : a.grownBy b (some g)) (hg : w.heap.size ≤ g) (hne : ∀ q ∈ l, q.1 ≠ g) : Inv w l b :=
  ⟨h.1.grown k h.1.size (fun i e => by cases e; exact hg), fun q hq => by
    have hq' := h.2 q hq
    exact (k.block q.1 hq'.lt (fun e => hne q hq (Option.some.inj e))).trans hq'⟩
/-- Blocks w, beside the tape g. -/
def At (w : World) (l : List (Nat × TypeId × Array Value)) (g : Nat) (w' : World) : Prop := Inv w l w' ∧ Tape w' g
section
variable {w a b : World} {l : List (Nat × TypeId × Array Value)} {g : Nat}
theorem At.below (h : At w l g a) (k : Below a.heap.size a b) : At w l g b := ⟨h.1.below k, h.2.below k⟩
theorem At.step (h : At w l g a) (k : TStep a g b) (hg : w.heap.size ≤ g) (hne : ∀ q ∈ l, q.1 ≠ g) : At w l g b := ⟨h.1.grown k.2 hg hne, k.1⟩
theorem At.add (h : At w l g a) (t : TypeId) (cs : Array Value) : At w ((a.heap.size, t, cs) :: l) g (a.alloc (.cells cs t)) := ⟨h.1.add t cs, h.2.below ((Below.refl _ _).alloc (Nat.le_refl _) _)⟩
theorem At.alloc (h : At w l g a) (o : Obj) : At w l g (a.alloc o) := h.below ((Below.refl _ _).alloc (Nat.le_refl _) o)
theorem At.setC {p : Addr} (h : At w l g a) (hp : w.heap.size ≤ p.block) (hg : g < p.block) (hne : ∀ q ∈ l, q.1 < p.block) (u : Value) : At w l g (a.setCell p u) := by
  obtain ⟨h1, A, n, c, q, k1, k2, hn, hb⟩ := h
  have hk : ∀ i, i ≠ p.block → (a.setCell p u).heap[i]? = a.heap[i]? := fun i hi => Below.heap_setCell a p u i hi
  exact ⟨h1.set hp (fun q hq => Nat.ne_of_lt (hne q hq)) u, A, n, c, q, k1, k2, hn.keep (fun i hi => hk i (by omega)), (hk g (by omega)).trans hb⟩
theorem At.drew (h : At w l g a) : At w l g a.drew := ⟨h.1.drew, h.2.far fun _ _ => rfl⟩
end

end Go.Proofs.YtmhbloefmknikaaGreatDoor
