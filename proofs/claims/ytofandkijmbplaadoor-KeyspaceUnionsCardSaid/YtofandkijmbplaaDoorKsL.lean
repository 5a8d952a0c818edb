/-
  Words that the walks of the laws share: a tape beside named blocks.
-/
import Derived.Test.YtofandkijmbplaaDoorKsT
import Derived.Test.YtofandkijmbplaaDoorKsS
namespace Go.Proofs.YtofandkijmbplaaDoor
open Go.RowKit

/-- What a law's walk ends in. -/
def LawP (w : World) (e : Ending) (w' : World) : Prop := e = .returned (.bool true) ∧ Below w.heap.size w w'

theorem Inv.grown {w a b : World} {l : List (Nat × TypeId × Array Value)} {g : Nat} (h : Inv w l a) (k : a.grownBy b (some g)) (hg : w.heap.size ≤ g) (hne : ∀ q ∈ l, q.1 ≠ g) : Inv w l b :=
  ⟨h.1.grown k h.1.size (fun i e => by cases e; exact hg), fun q hq => by
    have hq' := h.2 q hq
    exact (k.block q.1 hq'.lt (fun e => hne q hq (Option.some.inj e))).trans hq'⟩
theorem Nums.more {w : World} {B B' n : Nat} {A : Option Addr} (h : Nums w B A n) (hB : B ≤ B') : Nums w B' A n := fun hn => by
  obtain ⟨b, o, e, hb, hc⟩ := h hn
  exact ⟨b, o, e, by omega, hc⟩
/-- The four cells at the head of block b are the range x. -/
def Cel (w : World) (b : Nat) (x : Rg) : Prop := b < w.heap.size ∧ w.cell? ⟨b, 0, none⟩ = some (.string x.lo.key) ∧ w.cell? ⟨b, 1, none⟩ = some (.bool x.lo.top) ∧ w.cell? ⟨b, 2, none⟩ = some (.string x.hi.key) ∧ w.cell? ⟨b, 3, none⟩ = some (.bool x.hi.top)
theorem Cel.below {w w' : World} {b : Nat} {x : Rg} (h : Cel w b x) (k : Below w.heap.size w w') : Cel w' b x :=
  ⟨Nat.lt_of_lt_of_le h.1 k.size, (k.cell (p := ⟨b, 0, none⟩) h.1).trans h.2.1, (k.cell (p := ⟨b, 1, none⟩) h.1).trans h.2.2.1, (k.cell (p := ⟨b, 2, none⟩) h.1).trans h.2.2.2.1, (k.cell (p := ⟨b, 3, none⟩) h.1).trans h.2.2.2.2⟩
/-- Blocks w, beside the tape g. -/
def At (w : World) (l : List (Nat × TypeId × Array Value)) (g : Nat) (w' : World) : Prop := Inv w l w' ∧ Tape w' g
section
variable {w a b : World} {l : List (Nat × TypeId × Array Value)} {g : Nat}
theorem At.below (h : At w l g a) (k : Below a.heap.size a b) : At w l g b := ⟨h.1.below k, h.2.below k⟩
theorem At.step (h : At w l g a) (k : TStep a g b) (hg : w.heap.size ≤ g) (hne : ∀ q ∈ l, q.1 ≠ g) : At w l g b := ⟨h.1.grown k.2 hg hne, k.1⟩
theorem At.add (h : At w l g a) (t : TypeId) (cs : Array Value) : At w ((a.heap.size, t, cs) :: l) g (a.alloc (.cells cs t)) := ⟨h.1.add t cs, h.2.below ((Below.refl _ _).alloc (Nat.le_refl _) _)⟩
theorem At.tl {p : Nat × TypeId × Array Value} (h : At w (p :: l) g a) : At w l g a := ⟨h.1.tl, h.2⟩
theorem At.alloc (h : At w l g a) (o : Obj) : At w l g (a.alloc o) := h.below ((Below.refl _ _).alloc (Nat.le_refl _) o)
theorem At.setC {p : Addr} (h : At w l g a) (hp : w.heap.size ≤ p.block) (hg : g < p.block) (hne : ∀ q ∈ l, q.1 < p.block) (u : Value) : At w l g (a.setCell p u) := by
  obtain ⟨h1, hl, h0, A, n, c, q, k1, k2, hn, hb⟩ := h
  have hk : ∀ i, i ≠ p.block → (a.setCell p u).heap[i]? = a.heap[i]? := fun i hi => Below.heap_setCell a p u i hi
  exact ⟨h1.set hp (fun q hq => Nat.ne_of_lt (hne q hq)) u, hl.keep (hk _ (by omega)), h0, A, n, c, q, k1, k2, hn.keep (fun i hi => hk i (by omega)), (hk g (by omega)).trans hb⟩
theorem At.drew (h : At w l g a) : At w l g a.drew := ⟨h.1.drew, h.2.far fun _ _ => rfl⟩
end

end Go.Proofs.YtofandkijmbplaaDoor
