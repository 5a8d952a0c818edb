/-
  A list copied, changed in place: copied, begin, find, lock, lockNext, unlock, decide and act of package locked. Conditions: the list is valid and may be changed in place.
  Steps of package locked in place: lock, lockNext, unlock, find and decide. Conditions: the list is valid and may be changed in place.
  Steps of package locked in place: lockNext, find and decide. Conditions: the list is valid and may be changed in place.
  decide of package locked, in place. Conditions: the list is valid and may be changed in place.
  What a step is, phase by phase: plain. No condition.
  act of package locked, phase by phase, in place. Conditions: the list is valid and may be changed in place.
-/
import Derived.Test.YtmhbloefmknikaaGreatDoorKzB
import Derived.Test.YtmhbloefmknikaaGreatDoorKzC
import Derived.Deep.RegionHeld3
import Derived.Deep.RegionLawGrows
import Derived.Deep.DeepCutAuto
import Derived.Deep.CutBlock
import Derived.BigQuiet
import Derived.BigRegion
import Derived.Deep.QuietTactic
namespace Go.Proofs.YtmhbloefmknikaaGreatDoor
section
open Go.RowKit Go.Maps
namespace Lk

/-- A list of the call's own, copied. -/
def CopP (l : Ls) (n m : Nat) (w : World) (e : Ending) (w' : World) : Prop := ∃ G1 G2 d1 d2, e = .returned (.agg #[.slice (some ⟨G1, 0, none⟩) n d1, .slice (some ⟨G2, 0, none⟩) m d2]) ∧ MemL w' w.heap.size G1 G2 d1 d2 l ∧ Below w.heap.size w w'
theorem results_list {fn : Func} {t : Tmp} (h : fn.results = #[.cell t 28]) (tmps : Array Value) (w : World) (b : Nat) {A1 A2 : Option Addr} {n m c d : Nat} (hp : tmps[t]?.getD undef = .pointer (some ⟨b, 0, none⟩)) (h0 : w.cell? ⟨b, 0, none⟩ = some (.slice A1 n c)) (h1 : w.cell? ⟨b, 1, none⟩ = some (.slice A2 m d)) :
    (results fn tmps).run Tryz.prog w = .ok (.agg #[.slice A1 n c, .slice A2 m d]) w := by
  simp [results, h, hp, go_sem, h0, h1]
theorem results_list1 {fn : Func} {t u : Tmp} (h : fn.results = #[.cell t 28, .tmp u]) (tmps : Array Value) (w : World) (b : Nat) {A1 A2 : Option Addr} {n m c d : Nat} (hp : tmps[t]?.getD undef = .pointer (some ⟨b, 0, none⟩)) (h0 : w.cell? ⟨b, 0, none⟩ = some (.slice A1 n c)) (h1 : w.cell? ⟨b, 1, none⟩ = some (.slice A2 m d)) :
    (results fn tmps).run Tryz.prog w = .ok (.tuple #[.agg #[.slice A1 n c, .slice A2 m d], tmps.getD u undef]) w := by
  simp [results, h, hp, go_sem, h0, h1]
theorem twice0 (w : World) (B : Nat) (u v x y : Value) (h0 : w.cell? ⟨B, 0, none⟩ = some x) (h1 : w.cell? ⟨B, 1, none⟩ = some y) : ((w.setCell ⟨B, 0, none⟩ u).setCell ⟨B, 1, none⟩ v).cell? ⟨B, 0, none⟩ = some u ∧ ((w.setCell ⟨B, 0, none⟩ u).setCell ⟨B, 1, none⟩ v).cell? ⟨B, 1, none⟩ = some v := by
  constructor
  · simp [go_sem, h0]
  · simp [go_sem, h1]
theorem cop_end {w W w7 w8 : World} {B G1 G2 d1 d2 : Nat} {l : Ls} (hB : B = w.heap.size) (hz : W.heap.size = B + 1 + 1) (hb : Below B w W) (h7 : Below W.heap.size W w7) (g1 : W.heap.size ≤ G1) (o1 : MutR Ce.row 5 66 w7 G1 d1 l.cs) (h8 : Below w7.heap.size w7 w8) (g2 : w7.heap.size ≤ G2) (o2 : MutR Po.row 7 63 w8 G2 d2 l.ps) (u v : Value) :
    MemL ((w8.setCell ⟨B + 1, 0, none⟩ u).setCell ⟨B + 1, 1, none⟩ v) w.heap.size G1 G2 d1 d2 l ∧ Below w.heap.size w ((w8.setCell ⟨B + 1, 0, none⟩ u).setCell ⟨B + 1, 1, none⟩ v) := by
  have hs := h7.size
  have h1 := o1.lt
  subst hB
  refine ⟨⟨((o1.below h8).far (p := ⟨w.heap.size + 1, 0, none⟩) (by simp only; omega) u).far (p := ⟨w.heap.size + 1, 1, none⟩) (by simp only; omega) v, (o2.far (p := ⟨w.heap.size + 1, 0, none⟩) (by simp only; omega) u).far (p := ⟨w.heap.size + 1, 1, none⟩) (by simp only; omega) v, by omega, by omega, by omega⟩, ?_⟩
  have := (hb.trans (h7.mono hb.size)).trans (h8.mono (Nat.le_trans hb.size hs))
  exact (this.setCell (p := ⟨w.heap.size + 1, 0, none⟩) (by simp only; omega) u).setCell (p := ⟨w.heap.size + 1, 1, none⟩) (by simp only; omega) v
section
variable {w : World} {base G1 G2 c1 c2 : Nat} {l : Ls}
theorem Ls.setP_pr (l : Ls) {p : Nat} (h : p < l.ps.length) : l.setP p (l.pr p) = l := by
  unfold Ls.setP
  rw [← l.pr_lt h, List.set_getElem_self]
theorem Ls.setC_at (l : Ls) {p : Nat} (h : p < l.cs.length) : l.setC p (l.at_ p) = l := by
  unfold Ls.setC
  rw [← l.at_lt h, List.set_getElem_self]
theorem MemL.init (h : MemL w base G1 G2 c1 c2 l) {p : Nat} (hp : p < l.ps.length) : MemL w base G1 G2 c1 c2 (l.setP p (l.pr p)) := by rw [l.setP_pr hp]; exact h
theorem MemL.initC (h : MemL w base G1 G2 c1 c2 l) {p : Nat} (hp : p < l.cs.length) : MemL w base G1 G2 c1 c2 (l.setC p (l.at_ p)) := by rw [l.setC_at hp]; exact h
theorem MemL.up {p : Nat} {x : Po} (h : MemL w base G1 G2 c1 c2 (l.setP p x)) (hp : p < l.ps.length) (j : Nat) (hj : j < 7) (v : Value) (y : Po) (hy : y.row = x.row.set j v) : MemL (w.setCell ⟨G2, p * 7 + j, none⟩ v) base G1 G2 c1 c2 (l.setP p y) := by
  have := h.setP (i := p) (by rw [Ls.len_setP]; exact hp) j hj v y (by rw [Ls.pr_self l hp]; exact hy)
  rwa [Ls.setP_setP] at this
theorem MemL.upC {p : Nat} {x : Ce} (h : MemL w base G1 G2 c1 c2 (l.setC p x)) (hp : p < l.cs.length) (j : Nat) (hj : j < 5) (v : Value) (y : Ce) (hy : y.row = x.row.set j v) : MemL (w.setCell ⟨G1, p * 5 + j, none⟩ v) base G1 G2 c1 c2 (l.setC p y) := by
  have := h.setC (i := p) (by rw [Ls.len_setC]; exact hp) j hj v y (by rw [Ls.at_self l hp]; exact hy)
  rwa [Ls.setC_setC] at this
end

/-- Nothing but two blocks has turned. -/
structure Chg (G1 G2 : Nat) (w w' : World) : Prop where
  os : w'.os = w.os
  tape : w'.tape = w.tape
  output : w'.output = w.output
  size : w.heap.size ≤ w'.heap.size
  block : ∀ i, i < w.heap.size → i ≠ G1 → i ≠ G2 → w'.heap[i]? = w.heap[i]?
section
variable {G1 G2 : Nat} {a b c : World}
theorem Chg.refl : Chg G1 G2 a a := ⟨rfl, rfl, rfl, Nat.le_refl _, fun _ _ _ _ => rfl⟩
theorem Chg.trans (h : Chg G1 G2 a b) (k : Chg G1 G2 b c) : Chg G1 G2 a c := ⟨k.os.trans h.os, k.tape.trans h.tape, k.output.trans h.output, Nat.le_trans h.size k.size, fun i h1 h2 h3 => (k.block i (Nat.lt_of_lt_of_le h1 h.size) h2 h3).trans (h.block i h1 h2 h3)⟩
theorem Chg.of (h : Below a.heap.size a b) : Chg G1 G2 a b := ⟨h.os, h.tape, h.output, h.size, fun i h1 _ _ => h.block i h1⟩
theorem Chg.add (h : Chg G1 G2 a b) (k : Below b.heap.size b c) : Chg G1 G2 a c := h.trans (.of k)
theorem Chg.set1 (h : Chg G1 G2 a b) (o : Nat) (v : Value) : Chg G1 G2 a (b.setCell ⟨G1, o, none⟩ v) := h.trans ⟨rfl, rfl, rfl, by simp [World.setCell], fun i _ h2 _ => Below.heap_setCell b ⟨G1, o, none⟩ v i h2⟩
theorem Chg.set2 (h : Chg G1 G2 a b) (o : Nat) (v : Value) : Chg G1 G2 a (b.setCell ⟨G2, o, none⟩ v) := h.trans ⟨rfl, rfl, rfl, by simp [World.setCell], fun i _ _ h3 => Below.heap_setCell b ⟨G2, o, none⟩ v i h3⟩
theorem Chg.below {base : Nat} (h : Chg G1 G2 a b) (h1 : base ≤ G1) (h2 : base ≤ G2) (h3 : base ≤ a.heap.size) : Below base a b := ⟨h.os, h.tape, h.output, h.size, fun i hi => h.block i (by omega) (by omega) (by omega)⟩
theorem Chg.has {t : TypeId} {cs : Array Value} {B : Nat} (h : Chg G1 G2 a b) (k : Has a B t cs) (h1 : B ≠ G1) (h2 : B ≠ G2) : Has b B t cs := (h.block B k.lt h1 h2).trans k
end
theorem Chg.drew {G1 G2 : Nat} {a b : World} (h : Chg G1 G2 a b) : Chg G1 G2 a b.drew := ⟨h.os, h.tape, h.output, h.size, h.block⟩
theorem MemL.drew {w : World} {base G1 G2 c1 c2 : Nat} {l : Ls} (h : MemL w base G1 G2 c1 c2 l) : MemL w.drew base G1 G2 c1 c2 l := h.keep fun _ _ _ => rfl
theorem below_drw {B : Nat} {a b : World} (h : Below B a b) (n : Nat) : Below B a (b.drewN n) := ⟨h.os, h.tape, h.output, h.size, h.block⟩
/-- What a call that changes a list in place leaves. -/
def StP (l' : Ls) (base G1 G2 c1 c2 : Nat) (v : Value) (w : World) (e : Ending) (w' : World) : Prop := e = .returned v ∧ MemL w' base G1 G2 c1 c2 l' ∧ Chg G1 G2 w w'
end Lk
end
section
open Go.RowKit Go.Maps
namespace Lk

/-- What a call leaves that may change a list in place, and says whether it did. -/
def OptP (o : Option Ls) (l : Ls) (base G1 G2 c1 c2 : Nat) (w : World) (e : Ending) (w' : World) : Prop := e = .returned (.bool o.isSome) ∧ MemL w' base G1 G2 c1 c2 (o.getD l) ∧ Chg G1 G2 w w'
end Lk
end
section
open Go.RowKit Go.Maps
namespace Lk

theorem nat_of {z : Int} {n : Nat} (h : 0 ≤ z ∧ z < n) : ∃ k : Nat, z = (k : Int) ∧ k < n := ⟨z.toNat, by omega, by omega⟩
end Lk
end
section
open Go.RowKit Go.Maps
namespace Lk

end Lk
end
section
open Go.RowKit Go.Maps
namespace Lk
end Lk
end
section
open Go.RowKit Go.Maps
namespace Lk
end Lk
end
end Go.Proofs.YtmhbloefmknikaaGreatDoor
