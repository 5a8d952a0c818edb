/-
  Same of the reference at two lists that hold the same ranges: it answers true, in every world in which both can be read; it only draws. Condition: at most 1000 ranges.
-/
import Derived.Test.YtofandkijmbplaaDoorKsH
import Derived.Deep.QuietTactic
import Derived.BigQuiet
namespace Go.Proofs.YtofandkijmbplaaDoor
open Go.RowKit

def SameP (w : World) (e : Ending) (w' : World) : Prop := e = .returned (.bool true) ∧ Below w.heap.size w w'
theorem below_drewN {B : Nat} {a b : World} (h : Below B a b) (n : Nat) : Below B a (b.drewN n) := ⟨h.os, h.tape, h.output, h.size, h.block⟩

set_option maxHeartbeats 3200000 in
theorem same_ref (l : List Rg) (A A' : Option Addr) (c c' : Nat) (w : World) (h : Rgs w w.heap.size A l) (h' : Rgs w w.heap.size A' l) (hn : l.length ≤ 1000) :
    Calls Tryd.prog 18 #[.slice A l.length c, .slice A' l.length c'] w (SameP w) := by
  go_enter Tryd.func18, Tryd.ntmps18
  go_wp2_with fail
  go_loopw [5] (fun i wr => ∃ k n : Nat, k ≤ l.length ∧ i = .int .i64 k ∧ wr = w.drewN n) (fun i _ => l.length - (intOf i).toNat)
  case atStart => exact ⟨0, 0, Nat.zero_le _, rfl, rfl⟩
  case round =>
    obtain ⟨k, n, hk, rfl, rfl⟩ := hrel
    by_cases hlt : k < l.length
    · have hne : l ≠ [] := by intro e; rw [e] at hlt; simp at hlt
      obtain ⟨b, o, hA, hb, hcell⟩ := h hne
      obtain ⟨b', o', hA', hb', hcell'⟩ := h' hne
      subst hA hA'
      obtain ⟨x1, x2, x3, x4⟩ := hcell k hlt
      obtain ⟨y1, y2, y3, y4⟩ := hcell' k hlt
      clear hcell hcell' hne
      generalize l[k] = x at *
      have i0 : (0 : Int) ≤ (k : Int) := by omega
      have i1 : (k : Int) < (l.length : Int) := by omega
      go_wp2_with fail
      go_quiet (fail)
      go_wp2_with fail
      go_roundw
      case rel => exact ⟨k + 1, _, hlt, by go_num, rfl⟩
      case measure => simp [intOf]; omega
    · go_wp2
      go_ret
      exact ⟨rfl, below_drewN (Below.refl _ _) n⟩
end Go.Proofs.YtofandkijmbplaaDoor
