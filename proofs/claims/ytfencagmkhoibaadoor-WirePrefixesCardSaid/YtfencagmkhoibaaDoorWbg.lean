/-
  begins: whether a slice of bytes begins with another one. Condition: both can be read.
-/
import Derived.Test.YtfencagmkhoibaaDoorKbA
import Derived.Test.YtfencagmkhoibaaDoorKbP
import Derived.Test.YtfencagmkhoibaaDoorKwL
namespace Go.Proofs.YtfencagmkhoibaaDoor
open Go.RowKit

/-- What begins answers. -/
def bg (a b : List UInt8) : Bool := decide (b <+: a)
theorem bg_eq {a b : List UInt8} (_h : b.length ≤ a.length) : ((ByteArray.mk (a.take b.length).toArray).toList == (ByteArray.mk b.toArray).toList) = bg a b := by
  rw [toList_data, toList_data]
  show (a.take b.length == b) = _
  unfold bg
  rw [Bool.eq_iff_iff, beq_iff_eq, decide_eq_true_iff, List.prefix_iff_eq_take]
  exact eq_comm
theorem bg_short {a b : List UInt8} (h : ¬ b.length ≤ a.length) : bg a b = false := decide_eq_false fun k => h k.length_le
def BgP (b : Bool) (w : World) (e : Ending) (w' : World) : Prop := e = .returned (.bool b) ∧ Below w.heap.size w w'

set_option maxRecDepth 100000 in
set_option maxHeartbeats 1600000 in
theorem begins_any (A1 A2 : Option Addr) (l1 l2 : List UInt8) (N1 N2 c1 c2 : Nat) (B1 B2 : Nat) (w : World) (h1 : Bys w B1 A1 l1) (h2 : Bys w B2 A2 l2) (e1 : l1.length = N1) (e2 : l2.length = N2) (hc : N1 ≤ c1) :
    Calls Tryd.prog 32 #[.slice A1 N1 c1, .slice A2 N2 c2] w (BgP (bg l1 l2) w) := by
  have hB : ∀ n, Below w.heap.size w (w.drewN n) := fun n => ⟨rfl, rfl, rfl, Nat.le_refl _, fun _ _ => rfl⟩
  by_cases hle : N2 ≤ N1
  · have k2 := fun n => run_str (P := Tryd.prog) (w.drewN n) B2 A2 l2 c2 h2 23 9 Tryd.underlying23 Tryd.underlying5 Tryd.underlying9
    have k1 := fun n => run_str (P := Tryd.prog) (w.drewN n) B1 A1 (l1.take N2) c1 (h1.take N2) 23 9 Tryd.underlying23 Tryd.underlying5 Tryd.underlying9
    rw [List.length_take, e1, Nat.min_eq_left hle] at k1
    rw [e2] at k2
    have hq := bg_eq (a := l1) (b := l2) (by omega)
    rw [e2] at hq
    generalize bg l1 l2 = b at *
    generalize (ByteArray.mk (l1.take N2).toArray) = r1 at *
    generalize (ByteArray.mk l2.toArray) = r2 at *
    have hge : decide (N2 ≤ N1) = true := by simpa using hle
    have i0 : (0 : Int) ≤ (N2 : Int) := by omega
    have i1 : (N2 : Int) ≤ (c1 : Int) := by omega
    clear h1 h2 e1 e2
    go_enter Tryd.func32, Tryd.ntmps32
    go_wp2
    go_quiet (fail)
    go_wp2
    go_ret
    exact ⟨rfl, hB _⟩
  · have hq := bg_short (a := l1) (b := l2) (by omega)
    rw [hq]
    have hge : decide (N2 ≤ N1) = false := by simpa using hle
    clear h1 h2 e1 e2 hq
    go_enter Tryd.func32, Tryd.ntmps32
    go_wp2
    go_quiet (fail)
    go_wp2
    go_ret
    exact ⟨rfl, hB _⟩
end Go.Proofs.YtfencagmkhoibaaDoor
