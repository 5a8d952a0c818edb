/-
  Below, Active, Busy of the reference of chapter 11. Condition: the cells can be read.
-/
import Derived.Test.YtmhbloefmknikaaGreatDoorKzW
namespace Go.Proofs.YtmhbloefmknikaaGreatDoor
open Go.RowKit Go.Maps
namespace Lk
set_option maxRecDepth 100000 in
set_option maxHeartbeats 1600000 in
theorem rblw_any (A1 A2 : Option Addr) (l : Ls) (n m c1 c2 a b lo : Nat) (w : World) (hn : l.cs.length = n) (hl : Ces w lo A1 l.cs) (ha : a < n) (hb : b < n) :
    Calls Tryz.prog 60 #[.agg #[.slice A1 n c1, .slice A2 m c2], .int .i64 (a : Int), .int .i64 (b : Int)] w (Quiet (.bool (blw l a b)) w) := by
  obtain ⟨b1, o1, e1, -, h1, f1, -⟩ := hl.at_ (i := a) (by rw [hn]; exact ha)
  obtain ⟨b2, o2, e2, -, h2, g1, -⟩ := hl.at_ (i := b) (by rw [hn]; exact hb)
  subst e1
  injection e2 with e2
  injection e2 with e3 e4
  subst e3 e4
  rw [l.at_lt (by rw [hn]; exact ha)] at f1
  rw [l.at_lt (by rw [hn]; exact hb)] at g1
  have hk := (Below.refl w.heap.size w).alloc (Nat.le_refl _) (.cells #[.slice (some ⟨b1, o1, none⟩) n c1, .slice A2 m c2] 28)
  have hx := Has.new w 28 #[.slice (some ⟨b1, o1, none⟩) n c1, .slice A2 m c2]
  have HB := Lib.hid hk.drew
  have HB0 := Lib.hid hk
  replace f1 := (hk.cell (p := ⟨b1, o1 + a * 5, none⟩) h1).trans f1
  replace g1 := (hk.cell (p := ⟨b1, o1 + b * 5, none⟩) h1).trans g1
  have x0 := hx.cell 0
  have x1 := hx.cell 1
  have a0 : (0 : Int) ≤ (a : Int) := by omega
  have a1 : (a : Int) < (n : Int) := by omega
  have b0 : (0 : Int) ≤ (b : Int) := by omega
  have b3 : (b : Int) < (n : Int) := by omega
  clear hl ha hb hk hx
  by_cases c1 : a = b ∨ a = 1 ∨ b = 0
  · have hv : blw l a b = false := if_pos c1
    rw [hv]
    clear hv
    by_cases q1 : a = b
    · subst q1
      clear c1
      have e1 : (((a : Int)) == (a : Int)) = true := by simp
      go_enter Tryz.func60, Tryz.ntmps60
      go_wp2_with fail
      go_ret
      exact ⟨rfl, HB0.out⟩
    · have e1 : (((a : Int)) == (b : Int)) = false := by simp; omega
      by_cases q2 : a = 1
      · subst q2
        clear c1
        go_enter Tryz.func60, Tryz.ntmps60
        go_wp2_with fail
        go_ret
        exact ⟨rfl, HB0.out⟩
      · have e2 : (((a : Int)) == 1) = false := by simp; omega
        obtain rfl : b = 0 := by omega
        clear c1
        go_enter Tryz.func60, Tryz.ntmps60
        go_wp2_with fail
        go_ret
        exact ⟨rfl, HB0.out⟩
  · have e1 : (((a : Int)) == (b : Int)) = false := by simp; omega
    have e2 : (((a : Int)) == 1) = false := by simp; omega
    have e3 : (((b : Int)) == 0) = false := by simp; omega
    have e4 : ¬ ((a : Int) = (b : Int)) := by omega
    have e5 : ¬ ((a : Int) = 1) := by omega
    have e6 : ¬ ((b : Int) = 0) := by omega
    by_cases q1 : a = 0
    · have hv : blw l a b = true := by unfold blw; rw [if_neg c1, if_pos (.inl q1)]
      rw [hv]
      subst q1
      clear hv c1
      go_enter Tryz.func60, Tryz.ntmps60
      go_wp2_with fail
      go_quiet (fail)
      go_wp2_with fail
      go_ret
      exact ⟨rfl, below_drw HB0.out _⟩
    · have e7 : (((a : Int)) == 0) = false := by simp; omega
      have e8 : ¬ ((a : Int) = 0) := by omega
      by_cases q2 : b = 1
      · have hv : blw l a b = true := by unfold blw; rw [if_neg c1, if_pos (.inr q2)]
        rw [hv]
        subst q2
        clear hv c1
        go_enter Tryz.func60, Tryz.ntmps60
        go_wp2_with fail
        go_quiet (fail)
        go_wp2_with fail
        go_ret
        exact ⟨rfl, below_drw HB0.out _⟩
      · have e9 : (((b : Int)) == 1) = false := by simp; omega
        have f9 : ¬ ((b : Int) = 1) := by omega
        have hv : blw l a b = kl (l.at_ a).key (l.at_ b).key := by unfold blw; rw [if_neg c1, if_neg (by omega)]
        rw [hv]
        clear hv c1
        generalize (l.at_ a).key = ka at *
        generalize (l.at_ b).key = kb at *
        cases hk : kl ka kb
        · have t1 : Op.bytesLess ka.toList kb.toList = false := hk
          clear hk
          go_enter Tryz.func60, Tryz.ntmps60
          go_wp2_with fail
          go_quiet (fail)
          go_wp2_with fail
          go_ret
          exact ⟨rfl, below_drw HB0.out _⟩
        · have t1 : Op.bytesLess ka.toList kb.toList = true := hk
          clear hk
          go_enter Tryz.func60, Tryz.ntmps60
          go_wp2_with fail
          go_quiet (fail)
          go_wp2_with fail
          go_ret
          exact ⟨rfl, below_drw HB0.out _⟩
theorem ract_any (x : Po) (w : World) : Calls Tryz.prog 56 #[x.val] w (BoolI (x.phase ≠ 0 ∧ x.phase ≠ 18) w) := by
  obtain ⟨k, c, ph, pd, sc, nx, rs⟩ := x
  have HX := Lib.hid (Has.new w 63 #[.int .i64 k, .int .i64 c, .int .i64 ph, .int .i64 pd, .int .i64 sc, .int .i64 nx, .bool rs])
  have HB := Lib.hid ((Below.refl w.heap.size w).alloc (Nat.le_refl _) (.cells #[.int .i64 k, .int .i64 c, .int .i64 ph, .int .i64 pd, .int .i64 sc, .int .i64 nx, .bool rs] 63))
  have x2 := HX.out.cell 2
  by_cases h0 : ph = 0
  · subst h0
    go_enter Tryz.func56, Tryz.ntmps56
    go_wp2_with fail
    go_ret
    exact ⟨false, rfl, by simp, HB.out⟩
  · by_cases h1 : ph = 18
    · subst h1
      go_enter Tryz.func56, Tryz.ntmps56
      go_wp2_with fail
      go_ret
      exact ⟨false, rfl, by simp, HB.out⟩
    · have e0 : (ph != 0) = true := by simpa using h0
      have e1 : (ph != 18) = true := by simpa using h1
      go_enter Tryz.func56, Tryz.ntmps56
      go_wp2_with fail
      go_ret
      exact ⟨true, rfl, by simp; exact ⟨h0, h1⟩, HB.out⟩
end Lk
end Go.Proofs.YtmhbloefmknikaaGreatDoor
