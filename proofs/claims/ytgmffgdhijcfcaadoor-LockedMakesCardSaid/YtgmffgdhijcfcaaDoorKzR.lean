/-
  holds of package locked. No condition.
-/
import Derived.Test.YtgmffgdhijcfcaaDoorKzQ
namespace Go.Proofs.YtgmffgdhijcfcaaDoor
open Go.RowKit Go.Maps
namespace Lk

set_option maxRecDepth 100000 in
set_option maxHeartbeats 6400000 in
theorem holds_any (x : Po) (i : Nat) (w : World) : Calls Tryd.prog 65 #[x.val, .int .i64 (i : Int)] w (BoolI (holdB x i = true) w) := by
  obtain ⟨k, c, ph, pd, sc, nx, rs⟩ := x
  have HX := Lib.hid (Has.new w 52 #[.int .i64 k, .int .i64 c, .int .i64 ph, .int .i64 pd, .int .i64 sc, .int .i64 nx, .bool rs])
  have HB := Lib.hid ((Below.refl w.heap.size w).alloc (Nat.le_refl _) (.cells #[.int .i64 k, .int .i64 c, .int .i64 ph, .int .i64 pd, .int .i64 sc, .int .i64 nx, .bool rs] 52))
  have x0 := HX.out.cell 0
  have x2 := HX.out.cell 2
  have x3 := HX.out.cell 3
  have x4 := HX.out.cell 4
  have x5 := HX.out.cell 5
  by_cases hk : k = 3
  · subst hk
    go_enter Tryd.func65, Tryd.ntmps65
    go_wp2_with fail
    go_ret
    exact ⟨false, rfl, by unfold holdB; simp, HB.out⟩
  by_cases p0 : ph = 0
  · subst p0
    go_enter Tryd.func65, Tryd.ntmps65
    go_wp2_with fail
    go_ret
    exact ⟨false, rfl, by unfold holdB; simp, HB.out⟩
  by_cases p1 : ph = 1
  · subst p1
    go_enter Tryd.func65, Tryd.ntmps65
    go_wp2_with fail
    go_ret
    exact ⟨false, rfl, by unfold holdB; simp, HB.out⟩
  by_cases p2 : ph = 2
  · subst p2
    go_enter Tryd.func65, Tryd.ntmps65
    go_wp2_with fail
    go_ret
    exact ⟨false, rfl, by unfold holdB; simp, HB.out⟩
  by_cases p18 : ph = 18
  · subst p18
    go_enter Tryd.func65, Tryd.ntmps65
    go_wp2_with fail
    go_ret
    exact ⟨false, rfl, by unfold holdB; simp, HB.out⟩
  by_cases p3 : ph = 3
  · subst p3
    by_cases q1 : pd = (i : Int)
    · subst q1
      go_enter Tryd.func65, Tryd.ntmps65
      go_wp2_with fail
      go_ret
      exact ⟨true, rfl, by unfold holdB; simp [hk], HB.out⟩
    · have q1d : decide ((i : Int) = pd) = false := decide_eq_false fun e => q1 e.symm
      have q1e : ((i : Int) == pd) = false := by simpa using fun e => q1 e.symm
      go_enter Tryd.func65, Tryd.ntmps65
      go_wp2_with fail
      go_ret
      exact ⟨false, rfl, by unfold holdB; simp [hk, q1], HB.out⟩
  by_cases p10 : ph = 10
  · subst p10
    by_cases q1 : pd = (i : Int)
    · subst q1
      by_cases q2 : sc = (i : Int)
      · subst q2
        by_cases q3 : nx = (i : Int)
        · subst q3
          go_enter Tryd.func65, Tryd.ntmps65
          go_wp2_with fail
          go_ret
          exact ⟨true, rfl, by unfold holdB; simp [hk], HB.out⟩
        · have q3d : decide ((i : Int) = nx) = false := decide_eq_false fun e => q3 e.symm
          have q3e : ((i : Int) == nx) = false := by simpa using fun e => q3 e.symm
          go_enter Tryd.func65, Tryd.ntmps65
          go_wp2_with fail
          go_ret
          exact ⟨true, rfl, by unfold holdB; simp [hk, q3], HB.out⟩
      · have q2d : decide ((i : Int) = sc) = false := decide_eq_false fun e => q2 e.symm
        have q2e : ((i : Int) == sc) = false := by simpa using fun e => q2 e.symm
        by_cases q3 : nx = (i : Int)
        · subst q3
          go_enter Tryd.func65, Tryd.ntmps65
          go_wp2_with fail
          go_ret
          exact ⟨true, rfl, by unfold holdB; simp [hk, q2], HB.out⟩
        · have q3d : decide ((i : Int) = nx) = false := decide_eq_false fun e => q3 e.symm
          have q3e : ((i : Int) == nx) = false := by simpa using fun e => q3 e.symm
          go_enter Tryd.func65, Tryd.ntmps65
          go_wp2_with fail
          go_ret
          exact ⟨true, rfl, by unfold holdB; simp [hk, q2, q3], HB.out⟩
    · have q1d : decide ((i : Int) = pd) = false := decide_eq_false fun e => q1 e.symm
      have q1e : ((i : Int) == pd) = false := by simpa using fun e => q1 e.symm
      by_cases q2 : sc = (i : Int)
      · subst q2
        by_cases q3 : nx = (i : Int)
        · subst q3
          go_enter Tryd.func65, Tryd.ntmps65
          go_wp2_with fail
          go_ret
          exact ⟨true, rfl, by unfold holdB; simp [hk, q1], HB.out⟩
        · have q3d : decide ((i : Int) = nx) = false := decide_eq_false fun e => q3 e.symm
          have q3e : ((i : Int) == nx) = false := by simpa using fun e => q3 e.symm
          go_enter Tryd.func65, Tryd.ntmps65
          go_wp2_with fail
          go_ret
          exact ⟨true, rfl, by unfold holdB; simp [hk, q1, q3], HB.out⟩
      · have q2d : decide ((i : Int) = sc) = false := decide_eq_false fun e => q2 e.symm
        have q2e : ((i : Int) == sc) = false := by simpa using fun e => q2 e.symm
        by_cases q3 : nx = (i : Int)
        · subst q3
          by_cases q4 : i = 0
          · subst q4
            have q1z : ((0 : Int) == pd) = false := by simp; omega
            have q2z : ((0 : Int) == sc) = false := by simp; omega
            go_enter Tryd.func65, Tryd.ntmps65
            go_wp2_with fail
            go_ret
            exact ⟨false, rfl, by unfold holdB; simp [hk]; omega, HB.out⟩
          · have q5 : ((i : Int) != 0) = true := by simp; omega
            go_enter Tryd.func65, Tryd.ntmps65
            go_wp2_with fail
            go_ret
            exact ⟨true, rfl, by unfold holdB; simp [hk, q1, q2]; try omega, HB.out⟩
        · have q3d : decide ((i : Int) = nx) = false := decide_eq_false fun e => q3 e.symm
          have q3e : ((i : Int) == nx) = false := by simpa using fun e => q3 e.symm
          go_enter Tryd.func65, Tryd.ntmps65
          go_wp2_with fail
          go_ret
          exact ⟨false, rfl, by unfold holdB; simp [hk, q1, q2, q3], HB.out⟩
  by_cases p11 : ph = 11
  · subst p11
    by_cases q1 : pd = (i : Int)
    · subst q1
      by_cases q2 : sc = (i : Int)
      · subst q2
        by_cases q3 : nx = (i : Int)
        · subst q3
          go_enter Tryd.func65, Tryd.ntmps65
          go_wp2_with fail
          go_ret
          exact ⟨true, rfl, by unfold holdB; simp [hk], HB.out⟩
        · have q3d : decide ((i : Int) = nx) = false := decide_eq_false fun e => q3 e.symm
          have q3e : ((i : Int) == nx) = false := by simpa using fun e => q3 e.symm
          go_enter Tryd.func65, Tryd.ntmps65
          go_wp2_with fail
          go_ret
          exact ⟨true, rfl, by unfold holdB; simp [hk, q3], HB.out⟩
      · have q2d : decide ((i : Int) = sc) = false := decide_eq_false fun e => q2 e.symm
        have q2e : ((i : Int) == sc) = false := by simpa using fun e => q2 e.symm
        by_cases q3 : nx = (i : Int)
        · subst q3
          go_enter Tryd.func65, Tryd.ntmps65
          go_wp2_with fail
          go_ret
          exact ⟨true, rfl, by unfold holdB; simp [hk, q2], HB.out⟩
        · have q3d : decide ((i : Int) = nx) = false := decide_eq_false fun e => q3 e.symm
          have q3e : ((i : Int) == nx) = false := by simpa using fun e => q3 e.symm
          go_enter Tryd.func65, Tryd.ntmps65
          go_wp2_with fail
          go_ret
          exact ⟨true, rfl, by unfold holdB; simp [hk, q2, q3], HB.out⟩
    · have q1d : decide ((i : Int) = pd) = false := decide_eq_false fun e => q1 e.symm
      have q1e : ((i : Int) == pd) = false := by simpa using fun e => q1 e.symm
      by_cases q2 : sc = (i : Int)
      · subst q2
        by_cases q3 : nx = (i : Int)
        · subst q3
          go_enter Tryd.func65, Tryd.ntmps65
          go_wp2_with fail
          go_ret
          exact ⟨true, rfl, by unfold holdB; simp [hk, q1], HB.out⟩
        · have q3d : decide ((i : Int) = nx) = false := decide_eq_false fun e => q3 e.symm
          have q3e : ((i : Int) == nx) = false := by simpa using fun e => q3 e.symm
          go_enter Tryd.func65, Tryd.ntmps65
          go_wp2_with fail
          go_ret
          exact ⟨true, rfl, by unfold holdB; simp [hk, q1, q3], HB.out⟩
      · have q2d : decide ((i : Int) = sc) = false := decide_eq_false fun e => q2 e.symm
        have q2e : ((i : Int) == sc) = false := by simpa using fun e => q2 e.symm
        by_cases q3 : nx = (i : Int)
        · subst q3
          by_cases q4 : i = 0
          · subst q4
            have q1z : ((0 : Int) == pd) = false := by simp; omega
            have q2z : ((0 : Int) == sc) = false := by simp; omega
            go_enter Tryd.func65, Tryd.ntmps65
            go_wp2_with fail
            go_ret
            exact ⟨false, rfl, by unfold holdB; simp [hk]; omega, HB.out⟩
          · have q5 : ((i : Int) != 0) = true := by simp; omega
            go_enter Tryd.func65, Tryd.ntmps65
            go_wp2_with fail
            go_ret
            exact ⟨true, rfl, by unfold holdB; simp [hk, q1, q2]; try omega, HB.out⟩
        · have q3d : decide ((i : Int) = nx) = false := decide_eq_false fun e => q3 e.symm
          have q3e : ((i : Int) == nx) = false := by simpa using fun e => q3 e.symm
          go_enter Tryd.func65, Tryd.ntmps65
          go_wp2_with fail
          go_ret
          exact ⟨false, rfl, by unfold holdB; simp [hk, q1, q2, q3], HB.out⟩
  by_cases p12 : ph = 12
  · subst p12
    by_cases q1 : pd = (i : Int)
    · subst q1
      by_cases q2 : sc = (i : Int)
      · subst q2
        by_cases q3 : nx = (i : Int)
        · subst q3
          go_enter Tryd.func65, Tryd.ntmps65
          go_wp2_with fail
          go_ret
          exact ⟨true, rfl, by unfold holdB; simp [hk], HB.out⟩
        · have q3d : decide ((i : Int) = nx) = false := decide_eq_false fun e => q3 e.symm
          have q3e : ((i : Int) == nx) = false := by simpa using fun e => q3 e.symm
          go_enter Tryd.func65, Tryd.ntmps65
          go_wp2_with fail
          go_ret
          exact ⟨true, rfl, by unfold holdB; simp [hk, q3], HB.out⟩
      · have q2d : decide ((i : Int) = sc) = false := decide_eq_false fun e => q2 e.symm
        have q2e : ((i : Int) == sc) = false := by simpa using fun e => q2 e.symm
        by_cases q3 : nx = (i : Int)
        · subst q3
          go_enter Tryd.func65, Tryd.ntmps65
          go_wp2_with fail
          go_ret
          exact ⟨true, rfl, by unfold holdB; simp [hk, q2], HB.out⟩
        · have q3d : decide ((i : Int) = nx) = false := decide_eq_false fun e => q3 e.symm
          have q3e : ((i : Int) == nx) = false := by simpa using fun e => q3 e.symm
          go_enter Tryd.func65, Tryd.ntmps65
          go_wp2_with fail
          go_ret
          exact ⟨true, rfl, by unfold holdB; simp [hk, q2, q3], HB.out⟩
    · have q1d : decide ((i : Int) = pd) = false := decide_eq_false fun e => q1 e.symm
      have q1e : ((i : Int) == pd) = false := by simpa using fun e => q1 e.symm
      by_cases q2 : sc = (i : Int)
      · subst q2
        by_cases q3 : nx = (i : Int)
        · subst q3
          go_enter Tryd.func65, Tryd.ntmps65
          go_wp2_with fail
          go_ret
          exact ⟨true, rfl, by unfold holdB; simp [hk, q1], HB.out⟩
        · have q3d : decide ((i : Int) = nx) = false := decide_eq_false fun e => q3 e.symm
          have q3e : ((i : Int) == nx) = false := by simpa using fun e => q3 e.symm
          go_enter Tryd.func65, Tryd.ntmps65
          go_wp2_with fail
          go_ret
          exact ⟨true, rfl, by unfold holdB; simp [hk, q1, q3], HB.out⟩
      · have q2d : decide ((i : Int) = sc) = false := decide_eq_false fun e => q2 e.symm
        have q2e : ((i : Int) == sc) = false := by simpa using fun e => q2 e.symm
        by_cases q3 : nx = (i : Int)
        · subst q3
          by_cases q4 : i = 0
          · subst q4
            have q1z : ((0 : Int) == pd) = false := by simp; omega
            have q2z : ((0 : Int) == sc) = false := by simp; omega
            go_enter Tryd.func65, Tryd.ntmps65
            go_wp2_with fail
            go_ret
            exact ⟨false, rfl, by unfold holdB; simp [hk]; omega, HB.out⟩
          · have q5 : ((i : Int) != 0) = true := by simp; omega
            go_enter Tryd.func65, Tryd.ntmps65
            go_wp2_with fail
            go_ret
            exact ⟨true, rfl, by unfold holdB; simp [hk, q1, q2]; try omega, HB.out⟩
        · have q3d : decide ((i : Int) = nx) = false := decide_eq_false fun e => q3 e.symm
          have q3e : ((i : Int) == nx) = false := by simpa using fun e => q3 e.symm
          go_enter Tryd.func65, Tryd.ntmps65
          go_wp2_with fail
          go_ret
          exact ⟨false, rfl, by unfold holdB; simp [hk, q1, q2, q3], HB.out⟩
  by_cases p13 : ph = 13
  · subst p13
    by_cases q1 : pd = (i : Int)
    · subst q1
      by_cases q2 : sc = (i : Int)
      · subst q2
        by_cases q3 : nx = (i : Int)
        · subst q3
          go_enter Tryd.func65, Tryd.ntmps65
          go_wp2_with fail
          go_ret
          exact ⟨true, rfl, by unfold holdB; simp [hk], HB.out⟩
        · have q3d : decide ((i : Int) = nx) = false := decide_eq_false fun e => q3 e.symm
          have q3e : ((i : Int) == nx) = false := by simpa using fun e => q3 e.symm
          go_enter Tryd.func65, Tryd.ntmps65
          go_wp2_with fail
          go_ret
          exact ⟨true, rfl, by unfold holdB; simp [hk, q3], HB.out⟩
      · have q2d : decide ((i : Int) = sc) = false := decide_eq_false fun e => q2 e.symm
        have q2e : ((i : Int) == sc) = false := by simpa using fun e => q2 e.symm
        by_cases q3 : nx = (i : Int)
        · subst q3
          go_enter Tryd.func65, Tryd.ntmps65
          go_wp2_with fail
          go_ret
          exact ⟨true, rfl, by unfold holdB; simp [hk, q2], HB.out⟩
        · have q3d : decide ((i : Int) = nx) = false := decide_eq_false fun e => q3 e.symm
          have q3e : ((i : Int) == nx) = false := by simpa using fun e => q3 e.symm
          go_enter Tryd.func65, Tryd.ntmps65
          go_wp2_with fail
          go_ret
          exact ⟨true, rfl, by unfold holdB; simp [hk, q2, q3], HB.out⟩
    · have q1d : decide ((i : Int) = pd) = false := decide_eq_false fun e => q1 e.symm
      have q1e : ((i : Int) == pd) = false := by simpa using fun e => q1 e.symm
      by_cases q2 : sc = (i : Int)
      · subst q2
        by_cases q3 : nx = (i : Int)
        · subst q3
          go_enter Tryd.func65, Tryd.ntmps65
          go_wp2_with fail
          go_ret
          exact ⟨true, rfl, by unfold holdB; simp [hk, q1], HB.out⟩
        · have q3d : decide ((i : Int) = nx) = false := decide_eq_false fun e => q3 e.symm
          have q3e : ((i : Int) == nx) = false := by simpa using fun e => q3 e.symm
          go_enter Tryd.func65, Tryd.ntmps65
          go_wp2_with fail
          go_ret
          exact ⟨true, rfl, by unfold holdB; simp [hk, q1, q3], HB.out⟩
      · have q2d : decide ((i : Int) = sc) = false := decide_eq_false fun e => q2 e.symm
        have q2e : ((i : Int) == sc) = false := by simpa using fun e => q2 e.symm
        by_cases q3 : nx = (i : Int)
        · subst q3
          by_cases q4 : i = 0
          · subst q4
            have q1z : ((0 : Int) == pd) = false := by simp; omega
            have q2z : ((0 : Int) == sc) = false := by simp; omega
            go_enter Tryd.func65, Tryd.ntmps65
            go_wp2_with fail
            go_ret
            exact ⟨false, rfl, by unfold holdB; simp [hk]; omega, HB.out⟩
          · have q5 : ((i : Int) != 0) = true := by simp; omega
            go_enter Tryd.func65, Tryd.ntmps65
            go_wp2_with fail
            go_ret
            exact ⟨true, rfl, by unfold holdB; simp [hk, q1, q2]; try omega, HB.out⟩
        · have q3d : decide ((i : Int) = nx) = false := decide_eq_false fun e => q3 e.symm
          have q3e : ((i : Int) == nx) = false := by simpa using fun e => q3 e.symm
          go_enter Tryd.func65, Tryd.ntmps65
          go_wp2_with fail
          go_ret
          exact ⟨false, rfl, by unfold holdB; simp [hk, q1, q2, q3], HB.out⟩
  have HN : Hid (¬ (k = 3 ∨ ph = 0 ∨ ph = 18 ∨ ph = 1 ∨ ph = 2)) := Lib.hid (by omega)
  by_cases q1 : pd = (i : Int)
  · subst q1
    by_cases q2 : sc = (i : Int)
    · subst q2
      go_enter Tryd.func65, Tryd.ntmps65
      go_wp2_with fail
      go_ret
      exact ⟨true, rfl, by unfold holdB; rw [if_neg HN.out]; simp; try omega, HB.out⟩
    · have q2d : decide ((i : Int) = sc) = false := decide_eq_false fun e => q2 e.symm
      have q2e : ((i : Int) == sc) = false := by simpa using fun e => q2 e.symm
      go_enter Tryd.func65, Tryd.ntmps65
      go_wp2_with fail
      go_ret
      exact ⟨true, rfl, by unfold holdB; rw [if_neg HN.out]; simp; try omega, HB.out⟩
  · have q1d : decide ((i : Int) = pd) = false := decide_eq_false fun e => q1 e.symm
    have q1e : ((i : Int) == pd) = false := by simpa using fun e => q1 e.symm
    by_cases q2 : sc = (i : Int)
    · subst q2
      go_enter Tryd.func65, Tryd.ntmps65
      go_wp2_with fail
      go_ret
      exact ⟨true, rfl, by unfold holdB; rw [if_neg HN.out]; simp; try omega, HB.out⟩
    · have q2d : decide ((i : Int) = sc) = false := decide_eq_false fun e => q2 e.symm
      have q2e : ((i : Int) == sc) = false := by simpa using fun e => q2 e.symm
      go_enter Tryd.func65, Tryd.ntmps65
      go_wp2_with fail
      go_ret
      exact ⟨false, rfl, by unfold holdB; rw [if_neg HN.out]; simp; try omega, HB.out⟩
end Lk
end Go.Proofs.YtgmffgdhijcfcaaDoor
