/-
  holds of the reference of chapter 11.
-/
import Derived.Test.YtmhbloefmknikaaGreatDoorMaA
import Derived.Test.YtmhbloefmknikaaGreatDoorLzQ
namespace Go.Proofs.YtmhbloefmknikaaGreatDoor
open Go.RowKit Go.Maps
namespace Lk
theorem holdB_as (x : Po) (i : Nat) : holdB x i = true ↔ ¬ (x.kind = 3 ∨ x.phase = 0 ∨ x.phase = 18 ∨ x.phase = 1 ∨ x.phase = 2) ∧ (x.pred = (i : Int) ∨ (x.succ = (i : Int) ∧ x.phase ≠ 3) ∨ (x.next = (i : Int) ∧ x.next ≠ 0 ∧ 10 ≤ x.phase ∧ x.phase ≤ 13)) := by
  unfold holdB
  by_cases h : x.kind = 3 ∨ x.phase = 0 ∨ x.phase = 18 ∨ x.phase = 1 ∨ x.phase = 2
  · rw [if_pos h]
    exact ⟨fun q => Bool.noConfusion q, fun q => absurd h q.1⟩
  · rw [if_neg h]
    simp only [Bool.or_eq_true, Bool.and_eq_true, decide_eq_true_eq]
    constructor <;> intro q <;> omega
set_option maxRecDepth 100000 in
set_option maxHeartbeats 6400000 in
theorem rholds_any (x : Po) (i : Nat) (w : World) : Calls Tryz.prog 69 #[x.val, .int .i64 (i : Int)] w (BoolI (holdB x i = true) w) := by
  obtain ⟨k, c, ph, pd, sc, nx, rs⟩ := x
  have HX := Lib.hid (Has.new w 63 #[.int .i64 k, .int .i64 c, .int .i64 ph, .int .i64 pd, .int .i64 sc, .int .i64 nx, .bool rs])
  have HB := Lib.hid ((Below.refl w.heap.size w).alloc (Nat.le_refl _) (.cells #[.int .i64 k, .int .i64 c, .int .i64 ph, .int .i64 pd, .int .i64 sc, .int .i64 nx, .bool rs] 63))
  have HV := Lib.hid (holdB_as ⟨k, c, ph, pd, sc, nx, rs⟩ i)
  have HUW := Lib.hid (fun V => ract_any ⟨k, c, ph, pd, sc, nx, rs⟩ V)
  have x0 := HX.out.cell 0
  have x1 := HX.out.cell 1
  have x2 := HX.out.cell 2
  have x3 := HX.out.cell 3
  have x4 := HX.out.cell 4
  have x5 := HX.out.cell 5
  have x6 := HX.out.cell 6
  dsimp only at HV
  generalize holdB ⟨k, c, ph, pd, sc, nx, rs⟩ i = O at *
  go_enter Tryz.func69, Tryz.ntmps69
  go_upto_region 1 with fail
  generalize w.alloc (.cells #[.int .i64 k, .int .i64 c, .int .i64 ph, .int .i64 pd, .int .i64 sc, .int .i64 nx, .bool rs] 63) = W at *
  by_cases k3 : k = 3
  · have e3 : (k == 3) = true := by simpa using k3
    have HE : Hid (¬ O = true) := Lib.hid fun q => by have := HV.out.1 q; omega
    (try clear q4); (try clear q3); (try clear q2); (try clear q1); (try clear p3); (try clear p0); (try clear k3); (try clear p1); (try clear p2)
    go_wp2_with fail
    go_ret
    exact ⟨false, rfl, ⟨fun q => Bool.noConfusion q, fun q => (HE.out q).elim⟩, HB.out⟩
  have e3 : (k == 3) = false := by simpa using k3
  by_cases p1 : ph = 1
  · have e1 : (ph == 1) = true := by simpa using p1
    have HE : Hid (¬ O = true) := Lib.hid fun q => by have := HV.out.1 q; omega
    (try clear q4); (try clear q3); (try clear q2); (try clear q1); (try clear p3); (try clear p0); (try clear k3); (try clear p1); (try clear p2)
    go_wp2_with fail
    go_ret
    exact ⟨false, rfl, ⟨fun q => Bool.noConfusion q, fun q => (HE.out q).elim⟩, HB.out⟩
  have e1 : (ph == 1) = false := by simpa using p1
  by_cases p2 : ph = 2
  · have e2 : (ph == 2) = true := by simpa using p2
    have HE : Hid (¬ O = true) := Lib.hid fun q => by have := HV.out.1 q; omega
    (try clear q4); (try clear q3); (try clear q2); (try clear q1); (try clear p3); (try clear p0); (try clear k3); (try clear p1); (try clear p2)
    go_wp2_with fail
    go_ret
    exact ⟨false, rfl, ⟨fun q => Bool.noConfusion q, fun q => (HE.out q).elim⟩, HB.out⟩
  have e2 : (ph == 2) = false := by simpa using p2
  by_cases p0 : ph ≠ 0 ∧ ph ≠ 18
  · have HU := Lib.hid (fun V => (HUW.out V).mono fun e w' h => h.yes p0)
    clear HUW
    by_cases p3 : ph = 3
    · have e4 : (ph != 3) = false := by simp; omega
      have g1 : ¬ (ph ≥ 10) := by omega
      by_cases q1 : pd = (i : Int)
      · have f1 : ((i : Int) == pd) = true := by simp; omega
        have f1d : decide ((i : Int) = pd) = true := by simp; omega
        have HE : Hid (O = true) := Lib.hid (HV.out.2 (by omega))
        (try clear q4); (try clear q3); (try clear q2); (try clear q1); (try clear p3); (try clear p0); (try clear k3); (try clear p1); (try clear p2)
        go_wp2_with (go_at_call 56; with_reducible refine (HU.out _).mono ?_; rintro e w5 ⟨rfl, hb5⟩; have x0 := (HX.out.below hb5).cell 0; have x2 := (HX.out.below hb5).cell 2; have x3 := (HX.out.below hb5).cell 3; have x4 := (HX.out.below hb5).cell 4; have x5 := (HX.out.below hb5).cell 5; have HB5 := Lib.hid (HB.out.trans (hb5.mono HB.out.size)))
        go_ret
        exact ⟨true, rfl, ⟨fun _ => HE.out, fun _ => rfl⟩, HB5.out⟩
      have f1 : ((i : Int) == pd) = false := by simp; omega
      have f1d : decide ((i : Int) = pd) = false := by simp; omega
      by_cases q2 : sc = (i : Int)
      · have f2 : ((i : Int) == sc) = true := by simp; omega
        have f2d : decide ((i : Int) = sc) = true := by simp; omega
        by_cases q3 : nx = (i : Int)
        · have f3 : ((i : Int) == nx) = true := by simp; omega
          have f3d : decide ((i : Int) = nx) = true := by simp; omega
          by_cases q4 : nx = 0
          · have f4 : (nx != 0) = false := by simp; omega
            have HE : Hid (¬ O = true) := Lib.hid fun q => by have := HV.out.1 q; omega
            (try clear q4); (try clear q3); (try clear q2); (try clear q1); (try clear p3); (try clear p0); (try clear k3); (try clear p1); (try clear p2)
            go_wp2_with (go_at_call 56; with_reducible refine (HU.out _).mono ?_; rintro e w5 ⟨rfl, hb5⟩; have x0 := (HX.out.below hb5).cell 0; have x2 := (HX.out.below hb5).cell 2; have x3 := (HX.out.below hb5).cell 3; have x4 := (HX.out.below hb5).cell 4; have x5 := (HX.out.below hb5).cell 5; have HB5 := Lib.hid (HB.out.trans (hb5.mono HB.out.size)))
            go_ret
            exact ⟨false, rfl, ⟨fun q => Bool.noConfusion q, fun q => (HE.out q).elim⟩, HB5.out⟩
          have f4 : (nx != 0) = true := by simp; omega
          have HE : Hid (¬ O = true) := Lib.hid fun q => by have := HV.out.1 q; omega
          (try clear q4); (try clear q3); (try clear q2); (try clear q1); (try clear p3); (try clear p0); (try clear k3); (try clear p1); (try clear p2)
          go_wp2_with (go_at_call 56; with_reducible refine (HU.out _).mono ?_; rintro e w5 ⟨rfl, hb5⟩; have x0 := (HX.out.below hb5).cell 0; have x2 := (HX.out.below hb5).cell 2; have x3 := (HX.out.below hb5).cell 3; have x4 := (HX.out.below hb5).cell 4; have x5 := (HX.out.below hb5).cell 5; have HB5 := Lib.hid (HB.out.trans (hb5.mono HB.out.size)))
          go_ret
          exact ⟨false, rfl, ⟨fun q => Bool.noConfusion q, fun q => (HE.out q).elim⟩, HB5.out⟩
        have f3 : ((i : Int) == nx) = false := by simp; omega
        have f3d : decide ((i : Int) = nx) = false := by simp; omega
        have HE : Hid (¬ O = true) := Lib.hid fun q => by have := HV.out.1 q; omega
        (try clear q4); (try clear q3); (try clear q2); (try clear q1); (try clear p3); (try clear p0); (try clear k3); (try clear p1); (try clear p2)
        go_wp2_with (go_at_call 56; with_reducible refine (HU.out _).mono ?_; rintro e w5 ⟨rfl, hb5⟩; have x0 := (HX.out.below hb5).cell 0; have x2 := (HX.out.below hb5).cell 2; have x3 := (HX.out.below hb5).cell 3; have x4 := (HX.out.below hb5).cell 4; have x5 := (HX.out.below hb5).cell 5; have HB5 := Lib.hid (HB.out.trans (hb5.mono HB.out.size)))
        go_ret
        exact ⟨false, rfl, ⟨fun q => Bool.noConfusion q, fun q => (HE.out q).elim⟩, HB5.out⟩
      have f2 : ((i : Int) == sc) = false := by simp; omega
      have f2d : decide ((i : Int) = sc) = false := by simp; omega
      by_cases q3 : nx = (i : Int)
      · have f3 : ((i : Int) == nx) = true := by simp; omega
        have f3d : decide ((i : Int) = nx) = true := by simp; omega
        by_cases q4 : nx = 0
        · have f4 : (nx != 0) = false := by simp; omega
          have HE : Hid (¬ O = true) := Lib.hid fun q => by have := HV.out.1 q; omega
          (try clear q4); (try clear q3); (try clear q2); (try clear q1); (try clear p3); (try clear p0); (try clear k3); (try clear p1); (try clear p2)
          go_wp2_with (go_at_call 56; with_reducible refine (HU.out _).mono ?_; rintro e w5 ⟨rfl, hb5⟩; have x0 := (HX.out.below hb5).cell 0; have x2 := (HX.out.below hb5).cell 2; have x3 := (HX.out.below hb5).cell 3; have x4 := (HX.out.below hb5).cell 4; have x5 := (HX.out.below hb5).cell 5; have HB5 := Lib.hid (HB.out.trans (hb5.mono HB.out.size)))
          go_ret
          exact ⟨false, rfl, ⟨fun q => Bool.noConfusion q, fun q => (HE.out q).elim⟩, HB5.out⟩
        have f4 : (nx != 0) = true := by simp; omega
        have HE : Hid (¬ O = true) := Lib.hid fun q => by have := HV.out.1 q; omega
        (try clear q4); (try clear q3); (try clear q2); (try clear q1); (try clear p3); (try clear p0); (try clear k3); (try clear p1); (try clear p2)
        go_wp2_with (go_at_call 56; with_reducible refine (HU.out _).mono ?_; rintro e w5 ⟨rfl, hb5⟩; have x0 := (HX.out.below hb5).cell 0; have x2 := (HX.out.below hb5).cell 2; have x3 := (HX.out.below hb5).cell 3; have x4 := (HX.out.below hb5).cell 4; have x5 := (HX.out.below hb5).cell 5; have HB5 := Lib.hid (HB.out.trans (hb5.mono HB.out.size)))
        go_ret
        exact ⟨false, rfl, ⟨fun q => Bool.noConfusion q, fun q => (HE.out q).elim⟩, HB5.out⟩
      have f3 : ((i : Int) == nx) = false := by simp; omega
      have f3d : decide ((i : Int) = nx) = false := by simp; omega
      have HE : Hid (¬ O = true) := Lib.hid fun q => by have := HV.out.1 q; omega
      (try clear q4); (try clear q3); (try clear q2); (try clear q1); (try clear p3); (try clear p0); (try clear k3); (try clear p1); (try clear p2)
      go_wp2_with (go_at_call 56; with_reducible refine (HU.out _).mono ?_; rintro e w5 ⟨rfl, hb5⟩; have x0 := (HX.out.below hb5).cell 0; have x2 := (HX.out.below hb5).cell 2; have x3 := (HX.out.below hb5).cell 3; have x4 := (HX.out.below hb5).cell 4; have x5 := (HX.out.below hb5).cell 5; have HB5 := Lib.hid (HB.out.trans (hb5.mono HB.out.size)))
      go_ret
      exact ⟨false, rfl, ⟨fun q => Bool.noConfusion q, fun q => (HE.out q).elim⟩, HB5.out⟩
    have e4 : (ph != 3) = true := by simp; omega
    by_cases g1 : ph ≥ 10
    · by_cases g2 : ph ≤ 13
      · skip
        by_cases q1 : pd = (i : Int)
        · have f1 : ((i : Int) == pd) = true := by simp; omega
          have f1d : decide ((i : Int) = pd) = true := by simp; omega
          have HE : Hid (O = true) := Lib.hid (HV.out.2 (by omega))
          (try clear q4); (try clear q3); (try clear q2); (try clear q1); (try clear p3); (try clear p0); (try clear k3); (try clear p1); (try clear p2)
          go_wp2_with (go_at_call 56; with_reducible refine (HU.out _).mono ?_; rintro e w5 ⟨rfl, hb5⟩; have x0 := (HX.out.below hb5).cell 0; have x2 := (HX.out.below hb5).cell 2; have x3 := (HX.out.below hb5).cell 3; have x4 := (HX.out.below hb5).cell 4; have x5 := (HX.out.below hb5).cell 5; have HB5 := Lib.hid (HB.out.trans (hb5.mono HB.out.size)))
          go_ret
          exact ⟨true, rfl, ⟨fun _ => HE.out, fun _ => rfl⟩, HB5.out⟩
        have f1 : ((i : Int) == pd) = false := by simp; omega
        have f1d : decide ((i : Int) = pd) = false := by simp; omega
        by_cases q2 : sc = (i : Int)
        · have f2 : ((i : Int) == sc) = true := by simp; omega
          have f2d : decide ((i : Int) = sc) = true := by simp; omega
          have HE : Hid (O = true) := Lib.hid (HV.out.2 (by omega))
          (try clear q4); (try clear q3); (try clear q2); (try clear q1); (try clear p3); (try clear p0); (try clear k3); (try clear p1); (try clear p2)
          go_wp2_with (go_at_call 56; with_reducible refine (HU.out _).mono ?_; rintro e w5 ⟨rfl, hb5⟩; have x0 := (HX.out.below hb5).cell 0; have x2 := (HX.out.below hb5).cell 2; have x3 := (HX.out.below hb5).cell 3; have x4 := (HX.out.below hb5).cell 4; have x5 := (HX.out.below hb5).cell 5; have HB5 := Lib.hid (HB.out.trans (hb5.mono HB.out.size)))
          go_ret
          exact ⟨true, rfl, ⟨fun _ => HE.out, fun _ => rfl⟩, HB5.out⟩
        have f2 : ((i : Int) == sc) = false := by simp; omega
        have f2d : decide ((i : Int) = sc) = false := by simp; omega
        by_cases q3 : nx = (i : Int)
        · have f3 : ((i : Int) == nx) = true := by simp; omega
          have f3d : decide ((i : Int) = nx) = true := by simp; omega
          by_cases q4 : nx = 0
          · have f4 : (nx != 0) = false := by simp; omega
            have HE : Hid (¬ O = true) := Lib.hid fun q => by have := HV.out.1 q; omega
            (try clear q4); (try clear q3); (try clear q2); (try clear q1); (try clear p3); (try clear p0); (try clear k3); (try clear p1); (try clear p2)
            go_wp2_with (go_at_call 56; with_reducible refine (HU.out _).mono ?_; rintro e w5 ⟨rfl, hb5⟩; have x0 := (HX.out.below hb5).cell 0; have x2 := (HX.out.below hb5).cell 2; have x3 := (HX.out.below hb5).cell 3; have x4 := (HX.out.below hb5).cell 4; have x5 := (HX.out.below hb5).cell 5; have HB5 := Lib.hid (HB.out.trans (hb5.mono HB.out.size)))
            go_ret
            exact ⟨false, rfl, ⟨fun q => Bool.noConfusion q, fun q => (HE.out q).elim⟩, HB5.out⟩
          have f4 : (nx != 0) = true := by simp; omega
          have HE : Hid (O = true) := Lib.hid (HV.out.2 (by omega))
          (try clear q4); (try clear q3); (try clear q2); (try clear q1); (try clear p3); (try clear p0); (try clear k3); (try clear p1); (try clear p2)
          go_wp2_with (go_at_call 56; with_reducible refine (HU.out _).mono ?_; rintro e w5 ⟨rfl, hb5⟩; have x0 := (HX.out.below hb5).cell 0; have x2 := (HX.out.below hb5).cell 2; have x3 := (HX.out.below hb5).cell 3; have x4 := (HX.out.below hb5).cell 4; have x5 := (HX.out.below hb5).cell 5; have HB5 := Lib.hid (HB.out.trans (hb5.mono HB.out.size)))
          go_ret
          exact ⟨true, rfl, ⟨fun _ => HE.out, fun _ => rfl⟩, HB5.out⟩
        have f3 : ((i : Int) == nx) = false := by simp; omega
        have f3d : decide ((i : Int) = nx) = false := by simp; omega
        have HE : Hid (¬ O = true) := Lib.hid fun q => by have := HV.out.1 q; omega
        (try clear q4); (try clear q3); (try clear q2); (try clear q1); (try clear p3); (try clear p0); (try clear k3); (try clear p1); (try clear p2)
        go_wp2_with (go_at_call 56; with_reducible refine (HU.out _).mono ?_; rintro e w5 ⟨rfl, hb5⟩; have x0 := (HX.out.below hb5).cell 0; have x2 := (HX.out.below hb5).cell 2; have x3 := (HX.out.below hb5).cell 3; have x4 := (HX.out.below hb5).cell 4; have x5 := (HX.out.below hb5).cell 5; have HB5 := Lib.hid (HB.out.trans (hb5.mono HB.out.size)))
        go_ret
        exact ⟨false, rfl, ⟨fun q => Bool.noConfusion q, fun q => (HE.out q).elim⟩, HB5.out⟩
      · have g2d : decide (ph ≤ 13) = false := by simp; omega
        have g2l : ¬ (ph < 14) := by omega
        by_cases q1 : pd = (i : Int)
        · have f1 : ((i : Int) == pd) = true := by simp; omega
          have f1d : decide ((i : Int) = pd) = true := by simp; omega
          have HE : Hid (O = true) := Lib.hid (HV.out.2 (by omega))
          (try clear q4); (try clear q3); (try clear q2); (try clear q1); (try clear p3); (try clear p0); (try clear k3); (try clear p1); (try clear p2)
          go_wp2_with (go_at_call 56; with_reducible refine (HU.out _).mono ?_; rintro e w5 ⟨rfl, hb5⟩; have x0 := (HX.out.below hb5).cell 0; have x2 := (HX.out.below hb5).cell 2; have x3 := (HX.out.below hb5).cell 3; have x4 := (HX.out.below hb5).cell 4; have x5 := (HX.out.below hb5).cell 5; have HB5 := Lib.hid (HB.out.trans (hb5.mono HB.out.size)))
          go_ret
          exact ⟨true, rfl, ⟨fun _ => HE.out, fun _ => rfl⟩, HB5.out⟩
        have f1 : ((i : Int) == pd) = false := by simp; omega
        have f1d : decide ((i : Int) = pd) = false := by simp; omega
        by_cases q2 : sc = (i : Int)
        · have f2 : ((i : Int) == sc) = true := by simp; omega
          have f2d : decide ((i : Int) = sc) = true := by simp; omega
          have HE : Hid (O = true) := Lib.hid (HV.out.2 (by omega))
          (try clear q4); (try clear q3); (try clear q2); (try clear q1); (try clear p3); (try clear p0); (try clear k3); (try clear p1); (try clear p2)
          go_wp2_with (go_at_call 56; with_reducible refine (HU.out _).mono ?_; rintro e w5 ⟨rfl, hb5⟩; have x0 := (HX.out.below hb5).cell 0; have x2 := (HX.out.below hb5).cell 2; have x3 := (HX.out.below hb5).cell 3; have x4 := (HX.out.below hb5).cell 4; have x5 := (HX.out.below hb5).cell 5; have HB5 := Lib.hid (HB.out.trans (hb5.mono HB.out.size)))
          go_ret
          exact ⟨true, rfl, ⟨fun _ => HE.out, fun _ => rfl⟩, HB5.out⟩
        have f2 : ((i : Int) == sc) = false := by simp; omega
        have f2d : decide ((i : Int) = sc) = false := by simp; omega
        by_cases q3 : nx = (i : Int)
        · have f3 : ((i : Int) == nx) = true := by simp; omega
          have f3d : decide ((i : Int) = nx) = true := by simp; omega
          by_cases q4 : nx = 0
          · have f4 : (nx != 0) = false := by simp; omega
            have HE : Hid (¬ O = true) := Lib.hid fun q => by have := HV.out.1 q; omega
            (try clear q4); (try clear q3); (try clear q2); (try clear q1); (try clear p3); (try clear p0); (try clear k3); (try clear p1); (try clear p2)
            go_wp2_with (go_at_call 56; with_reducible refine (HU.out _).mono ?_; rintro e w5 ⟨rfl, hb5⟩; have x0 := (HX.out.below hb5).cell 0; have x2 := (HX.out.below hb5).cell 2; have x3 := (HX.out.below hb5).cell 3; have x4 := (HX.out.below hb5).cell 4; have x5 := (HX.out.below hb5).cell 5; have HB5 := Lib.hid (HB.out.trans (hb5.mono HB.out.size)))
            go_ret
            exact ⟨false, rfl, ⟨fun q => Bool.noConfusion q, fun q => (HE.out q).elim⟩, HB5.out⟩
          have f4 : (nx != 0) = true := by simp; omega
          have HE : Hid (¬ O = true) := Lib.hid fun q => by have := HV.out.1 q; omega
          (try clear q4); (try clear q3); (try clear q2); (try clear q1); (try clear p3); (try clear p0); (try clear k3); (try clear p1); (try clear p2)
          go_wp2_with (go_at_call 56; with_reducible refine (HU.out _).mono ?_; rintro e w5 ⟨rfl, hb5⟩; have x0 := (HX.out.below hb5).cell 0; have x2 := (HX.out.below hb5).cell 2; have x3 := (HX.out.below hb5).cell 3; have x4 := (HX.out.below hb5).cell 4; have x5 := (HX.out.below hb5).cell 5; have HB5 := Lib.hid (HB.out.trans (hb5.mono HB.out.size)))
          go_ret
          exact ⟨false, rfl, ⟨fun q => Bool.noConfusion q, fun q => (HE.out q).elim⟩, HB5.out⟩
        have f3 : ((i : Int) == nx) = false := by simp; omega
        have f3d : decide ((i : Int) = nx) = false := by simp; omega
        have HE : Hid (¬ O = true) := Lib.hid fun q => by have := HV.out.1 q; omega
        (try clear q4); (try clear q3); (try clear q2); (try clear q1); (try clear p3); (try clear p0); (try clear k3); (try clear p1); (try clear p2)
        go_wp2_with (go_at_call 56; with_reducible refine (HU.out _).mono ?_; rintro e w5 ⟨rfl, hb5⟩; have x0 := (HX.out.below hb5).cell 0; have x2 := (HX.out.below hb5).cell 2; have x3 := (HX.out.below hb5).cell 3; have x4 := (HX.out.below hb5).cell 4; have x5 := (HX.out.below hb5).cell 5; have HB5 := Lib.hid (HB.out.trans (hb5.mono HB.out.size)))
        go_ret
        exact ⟨false, rfl, ⟨fun q => Bool.noConfusion q, fun q => (HE.out q).elim⟩, HB5.out⟩
    · skip
      by_cases q1 : pd = (i : Int)
      · have f1 : ((i : Int) == pd) = true := by simp; omega
        have f1d : decide ((i : Int) = pd) = true := by simp; omega
        have HE : Hid (O = true) := Lib.hid (HV.out.2 (by omega))
        (try clear q4); (try clear q3); (try clear q2); (try clear q1); (try clear p3); (try clear p0); (try clear k3); (try clear p1); (try clear p2)
        go_wp2_with (go_at_call 56; with_reducible refine (HU.out _).mono ?_; rintro e w5 ⟨rfl, hb5⟩; have x0 := (HX.out.below hb5).cell 0; have x2 := (HX.out.below hb5).cell 2; have x3 := (HX.out.below hb5).cell 3; have x4 := (HX.out.below hb5).cell 4; have x5 := (HX.out.below hb5).cell 5; have HB5 := Lib.hid (HB.out.trans (hb5.mono HB.out.size)))
        go_ret
        exact ⟨true, rfl, ⟨fun _ => HE.out, fun _ => rfl⟩, HB5.out⟩
      have f1 : ((i : Int) == pd) = false := by simp; omega
      have f1d : decide ((i : Int) = pd) = false := by simp; omega
      by_cases q2 : sc = (i : Int)
      · have f2 : ((i : Int) == sc) = true := by simp; omega
        have f2d : decide ((i : Int) = sc) = true := by simp; omega
        have HE : Hid (O = true) := Lib.hid (HV.out.2 (by omega))
        (try clear q4); (try clear q3); (try clear q2); (try clear q1); (try clear p3); (try clear p0); (try clear k3); (try clear p1); (try clear p2)
        go_wp2_with (go_at_call 56; with_reducible refine (HU.out _).mono ?_; rintro e w5 ⟨rfl, hb5⟩; have x0 := (HX.out.below hb5).cell 0; have x2 := (HX.out.below hb5).cell 2; have x3 := (HX.out.below hb5).cell 3; have x4 := (HX.out.below hb5).cell 4; have x5 := (HX.out.below hb5).cell 5; have HB5 := Lib.hid (HB.out.trans (hb5.mono HB.out.size)))
        go_ret
        exact ⟨true, rfl, ⟨fun _ => HE.out, fun _ => rfl⟩, HB5.out⟩
      have f2 : ((i : Int) == sc) = false := by simp; omega
      have f2d : decide ((i : Int) = sc) = false := by simp; omega
      by_cases q3 : nx = (i : Int)
      · have f3 : ((i : Int) == nx) = true := by simp; omega
        have f3d : decide ((i : Int) = nx) = true := by simp; omega
        by_cases q4 : nx = 0
        · have f4 : (nx != 0) = false := by simp; omega
          have HE : Hid (¬ O = true) := Lib.hid fun q => by have := HV.out.1 q; omega
          (try clear q4); (try clear q3); (try clear q2); (try clear q1); (try clear p3); (try clear p0); (try clear k3); (try clear p1); (try clear p2)
          go_wp2_with (go_at_call 56; with_reducible refine (HU.out _).mono ?_; rintro e w5 ⟨rfl, hb5⟩; have x0 := (HX.out.below hb5).cell 0; have x2 := (HX.out.below hb5).cell 2; have x3 := (HX.out.below hb5).cell 3; have x4 := (HX.out.below hb5).cell 4; have x5 := (HX.out.below hb5).cell 5; have HB5 := Lib.hid (HB.out.trans (hb5.mono HB.out.size)))
          go_ret
          exact ⟨false, rfl, ⟨fun q => Bool.noConfusion q, fun q => (HE.out q).elim⟩, HB5.out⟩
        have f4 : (nx != 0) = true := by simp; omega
        have HE : Hid (¬ O = true) := Lib.hid fun q => by have := HV.out.1 q; omega
        (try clear q4); (try clear q3); (try clear q2); (try clear q1); (try clear p3); (try clear p0); (try clear k3); (try clear p1); (try clear p2)
        go_wp2_with (go_at_call 56; with_reducible refine (HU.out _).mono ?_; rintro e w5 ⟨rfl, hb5⟩; have x0 := (HX.out.below hb5).cell 0; have x2 := (HX.out.below hb5).cell 2; have x3 := (HX.out.below hb5).cell 3; have x4 := (HX.out.below hb5).cell 4; have x5 := (HX.out.below hb5).cell 5; have HB5 := Lib.hid (HB.out.trans (hb5.mono HB.out.size)))
        go_ret
        exact ⟨false, rfl, ⟨fun q => Bool.noConfusion q, fun q => (HE.out q).elim⟩, HB5.out⟩
      have f3 : ((i : Int) == nx) = false := by simp; omega
      have f3d : decide ((i : Int) = nx) = false := by simp; omega
      have HE : Hid (¬ O = true) := Lib.hid fun q => by have := HV.out.1 q; omega
      (try clear q4); (try clear q3); (try clear q2); (try clear q1); (try clear p3); (try clear p0); (try clear k3); (try clear p1); (try clear p2)
      go_wp2_with (go_at_call 56; with_reducible refine (HU.out _).mono ?_; rintro e w5 ⟨rfl, hb5⟩; have x0 := (HX.out.below hb5).cell 0; have x2 := (HX.out.below hb5).cell 2; have x3 := (HX.out.below hb5).cell 3; have x4 := (HX.out.below hb5).cell 4; have x5 := (HX.out.below hb5).cell 5; have HB5 := Lib.hid (HB.out.trans (hb5.mono HB.out.size)))
      go_ret
      exact ⟨false, rfl, ⟨fun q => Bool.noConfusion q, fun q => (HE.out q).elim⟩, HB5.out⟩
  · have HU := Lib.hid (fun V => (HUW.out V).mono fun e w' h => h.no p0)
    clear HUW
    have HE : Hid (¬ O = true) := Lib.hid fun q => by have := HV.out.1 q; omega
    (try clear q4); (try clear q3); (try clear q2); (try clear q1); (try clear p3); (try clear p0); (try clear k3); (try clear p1); (try clear p2)
    go_wp2_with (go_at_call 56; with_reducible refine (HU.out _).mono ?_; rintro e w5 ⟨rfl, hb5⟩; have x0 := (HX.out.below hb5).cell 0; have x2 := (HX.out.below hb5).cell 2; have x3 := (HX.out.below hb5).cell 3; have x4 := (HX.out.below hb5).cell 4; have x5 := (HX.out.below hb5).cell 5; have HB5 := Lib.hid (HB.out.trans (hb5.mono HB.out.size)))
    go_ret
    exact ⟨false, rfl, ⟨fun q => Bool.noConfusion q, fun q => (HE.out q).elim⟩, HB5.out⟩
end Lk
end Go.Proofs.YtmhbloefmknikaaGreatDoor
