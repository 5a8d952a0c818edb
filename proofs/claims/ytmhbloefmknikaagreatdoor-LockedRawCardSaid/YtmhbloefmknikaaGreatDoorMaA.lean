/-
  Below, Active, Busy of the reference of chapter 11. Condition: the cells can be read.
-/
import Derived.Test.YtmhbloefmknikaaGreatDoorKzW
namespace Go.Proofs.YtmhbloefmknikaaGreatDoor
open Go.RowKit Go.Maps
namespace Lk
set_option maxRecDepth 100000 in
set_option maxHeartbeats 1600000 in
theorem rblw_any (A1 A2 : Option Addr) (l : Ls) (n m c1 c2 a b lo : Nat) (w : World) (hn : l.cs.length = n) (hl : Ces w lo A1 l.cs) (ha : a < n) (hb : b < n) :
    Calls Tryz.prog 60 #[.agg #[.slice A1 n c1, .slice A2 m c2], .int .i64 (a : Int), .int .i64 (b : Int)] w (Quiet (.bool (blw l a b)) w) := by
  obtain ⟨b1, o1, e1, -, h1, f1, -⟩ := hl.at_ (i := a) (by rw [hn]; exact ha)
  obtain ⟨b2, o2, e2, -, h2, g1, -⟩ := hl.at_ (i := b) (by rw [hn]; exact hb)
  subst e1
  injection e2 with e2
  injection e2 with e3 e4
  subst e3 e4
  rw [l.at_lt (by rw [hn]; exact ha)] at f1
  rw [l.at_lt (by rw [hn]; exact hb)] at g1
  have hk := (Below.refl w.heap.size w).alloc (Nat.le_refl _) (.cells #[.slice (some ⟨b1, o1, none⟩) n c1, .slice A2 m c2] 28)
  have hx := Has.new w 28 #[.slice (some ⟨b1, o1, none⟩) n c1, .slice A2 m c2]
  have HB := Lib.hid hk.drew
  have HB0 := Lib.hid hk
  replace f1 := (hk.cell (p := ⟨b1, o1 + a * 5, none⟩) h1).trans f1
  replace g1 := (hk.cell (p := ⟨b1, o1 + b * 5, none⟩) h1).trans g1
  have x0 := hx.cell 0
  have x1 := hx.cell 1
  have a0 : (0 : Int) ≤ (a : Int) := by omega
  have a1 : (a : Int) < (n : Int) := by omega
  have b0 : (0 : Int) ≤ (b : Int) := by omega
  have b3 : (b : Int) < (n : Int) := by omega
  clear hl ha hb hk hx
  by_cases c1 : a = b ∨ a = 1 ∨ b = 0
  · have hv : blw l a b = false := if_pos c1
    rw [hv]
    clear hv
    by_cases q1 : a = b
    · subst q1
      clear c1
      have e1 : (((a : Int)) == (a : Int)) = true := by simp
      go_enter Tryz.func60, Tryz.ntmps60
      go_wp2_with fail
      go_ret
      exact ⟨rfl, HB0.out⟩
    · have e1 : (((a : Int)) == (b : Int)) = false := by simp; omega
      by_cases q2 : a = 1
      · subst q2
        clear c1
        go_enter Tryz.func60, Tryz.ntmps60
        go_wp2_with fail
        go_ret
        exact ⟨rfl, HB0.out⟩
      · have e2 : (((a : Int)) == 1) = false := by simp; omega
        obtain rfl : b = 0 := by omega
        clear c1
        go_enter Tryz.func60, Tryz.ntmps60
        go_wp2_with fail
        go_ret
        exact ⟨rfl, HB0.out⟩
  · have e1 : (((a : Int)) == (b : Int)) = false := by simp; omega
    have e2 : (((a : Int)) == 1) = false := by simp; omega
    have e3 : (((b : Int)) == 0) = false := by simp; omega
    have e4 : ¬ ((a : Int) = (b : Int)) := by omega
    have e5 : ¬ ((a : Int) = 1) := by omega
    have e6 : ¬ ((b : Int) = 0) := by omega
    by_cases q1 : a = 0
    · have hv : blw l a b = true := by unfold blw; rw [if_neg c1, if_pos (.inl q1)]
      rw [hv]
      subst q1
      clear hv c1
      go_enter Tryz.func60, Tryz.ntmps60
      go_wp2_with fail
      go_quiet (fail)
      go_wp2_with fail
      go_ret
      exact ⟨rfl, below_drw HB0.out _⟩
    · have e7 : (((a : Int)) == 0) = false := by simp; omega
      have e8 : ¬ ((a : Int) = 0) := by omega
      by_cases q2 : b = 1
      · have hv : blw l a b = true := by unfold blw; rw [if_neg c1, if_pos (.inr q2)]
        rw [hv]
        subst q2
        clear hv c1
        go_enter Tryz.func60, Tryz.ntmps60
        go_wp2_with fail
        go_quiet (fail)
        go_wp2_with fail
        go_ret
        exact ⟨rfl, below_drw HB0.out _⟩
      · have e9 : (((b : Int)) == 1) = false := by simp; omega
        have f9 : ¬ ((b : Int) = 1) := by omega
        have hv : blw l a b = kl (l.at_ a).key (l.at_ b).key := by unfold blw; rw [if_neg c1, if_neg (by omega)]
        rw [hv]
        clear hv c1
        generalize (l.at_ a).key = ka at *
        generalize (l.at_ b).key = kb at *
        cases hk : kl ka kb
        · have t1 : Op.bytesLess ka.toList kb.toList = false := hk
          clear hk
          go_enter Tryz.func60, Tryz.ntmps60
          go_wp2_with fail
          go_quiet (fail)
          go_wp2_with fail
          go_ret
          exact ⟨rfl, below_drw HB0.out _⟩
        · have t1 : Op.bytesLess ka.toList kb.toList = true := hk
          clear hk
          go_enter Tryz.func60, Tryz.ntmps60
          go_wp2_with fail
          go_quiet (fail)
          go_wp2_with fail
          go_ret
          exact ⟨rfl, below_drw HB0.out _⟩
theorem ract_any (x : Po) (w : World) : Calls Tryz.prog 56 #[x.val] w (BoolI (x.phase ≠ 0 ∧ x.phase ≠ 18) w) := by
  obtain ⟨k, c, ph, pd, sc, nx, rs⟩ := x
  have HX := Lib.hid (Has.new w 63 #[.int .i64 k, .int .i64 c, .int .i64 ph, .int .i64 pd, .int .i64 sc, .int .i64 nx, .bool rs])
  have HB := Lib.hid ((Below.refl w.heap.size w).alloc (Nat.le_refl _) (.cells #[.int .i64 k, .int .i64 c, .int .i64 ph, .int .i64 pd, .int .i64 sc, .int .i64 nx, .bool rs] 63))
  have x2 := HX.out.cell 2
  by_cases h0 : ph = 0
  · subst h0
    go_enter Tryz.func56, Tryz.ntmps56
    go_wp2_with fail
    go_ret
    exact ⟨false, rfl, by simp, HB.out⟩
  · by_cases h1 : ph = 18
    · subst h1
      go_enter Tryz.func56, Tryz.ntmps56
      go_wp2_with fail
      go_ret
      exact ⟨false, rfl, by simp, HB.out⟩
    · have e0 : (ph != 0) = true := by simpa using h0
      have e1 : (ph != 18) = true := by simpa using h1
      go_enter Tryz.func56, Tryz.ntmps56
      go_wp2_with fail
      go_ret
      exact ⟨true, rfl, by simp; exact ⟨h0, h1⟩, HB.out⟩
set_option maxRecDepth 100000 in
set_option maxHeartbeats 3200000 in
theorem rbusy_any (A1 A2 : Option Addr) (l : Ls) (n m c1 c2 lo : Nat) (w : World) (hm : l.ps.length = m) (h : Pos w lo A2 l.ps) (v : Vld l) :
    Calls Tryz.prog 70 #[.agg #[.slice A1 n c1, .slice A2 m c2]] w (Quiet (.int .i64 (busV l : Int)) w) := by
  have hb := (Below.refl w.heap.size w).alloc (Nat.le_refl _) (.cells #[.slice A1 n c1, .slice A2 m c2] 28)
  have HB := Lib.hid hb
  have HX := Lib.hid (Has.new w 28 #[.slice A1 n c1, .slice A2 m c2])
  have HL := Lib.hid (RdR.below h hb)
  have HM := Lib.hid hm
  have HV := Lib.hid v
  have m8 : m ≤ 8 := by rw [← hm]; exact v.m8
  have HR : Hid (busV l = busT l m) := Lib.hid (by rw [← hm]; rfl)
  clear hb h hm v
  go_enter Tryz.func70, Tryz.ntmps70
  go_upto_region 1 with fail
  have hW : (w.alloc (.cells #[.slice A1 n c1, .slice A2 m c2] 28)).heap.size = w.heap.size + 1 := World.size_alloc _ _
  generalize w.alloc (.cells #[.slice A1 n c1, .slice A2 m c2] 28) = W at *
  go_wp2_with fail
  go_loopw [3, 4] (fun vc vi wr => ∃ i : Nat, vi = .int .i64 (i : Int) ∧ vc = .int .i64 (busT l i : Int) ∧ i ≤ m ∧ Below W.heap.size W wr) (fun _ vi _ => m - (intOf vi).toNat)
  case atStart => exact ⟨0, rfl, rfl, by omega, Below.refl _ _⟩
  case round =>
    obtain ⟨i, rfl, rfl, hi, hB⟩ := hrel
    have HBW := Lib.hid hB
    have HXW := Lib.hid (HX.out.below hB)
    have x0 := HXW.out.cell 0
    have x1 := HXW.out.cell 1
    by_cases hlt : i < m
    · have i2 : i < l.ps.length := by rw [HM.out]; exact hlt
      obtain ⟨b, o, e, -, hb, f0, f1, f2, f3, f4, f5, f6⟩ := Pos.at_ HL.out i2
      rw [l.pr_lt i2] at f0 f1 f2 f3 f4 f5 f6
      subst e
      replace f0 := (hB.cell (p := ⟨b, o + i * 7, none⟩) hb).trans f0
      replace f1 := (hB.cell (p := ⟨b, o + i * 7 + 1, none⟩) hb).trans f1
      replace f2 := (hB.cell (p := ⟨b, o + i * 7 + 2, none⟩) hb).trans f2
      replace f3 := (hB.cell (p := ⟨b, o + i * 7 + 3, none⟩) hb).trans f3
      replace f4 := (hB.cell (p := ⟨b, o + i * 7 + 4, none⟩) hb).trans f4
      replace f5 := (hB.cell (p := ⟨b, o + i * 7 + 5, none⟩) hb).trans f5
      replace f6 := (hB.cell (p := ⟨b, o + i * 7 + 6, none⟩) hb).trans f6
      have i0 : (0 : Int) ≤ (i : Int) := by omega
      have i1 : (i : Int) < (m : Int) := by omega
      have HNX := Lib.hid (busT_next HV.out i2)
      have HUW := Lib.hid (fun V => ract_any (l.pr i) V)
      have hbl := busT_le l i
      have hbw : IntKind.i64.wrap ((busT l i : Int) + 1) = (busT l i : Int) + 1 := IntWalk.i64_in _ (by omega)
      have HTC : Hid (((busT l i + 1 : Nat) : Int) = (busT l i : Int) + 1) := Lib.hid (by omega)
      generalize l.pr i = x at *
      obtain ⟨xk, xc, xp, xd, xs, xx, xr⟩ := x
      simp only at f0 f1 f2 f3 f4 f5 f6 HNX
      clear hB i2 hb
      by_cases hu : xp ≠ 0 ∧ xp ≠ 18
      · have HU := Lib.hid (fun V => (HUW.out V).mono fun e w' h => h.yes hu)
        rw [if_pos hu] at HNX
        clear HUW hu
        go_wp2_with fail
        refine (HU.out _).mono ?_
        rintro e w5 ⟨rfl, hb5⟩
        have HB5 := Lib.hid (HBW.out.trans (hb5.mono HBW.out.size))
        clear hb5 f0 f1 f2 f3 f4 f5 f6
        go_wp2_with fail
        exact ⟨⟨i + 1, by go_num, by rw [HNX.out, HTC.out], hlt, HB5.out⟩, by simp [intOf]; omega⟩
      · have HU := Lib.hid (fun V => (HUW.out V).mono fun e w' h => h.no hu)
        rw [if_neg hu] at HNX
        clear HUW hu
        go_wp2_with fail
        refine (HU.out _).mono ?_
        rintro e w5 ⟨rfl, hb5⟩
        have HB5 := Lib.hid (HBW.out.trans (hb5.mono HBW.out.size))
        clear hb5 f0 f1 f2 f3 f4 f5 f6
        go_wp2_with fail
        exact ⟨⟨i + 1, by go_num, by rw [HNX.out], hlt, HB5.out⟩, by simp [intOf]; omega⟩
    · obtain rfl : i = m := by omega
      have HBQ := Lib.hid hB
      clear hB
      go_wp2_with fail
      go_ret
      exact ⟨by rw [HR.out]; rfl, HB.out.trans (HBQ.out.mono (by omega))⟩
end Lk
end Go.Proofs.YtmhbloefmknikaaGreatDoor
