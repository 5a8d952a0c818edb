/-
  Busy of the reference at a list without locks. Condition: the processes can be read.
-/
import Derived.Test.YtmhbloefmknikaaGreatDoorOcA
import Derived.Test.YtmhbloefmknikaaGreatDoorMaA
namespace Go.Proofs.YtmhbloefmknikaaGreatDoor
open Go.RowKit Go.Maps
namespace Lf
open Lk
set_option maxRecDepth 100000 in
set_option maxHeartbeats 3200000 in
theorem rbusyF_any (A1 A2 : Option Addr) (l : Ls) (n m c1 c2 lo : Nat) (w : World) (hm : l.ps.length = m) (h : Pos w lo A2 l.ps) (v : Vlf l) :
    Calls Tryz.prog 70 #[.agg #[.slice A1 n c1, .slice A2 m c2]] w (Quiet (.int .i64 (busV l : Int)) w) := by
  have hb := (Below.refl w.heap.size w).alloc (Nat.le_refl _) (.cells #[.slice A1 n c1, .slice A2 m c2] 28)
  have HB := Lib.hid hb
  have HX := Lib.hid (Has.new w 28 #[.slice A1 n c1, .slice A2 m c2])
  have HL := Lib.hid (RdR.below h hb)
  have HM := Lib.hid hm
  have HV := Lib.hid v
  have m8 : m ≤ 8 := by rw [← hm]; exact v.m8
  have HR : Hid (busV l = busT l m) := Lib.hid (by rw [← hm]; rfl)
  clear hb h hm v
  go_enter Tryz.func70, Tryz.ntmps70
  go_upto_region 1 with fail
  have hW : (w.alloc (.cells #[.slice A1 n c1, .slice A2 m c2] 28)).heap.size = w.heap.size + 1 := World.size_alloc _ _
  generalize w.alloc (.cells #[.slice A1 n c1, .slice A2 m c2] 28) = W at *
  go_wp2_with fail
  go_loopw [3, 4] (fun vc vi wr => ∃ i : Nat, vi = .int .i64 (i : Int) ∧ vc = .int .i64 (busT l i : Int) ∧ i ≤ m ∧ Below W.heap.size W wr) (fun _ vi _ => m - (intOf vi).toNat)
  case atStart => exact ⟨0, rfl, rfl, by omega, Below.refl _ _⟩
  case round =>
    obtain ⟨i, rfl, rfl, hi, hB⟩ := hrel
    have HBW := Lib.hid hB
    have HXW := Lib.hid (HX.out.below hB)
    have x0 := HXW.out.cell 0
    have x1 := HXW.out.cell 1
    by_cases hlt : i < m
    · have i2 : i < l.ps.length := by rw [HM.out]; exact hlt
      obtain ⟨b, o, e, -, hb, f0, f1, f2, f3, f4, f5, f6⟩ := Pos.at_ HL.out i2
      rw [l.pr_lt i2] at f0 f1 f2 f3 f4 f5 f6
      subst e
      replace f0 := (hB.cell (p := ⟨b, o + i * 7, none⟩) hb).trans f0
      replace f1 := (hB.cell (p := ⟨b, o + i * 7 + 1, none⟩) hb).trans f1
      replace f2 := (hB.cell (p := ⟨b, o + i * 7 + 2, none⟩) hb).trans f2
      replace f3 := (hB.cell (p := ⟨b, o + i * 7 + 3, none⟩) hb).trans f3
      replace f4 := (hB.cell (p := ⟨b, o + i * 7 + 4, none⟩) hb).trans f4
      replace f5 := (hB.cell (p := ⟨b, o + i * 7 + 5, none⟩) hb).trans f5
      replace f6 := (hB.cell (p := ⟨b, o + i * 7 + 6, none⟩) hb).trans f6
      have i0 : (0 : Int) ≤ (i : Int) := by omega
      have i1 : (i : Int) < (m : Int) := by omega
      have HNX := Lib.hid (busT_next HV.out i2)
      have HUW := Lib.hid (fun V => ract_any (l.pr i) V)
      have hbl := busT_le l i
      have hbw : IntKind.i64.wrap ((busT l i : Int) + 1) = (busT l i : Int) + 1 := IntWalk.i64_in _ (by omega)
      have HTC : Hid (((busT l i + 1 : Nat) : Int) = (busT l i : Int) + 1) := Lib.hid (by omega)
      generalize l.pr i = x at *
      obtain ⟨xk, xc, xp, xd, xs, xx, xr⟩ := x
      simp only at f0 f1 f2 f3 f4 f5 f6 HNX
      clear hB i2 hb
      by_cases hu : xp ≠ 0 ∧ xp ≠ 18
      · have HU := Lib.hid (fun V => (HUW.out V).mono fun e w' h => h.yes hu)
        rw [if_pos hu] at HNX
        clear HUW hu
        go_wp2_with fail
        refine (HU.out _).mono ?_
        rintro e w5 ⟨rfl, hb5⟩
        have HB5 := Lib.hid (HBW.out.trans (hb5.mono HBW.out.size))
        clear hb5 f0 f1 f2 f3 f4 f5 f6
        go_wp2_with fail
        exact ⟨⟨i + 1, by go_num, by rw [HNX.out, HTC.out], hlt, HB5.out⟩, by simp [intOf]; omega⟩
      · have HU := Lib.hid (fun V => (HUW.out V).mono fun e w' h => h.no hu)
        rw [if_neg hu] at HNX
        clear HUW hu
        go_wp2_with fail
        refine (HU.out _).mono ?_
        rintro e w5 ⟨rfl, hb5⟩
        have HB5 := Lib.hid (HBW.out.trans (hb5.mono HBW.out.size))
        clear hb5 f0 f1 f2 f3 f4 f5 f6
        go_wp2_with fail
        exact ⟨⟨i + 1, by go_num, by rw [HNX.out], hlt, HB5.out⟩, by simp [intOf]; omega⟩
    · obtain rfl : i = m := by omega
      have HBQ := Lib.hid hB
      clear hB
      go_wp2_with fail
      go_ret
      exact ⟨by rw [HR.out]; rfl, HB.out.trans (HBQ.out.mono (by omega))⟩
end Lf
end Go.Proofs.YtmhbloefmknikaaGreatDoor
