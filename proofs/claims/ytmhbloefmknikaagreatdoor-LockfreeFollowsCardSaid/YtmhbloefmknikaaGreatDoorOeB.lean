/-
  Bound of the reference of chapter 12. Conditions: the list can be read; no list is long.
-/
import Derived.Test.YtmhbloefmknikaaGreatDoorOeA
import Derived.Test.YtmhbloefmknikaaGreatDoorObJ
import Derived.Test.YtmhbloefmknikaaGreatDoorOdA
namespace Go.Proofs.YtmhbloefmknikaaGreatDoor
open Go.RowKit Go.Maps
namespace Lf
open Lk
set_option maxRecDepth 100000 in
set_option maxHeartbeats 6400000 in
theorem rboundF_any (A1 A2 : Option Addr) (l : Ls) (n m c1 c2 : Nat) (w : World) (hn : l.cs.length = n) (hm : l.ps.length = m) (h : RdL w 0 A1 A2 l) (n9 : n ≤ 1000000) (m9 : m ≤ 1000000) :
    Calls Tryz.prog 40 #[.agg #[.slice A1 n c1, .slice A2 m c2]] w (Quiet (.int .i64 (if vldB l then (bndV l : Int) else 0)) w) := by
  have hb := (Below.refl w.heap.size w).alloc (Nat.le_refl _) (.cells #[.slice A1 n c1, .slice A2 m c2] 28)
  have HB := Lib.hid hb
  have HX := Lib.hid (Has.new w 28 #[.slice A1 n c1, .slice A2 m c2])
  have HL := Lib.hid (h.below hb)
  have HVA := Lib.hid (rvalidF_any A1 A2 l n m c1 c2 _ hn hm HL.out n9 m9)
  have x0 := HX.out.cell 0
  have x1 := HX.out.cell 1
  by_cases v : Vlf l
  · have H1 := Lib.hid (HVA.out.mono fun e w' h => h.yes v)
    have HBU := Lib.hid (fun V (q : Below _ (w.alloc (.cells #[.slice A1 n c1, .slice A2 m c2] 28)) V) => rbusyF_any A1 A2 l n m c1 c2 0 V hm (RdR.below HL.out.ps q) v)
    rw [show busV l = busT l m from by rw [← hm]; rfl] at HBU
    have HN := Lib.hid hn
    have HM := Lib.hid hm
    have HV := Lib.hid v
    have m8 : m ≤ 8 := by rw [← hm]; exact v.m8
    have n66 : n ≤ 66 := by rw [← hn]; exact v.n66
    have HR : Hid ((if vldB l then (bndV l : Int) else 0) = (busT l m : Int) * (2 * (busT l m : Int) + (gonT l n : Int) + 2) * ((n : Int) + (2 * (busT l m : Int) + (gonT l n : Int)) + 3)) := Lib.hid (by
      rw [vldB_yes v, if_pos rfl, ← hm, ← hn]
      show ((busV l * (2 * busV l + gonV l + 2) * (l.cs.length + (2 * busV l + gonV l) + 3) : Nat) : Int) = _
      rw [show busV l = busT l l.ps.length from rfl, show gonV l = gonT l l.cs.length from rfl]
      push_cast
      rfl)
    have HBL := Lib.hid (busT_le l m)
    have HGL := Lib.hid (gonT_le l n)
    generalize (if vldB l then (bndV l : Int) else 0) = R at *
    clear hb h hn hm v HVA
    go_enter Tryz.func40, Tryz.ntmps40
    go_upto_region 1 with fail
    have hW : (w.alloc (.cells #[.slice A1 n c1, .slice A2 m c2] 28)).heap.size = w.heap.size + 1 := World.size_alloc _ _
    generalize w.alloc (.cells #[.slice A1 n c1, .slice A2 m c2] 28) = W at *
    go_wp2_with fail
    refine (H1.out).mono ?_
    rintro e w2 ⟨rfl, hb2⟩
    have HX2 := Lib.hid (HX.out.below hb2)
    have HBV := Lib.hid (HBU.out w2 hb2)
    have HB2 := Lib.hid hb2
    clear x0 x1 hb2 H1 HBU
    have x0 := HX2.out.cell 0
    have x1 := HX2.out.cell 1
    go_wp2_with fail
    refine (HBV.out).mono ?_
    rintro e w3 ⟨rfl, hb3⟩
    have HB3 := Lib.hid (HB2.out.trans (hb3.mono HB2.out.size))
    have HX3 := Lib.hid (HX.out.below HB3.out)
    obtain ⟨bs, hbs⟩ : ∃ bs, bs = busT l m := ⟨_, rfl⟩
    rw [← hbs] at HR HBL ⊢
    have hb8 : bs ≤ 8 := Nat.le_trans HBL.out m8
    have w1 : IntKind.i64.wrap (2 * (bs : Int)) = 2 * (bs : Int) := IntWalk.i64_in _ (by omega)
    clear x0 x1 hb3 hbs
    have x0 := HX3.out.cell 0
    have x1 := HX3.out.cell 1
    go_wp2_with fail
    go_loopw [4, 5] (fun vc vi wq => ∃ i : Nat, vi = .int .i64 (i : Int) ∧ vc = .int .i64 (2 * (bs : Int) + (gonT l i : Int)) ∧ i ≤ n ∧ Below W.heap.size W wq) (fun _ vi _ => n - (intOf vi).toNat)
    case atStart => exact ⟨0, rfl, by rw [show gonT l 0 = 0 from rfl]; simp, by omega, HB3.out⟩
    case round =>
      obtain ⟨i, rfl, rfl, hi, hB⟩ := hrel
      have HBQ := Lib.hid hB
      have HXQ := Lib.hid (HX.out.below hB)
      clear x0 x1
      have x0 := HXQ.out.cell 0
      have x1 := HXQ.out.cell 1
      by_cases hlt : i < n
      · have i2 : i < l.cs.length := by rw [HN.out]; exact hlt
        obtain ⟨b, o, e, -, hb, -, -, -, -, f4⟩ := HL.out.cell i2
        subst e
        replace f4 := (hB.cell (p := ⟨b, o + i * 5 + 4, none⟩) hb).trans f4
        have i0 : (0 : Int) ≤ (i : Int) := by omega
        have i1 : (i : Int) < (n : Int) := by omega
        have HNX := Lib.hid (gonT_next l i)
        have hbl := gonT_le l i
        have hbw : IntKind.i64.wrap (2 * (bs : Int) + (gonT l i : Int) + 1) = 2 * (bs : Int) + (gonT l i : Int) + 1 := IntWalk.i64_in _ (by omega)
        have HTC : Hid (2 * (bs : Int) + ((gonT l i + 1 : Nat) : Int) = 2 * (bs : Int) + (gonT l i : Int) + 1) := Lib.hid (by omega)
        generalize (l.at_ i).gone = xg at *
        clear hB i2 hb
        cases xg with
        | true =>
          rw [if_pos rfl] at HNX
          go_wp2_with fail
          exact ⟨⟨i + 1, by go_num, by rw [HNX.out, HTC.out], hlt, HBQ.out⟩, by simp [intOf]; omega⟩
        | false =>
          rw [if_neg Bool.false_ne_true] at HNX
          go_wp2_with fail
          exact ⟨⟨i + 1, by go_num, by rw [HNX.out], hlt, HBQ.out⟩, by simp [intOf]; omega⟩
      · obtain rfl : n = i := by omega
        obtain ⟨gs, hgs⟩ : ∃ gs, gs = gonT l n := ⟨_, rfl⟩
        rw [← hgs] at HR HGL ⊢
        have hg66 : gs ≤ 66 := Nat.le_trans HGL.out n66
        have HBX := Lib.hid hB
        clear hB hgs
        have w2' : IntKind.i64.wrap (2 * (bs : Int) + (gs : Int)) = 2 * (bs : Int) + (gs : Int) := IntWalk.i64_in _ (by omega)
        have w3 : IntKind.i64.wrap (2 * (bs : Int) + (gs : Int) + 2) = 2 * (bs : Int) + (gs : Int) + 2 := IntWalk.i64_in _ (by omega)
        have hz1 : 0 ≤ (bs : Int) * (2 * (bs : Int) + (gs : Int) + 2) ∧ (bs : Int) * (2 * (bs : Int) + (gs : Int) + 2) ≤ 8 * 84 := ⟨Int.mul_nonneg (by omega) (by omega), Int.mul_le_mul (by omega) (by omega) (by omega) (by omega)⟩
        obtain ⟨z, hz⟩ : ∃ z, z = (bs : Int) * (2 * (bs : Int) + (gs : Int) + 2) := ⟨_, rfl⟩
        have w4 : IntKind.i64.wrap ((bs : Int) * (2 * (bs : Int) + (gs : Int) + 2)) = z := by rw [← hz] at hz1 ⊢; exact IntWalk.i64_in _ (by omega)
        have w5 : IntKind.i64.wrap ((n : Int) + (2 * (bs : Int) + (gs : Int))) = (n : Int) + (2 * (bs : Int) + (gs : Int)) := IntWalk.i64_in _ (by omega)
        have w6 : IntKind.i64.wrap ((n : Int) + (2 * (bs : Int) + (gs : Int)) + 3) = (n : Int) + (2 * (bs : Int) + (gs : Int)) + 3 := IntWalk.i64_in _ (by omega)
        have hz2 : 0 ≤ z * ((n : Int) + (2 * (bs : Int) + (gs : Int)) + 3) ∧ z * ((n : Int) + (2 * (bs : Int) + (gs : Int)) + 3) ≤ 672 * 151 := ⟨Int.mul_nonneg (by rw [← hz] at hz1; omega) (by omega), Int.mul_le_mul (by rw [← hz] at hz1; omega) (by omega) (by omega) (by omega)⟩
        obtain ⟨y, hy⟩ : ∃ y, y = z * ((n : Int) + (2 * (bs : Int) + (gs : Int)) + 3) := ⟨_, rfl⟩
        have w7 : IntKind.i64.wrap (z * ((n : Int) + (2 * (bs : Int) + (gs : Int)) + 3)) = y := by rw [← hy] at hz2 ⊢; exact IntWalk.i64_in _ (by omega)
        have HY : Hid (R = y) := Lib.hid (by rw [HR.out, hy, hz])
        clear hz1 hz2 hz hy HR
        go_wp2_with fail
        go_ret
        exact ⟨by rw [HY.out]; rfl, HB.out.trans (HBX.out.mono (by omega))⟩
  · have H1 := Lib.hid (HVA.out.mono fun e w' h => h.no v)
    rw [vldB_no v, if_neg Bool.false_ne_true]
    clear hb h hn hm v HVA
    go_enter Tryz.func40, Tryz.ntmps40
    go_upto_region 1 with fail
    generalize w.alloc (.cells #[.slice A1 n c1, .slice A2 m c2] 28) = W at *
    go_wp2_with fail
    refine (H1.out).mono ?_
    rintro e w2 ⟨rfl, hb2⟩
    have HB2 := Lib.hid (HB.out.trans (hb2.mono HB.out.size))
    clear hb2
    go_wp2_with fail
    go_ret
    exact ⟨rfl, HB2.out⟩
end Lf
end Go.Proofs.YtmhbloefmknikaaGreatDoor
