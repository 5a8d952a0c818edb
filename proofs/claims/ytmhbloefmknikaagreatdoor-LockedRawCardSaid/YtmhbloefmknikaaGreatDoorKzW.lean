/-
  Bound of package locked. Condition: the list can be read.
-/
import Derived.Test.YtmhbloefmknikaaGreatDoorLzQ
namespace Go.Proofs.YtmhbloefmknikaaGreatDoor
open Go.RowKit Go.Maps
namespace Lk

def busT (l : Ls) (k : Nat) : Nat := sm (fun q => if act ((toSt l).p q) = true then 1 else 0) k
theorem busT_next {l : Ls} (v : Vld l) {k : Nat} (hk : k < l.ps.length) : busT l (k + 1) = if (l.pr k).phase ≠ 0 ∧ (l.pr k).phase ≠ 18 then busT l k + 1 else busT l k := by
  unfold busT
  rw [sm]
  by_cases h : act ((toSt l).p k) = true
  · rw [if_pos h, if_pos ((act_ph v hk).1 h)]
  · rw [if_neg h, if_neg (fun q => h ((act_ph v hk).2 q))]; rfl
theorem busT_le (l : Ls) : ∀ k, busT l k ≤ k
  | 0 => Nat.le_refl _
  | k + 1 => by
    have := busT_le l k
    unfold busT at this ⊢
    rw [sm]
    split <;> omega
set_option maxRecDepth 100000 in
set_option maxHeartbeats 3200000 in
theorem bound_any (A1 A2 : Option Addr) (l : Ls) (n m c1 c2 : Nat) (w : World) (hn : l.cs.length = n) (hm : l.ps.length = m) (h : RdL w 0 A1 A2 l) :
    Calls Tryz.prog 24 #[.agg #[.slice A1 n c1, .slice A2 m c2]] w (Quiet (.int .i64 (if vldB l then (bndV l : Int) else 0)) w) := by
  have hb := (Below.refl w.heap.size w).alloc (Nat.le_refl _) (.cells #[.slice A1 n c1, .slice A2 m c2] 28)
  have HB := Lib.hid hb
  have HX := Lib.hid (Has.new w 28 #[.slice A1 n c1, .slice A2 m c2])
  have HL := Lib.hid (h.below hb)
  have HVA := Lib.hid (valid_any A1 A2 l n m c1 c2 _ hn hm HL.out)
  have x0 := HX.out.cell 0
  have x1 := HX.out.cell 1
  by_cases v : Vld l
  · have H1 := Lib.hid (HVA.out.mono fun e w' h => h.yes v)
    have HN := Lib.hid hn
    have HM := Lib.hid hm
    have HV := Lib.hid v
    have m8 : m ≤ 8 := by rw [← hm]; exact v.m8
    have n66 : n ≤ 66 := by rw [← hn]; exact v.n66
    have HR : Hid ((if vldB l then (bndV l : Int) else 0) = (busT l m : Int) * (((busT l m : Int) + 1) * ((n : Int) + 5) + 6)) := Lib.hid (by
      rw [vldB_yes v, if_pos rfl, ← hm, ← hn]
      show ((busV l * ((busV l + 1) * (l.cs.length + 5) + 6) : Nat) : Int) = _
      rw [show busV l = busT l l.ps.length from rfl]
      push_cast
      rfl)
    have HBL := Lib.hid (busT_le l m)
    generalize (if vldB l then (bndV l : Int) else 0) = R at *
    clear hb h hn hm v HVA
    go_enter Tryz.func24, Tryz.ntmps24
    go_upto_region 1 with fail
    have hW : (w.alloc (.cells #[.slice A1 n c1, .slice A2 m c2] 28)).heap.size = w.heap.size + 1 := World.size_alloc _ _
    generalize w.alloc (.cells #[.slice A1 n c1, .slice A2 m c2] 28) = W at *
    go_wp2_with fail
    refine (H1.out).mono ?_
    rintro e w2 ⟨rfl, hb2⟩
    have HX2 := Lib.hid (HX.out.below hb2)
    have HB2 := Lib.hid hb2
    clear x0 x1 hb2 H1
    have x0 := HX2.out.cell 0
    have x1 := HX2.out.cell 1
    go_wp2_with fail
    go_loopw [3, 12] (fun vc vi wr => ∃ i : Nat, vi = .int .i64 (i : Int) ∧ vc = .int .i64 (busT l i : Int) ∧ i ≤ m ∧ Below W.heap.size W wr) (fun _ vi _ => m - (intOf vi).toNat)
    case atStart => exact ⟨0, rfl, rfl, by omega, HB2.out⟩
    case round =>
      obtain ⟨i, rfl, rfl, hi, hB⟩ := hrel
      have HBW := Lib.hid hB
      have HXW := Lib.hid (HX.out.below hB)
      clear x0 x1
      have x0 := HXW.out.cell 0
      have x1 := HXW.out.cell 1
      by_cases hlt : i < m
      · have i2 : i < l.ps.length := by rw [HM.out]; exact hlt
        obtain ⟨b, o, e, -, hb, f0, f1, f2, f3, f4, f5, f6⟩ := HL.out.proc i2
        subst e
        replace f0 := (hB.cell (p := ⟨b, o + i * 7, none⟩) hb).trans f0
        replace f1 := (hB.cell (p := ⟨b, o + i * 7 + 1, none⟩) hb).trans f1
        replace f2 := (hB.cell (p := ⟨b, o + i * 7 + 2, none⟩) hb).trans f2
        replace f3 := (hB.cell (p := ⟨b, o + i * 7 + 3, none⟩) hb).trans f3
        replace f4 := (hB.cell (p := ⟨b, o + i * 7 + 4, none⟩) hb).trans f4
        replace f5 := (hB.cell (p := ⟨b, o + i * 7 + 5, none⟩) hb).trans f5
        replace f6 := (hB.cell (p := ⟨b, o + i * 7 + 6, none⟩) hb).trans f6
        have i0 : (0 : Int) ≤ (i : Int) := by omega
        have i1 : (i : Int) < (m : Int) := by omega
        have HNX := Lib.hid (busT_next HV.out i2)
        have HUW := Lib.hid (fun V => underWay_any (l.pr i) V)
        have hbl := busT_le l i
        have hbw : IntKind.i64.wrap ((busT l i : Int) + 1) = (busT l i : Int) + 1 := IntWalk.i64_in _ (by omega)
        have HTC : Hid (((busT l i + 1 : Nat) : Int) = (busT l i : Int) + 1) := Lib.hid (by omega)
        generalize l.pr i = x at *
        obtain ⟨xk, xc, xp, xd, xs, xx, xr⟩ := x
        simp only at f0 f1 f2 f3 f4 f5 f6 HNX
        have HXN := Has.new wr 63 #[.int .i64 xk, .int .i64 xc, .int .i64 xp, .int .i64 xd, .int .i64 xs, .int .i64 xx, .bool xr]
        have HBN := Lib.hid (HBW.out.trans (((Below.refl wr.heap.size wr).alloc (Nat.le_refl _) (.cells #[.int .i64 xk, .int .i64 xc, .int .i64 xp, .int .i64 xd, .int .i64 xs, .int .i64 xx, .bool xr] 63)).mono HBW.out.size))
        have y0 := HXN.cell 0
        have y1 := HXN.cell 1
        have y2 := HXN.cell 2
        have y3 := HXN.cell 3
        have y4 := HXN.cell 4
        have y5 := HXN.cell 5
        have y6 := HXN.cell 6
        clear HXN hB i2 hb
        by_cases hu : xp ≠ 0 ∧ xp ≠ 18
        · have HU := Lib.hid (fun V => (HUW.out V).mono fun e w' h => h.yes hu)
          rw [if_pos hu] at HNX
          clear HUW hu
          go_wp2_with fail
          refine (HU.out _).mono ?_
          rintro e w5 ⟨rfl, hb5⟩
          have HB5 := Lib.hid (HBN.out.trans (hb5.mono HBN.out.size))
          clear hb5 y0 y1 y2 y3 y4 y5 y6 f0 f1 f2 f3 f4 f5 f6
          go_wp2_with fail
          exact ⟨⟨i + 1, by go_num, by rw [HNX.out, HTC.out], hlt, HB5.out⟩, by simp [intOf]; omega⟩
        · have HU := Lib.hid (fun V => (HUW.out V).mono fun e w' h => h.no hu)
          rw [if_neg hu] at HNX
          clear HUW hu
          go_wp2_with fail
          refine (HU.out _).mono ?_
          rintro e w5 ⟨rfl, hb5⟩
          have HB5 := Lib.hid (HBN.out.trans (hb5.mono HBN.out.size))
          clear hb5 y0 y1 y2 y3 y4 y5 y6 f0 f1 f2 f3 f4 f5 f6
          go_wp2_with fail
          exact ⟨⟨i + 1, by go_num, by rw [HNX.out], hlt, HB5.out⟩, by simp [intOf]; omega⟩
      · obtain rfl : i = m := by omega
        obtain ⟨bs, hbs⟩ : ∃ bs, bs = busT l i := ⟨_, rfl⟩
        rw [← hbs] at HR HBL ⊢
        have hb8 : bs ≤ 8 := Nat.le_trans HBL.out m8
        have HBQ := Lib.hid hB
        clear hB hbs
        have w1 : IntKind.i64.wrap ((bs : Int) + 1) = (bs : Int) + 1 := IntWalk.i64_in _ (by omega)
        have w2' : IntKind.i64.wrap ((n : Int) + 5) = (n : Int) + 5 := IntWalk.i64_in _ (by omega)
        have hz1 : 0 ≤ ((bs : Int) + 1) * ((n : Int) + 5) ∧ ((bs : Int) + 1) * ((n : Int) + 5) ≤ 9 * 71 := ⟨Int.mul_nonneg (by omega) (by omega), Int.mul_le_mul (by omega) (by omega) (by omega) (by omega)⟩
        obtain ⟨z, hz⟩ : ∃ z, z = ((bs : Int) + 1) * ((n : Int) + 5) := ⟨_, rfl⟩
        have w3 : IntKind.i64.wrap (((bs : Int) + 1) * ((n : Int) + 5)) = z := by rw [← hz] at hz1 ⊢; exact IntWalk.i64_in _ (by omega)
        have w4 : IntKind.i64.wrap (z + 6) = z + 6 := IntWalk.i64_in _ (by rw [← hz] at hz1; omega)
        have hz2 : 0 ≤ (bs : Int) * (z + 6) ∧ (bs : Int) * (z + 6) ≤ 8 * 645 := ⟨Int.mul_nonneg (by omega) (by rw [← hz] at hz1; omega), Int.mul_le_mul (by omega) (by rw [← hz] at hz1; omega) (by rw [← hz] at hz1; omega) (by omega)⟩
        obtain ⟨y, hy⟩ : ∃ y, y = (bs : Int) * (z + 6) := ⟨_, rfl⟩
        have w5 : IntKind.i64.wrap ((bs : Int) * (z + 6)) = y := by rw [← hy] at hz2 ⊢; exact IntWalk.i64_in _ (by omega)
        have HY : Hid (R = y) := Lib.hid (by rw [HR.out, hy, hz])
        clear hz1 hz2 hz hy HR
        go_wp2_with fail
        go_ret
        exact ⟨by rw [HY.out]; rfl, HB.out.trans (HBQ.out.mono (by omega))⟩
  · have H1 := Lib.hid (HVA.out.mono fun e w' h => h.no v)
    rw [vldB_no v, if_neg Bool.false_ne_true]
    clear hb h hn hm v HVA
    go_enter Tryz.func24, Tryz.ntmps24
    go_upto_region 1 with fail
    generalize w.alloc (.cells #[.slice A1 n c1, .slice A2 m c2] 28) = W at *
    go_wp2_with fail
    refine (H1.out).mono ?_
    rintro e w2 ⟨rfl, hb2⟩
    have HB2 := Lib.hid (HB.out.trans (hb2.mono HB.out.size))
    clear hb2
    go_wp2_with fail
    go_ret
    exact ⟨rfl, HB2.out⟩
end Lk
end Go.Proofs.YtmhbloefmknikaaGreatDoor
