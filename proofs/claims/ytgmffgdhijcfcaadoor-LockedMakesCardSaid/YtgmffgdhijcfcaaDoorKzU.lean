/-
  locksHeld and Check of package locked. Conditions: the list can be read; no list is long.
-/
import Derived.Test.YtgmffgdhijcfcaaDoorKzT
namespace Go.Proofs.YtgmffgdhijcfcaaDoor
open Go.RowKit Go.Maps
namespace Lk

def lhOk (l : Ls) (i p : Nat) : Prop := (l.at_ i).lock = (p : Int) + 1 ↔ holdB (l.pr p) i = true
set_option maxRecDepth 100000 in
set_option maxHeartbeats 6400000 in
theorem locksHeld_any (A1 A2 : Option Addr) (l : Ls) (n m c1 c2 : Nat) (w : World) (hn : l.cs.length = n) (hm : l.ps.length = m) (h : RdL w 0 A1 A2 l) (n66 : n ≤ 66) (m8 : m ≤ 8) :
    Calls Tryd.prog 41 #[.agg #[.slice A1 n c1, .slice A2 m c2]] w (BoolI (∀ i, i < l.cs.length → ∀ p, p < l.ps.length → lhOk l i p) w) := by
  have HB0 := Lib.hid ((Below.refl w.heap.size w).alloc (Nat.le_refl _) (.cells #[.slice A1 n c1, .slice A2 m c2] 35))
  have HX0 := Lib.hid (Has.new w 35 #[.slice A1 n c1, .slice A2 m c2])
  have HN := Lib.hid hn
  have HM := Lib.hid hm
  have HL := Lib.hid h
  obtain ⟨B, hB⟩ : ∃ B, B = w.heap.size := ⟨_, rfl⟩
  have HBB := Lib.hid hB
  have HSZ : Hid ((w.alloc (.cells #[.slice A1 n c1, .slice A2 m c2] 35)).heap.size = B + 1) := Lib.hid (by rw [World.size_alloc, hB])
  have x0 := HX0.out.cell 0
  have x1 := HX0.out.cell 1
  rw [← hB] at HB0 HX0 x0 x1
  clear h hn hm
  go_enter Tryd.func41, Tryd.ntmps41
  go_upto_region 1 with fail
  rw [← hB]
  generalize w.alloc (.cells #[.slice A1 n c1, .slice A2 m c2] 35) = W0 at *
  clear hB
  go_wp2_with fail
  go_loopw [10] (fun vi wr => ∃ (i : Nat), vi = .int .i64 (i : Int) ∧ i ≤ n ∧ Has wr B 35 #[.slice A1 n c1, .slice A2 m c2] ∧ Below B w wr ∧ B + 1 ≤ wr.heap.size ∧ Hid (∀ j, j < i → ∀ p, p < l.ps.length → lhOk l j p)) (fun vi _ => n - (intOf vi).toNat)
  case atStart => exact ⟨0, rfl, by omega, HX0.out, HB0.out, by rw [HSZ.out]; omega, Lib.hid fun j h => by omega⟩
  case round =>
    obtain ⟨i, rfl, hi, hX, hB, hSz, HS⟩ := hrel
    clear HB0 HX0 HSZ x0 x1
    have HX := Lib.hid hX
    have HB := Lib.hid hB
    have x0 := hX.cell 0
    have x1 := hX.cell 1
    clear hX
    by_cases hlt : i < n
    · have i2 : i < l.cs.length := by rw [HN.out]; exact hlt
      obtain ⟨b, o, e, -, hb, f0, f1, f2, f3, f4⟩ := HL.out.cell i2
      subst e
      rw [← HBB.out] at hb
      replace f0 := (hB.cell (p := ⟨b, o + i * 5, none⟩) hb).trans f0
      replace f1 := (hB.cell (p := ⟨b, o + i * 5 + 1, none⟩) hb).trans f1
      replace f2 := (hB.cell (p := ⟨b, o + i * 5 + 2, none⟩) hb).trans f2
      replace f3 := (hB.cell (p := ⟨b, o + i * 5 + 3, none⟩) hb).trans f3
      replace f4 := (hB.cell (p := ⟨b, o + i * 5 + 4, none⟩) hb).trans f4
      have i0 : (0 : Int) ≤ (i : Int) := by omega
      have i1 : (i : Int) < (n : Int) := by omega
      have HLH : Hid (∀ p, lhOk l i p ↔ ((l.at_ i).lock = (p : Int) + 1 ↔ holdB (l.pr p) i = true)) := Lib.hid fun p => Iff.rfl
      have HBAD : Hid (∀ p, p < m → ¬ lhOk l i p → ¬ ∀ i, i < l.cs.length → ∀ p, p < l.ps.length → lhOk l i p) := Lib.hid fun p hp h1 h2 => h1 (h2 i i2 p (by rw [HM.out]; exact hp))
      have HNX : Hid ((∀ p, p < m → lhOk l i p) → ∀ j, j < i + 1 → ∀ p, p < l.ps.length → lhOk l j p) := Lib.hid fun h1 j h2 p hp => by
        rcases Nat.lt_or_ge j i with h3 | h3
        · exact HS.out j h3 p hp
        · obtain rfl : j = i := by omega
          exact h1 p (by rw [← HM.out]; exact hp)
      generalize l.at_ i = x at *
      obtain ⟨xk, xl, xr, xo, xg⟩ := x
      simp only at f0 f1 f2 f3 f4 HLH
      have HXN := Lib.hid (Has.new wr 58 #[.string xk, .int .i64 xl, .int .i64 xr, .int .i64 xo, .bool xg])
      have hbn := (Below.refl wr.heap.size wr).alloc (Nat.le_refl _) (.cells #[.string xk, .int .i64 xl, .int .i64 xr, .int .i64 xo, .bool xg] 58)
      have HX2 := Lib.hid (HX.out.below hbn)
      have HB2 := Lib.hid (HB.out.trans (hbn.mono (by omega)))
      have hS2 : B + 1 ≤ (wr.alloc (.cells #[.string xk, .int .i64 xl, .int .i64 xr, .int .i64 xo, .bool xg] 58)).heap.size := by rw [World.size_alloc]; omega
      have hC2 : wr.heap.size < (wr.alloc (.cells #[.string xk, .int .i64 xl, .int .i64 xr, .int .i64 xo, .bool xg] 58)).heap.size := by rw [World.size_alloc]; omega
      clear hbn HX HB hB HS i2 hb
      go_upto_region 4 with fail
      clear f0 f1 f2 f3 f4 x0 x1
      obtain ⟨C, hC⟩ : ∃ C, C = wr.heap.size := ⟨_, rfl⟩
      generalize hW : wr.alloc (.cells #[.string xk, .int .i64 xl, .int .i64 xr, .int .i64 xo, .bool xg] 58) = W at *
      rw [← hC] at HXN hC2 ⊢
      clear hC hW
      have x0 := HX2.out.cell 0
      have x1 := HX2.out.cell 1
      go_wp2_with fail
      go_loopw [18] (fun vp wr => ∃ (p : Nat), vp = .int .i64 (p : Int) ∧ p ≤ m ∧ Has wr B 35 #[.slice (some ⟨b, o, none⟩) n c1, .slice A2 m c2] ∧ Has wr C 58 #[.string xk, .int .i64 xl, .int .i64 xr, .int .i64 xo, .bool xg] ∧ Below B w wr ∧ B + 1 ≤ wr.heap.size ∧ C < wr.heap.size ∧ Hid (∀ j, j < p → lhOk l i j)) (fun vp _ => m - (intOf vp).toNat)
      case atStart => exact ⟨0, rfl, by omega, HX2.out, HXN.out, HB2.out, hS2, hC2, Lib.hid fun j h => by omega⟩
      case round =>
        obtain ⟨p, rfl, hp, hX, hXC, hB, hSz2, hCz, HS⟩ := hrel
        clear HX2 HXN HB2 hS2 hC2 x0 x1
        have HX := Lib.hid hX
        have HXC := Lib.hid hXC
        have HB := Lib.hid hB
        clear hX hXC
        by_cases hlp : p < m
        · have p2 : p < l.ps.length := by rw [HM.out]; exact hlp
          obtain ⟨b2, o2, e, -, hb, f0, f1, f2, f3, f4, f5, f6⟩ := HL.out.proc p2
          subst e
          rw [← HBB.out] at hb
          replace f0 := (hB.cell (p := ⟨b2, o2 + p * 7, none⟩) hb).trans f0
          replace f1 := (hB.cell (p := ⟨b2, o2 + p * 7 + 1, none⟩) hb).trans f1
          replace f2 := (hB.cell (p := ⟨b2, o2 + p * 7 + 2, none⟩) hb).trans f2
          replace f3 := (hB.cell (p := ⟨b2, o2 + p * 7 + 3, none⟩) hb).trans f3
          replace f4 := (hB.cell (p := ⟨b2, o2 + p * 7 + 4, none⟩) hb).trans f4
          replace f5 := (hB.cell (p := ⟨b2, o2 + p * 7 + 5, none⟩) hb).trans f5
          replace f6 := (hB.cell (p := ⟨b2, o2 + p * 7 + 6, none⟩) hb).trans f6
          have p0 : (0 : Int) ≤ (p : Int) := by omega
          have p1 : (p : Int) < (m : Int) := by omega
          have hw : IntKind.i64.wrap ((p : Int) + 1) = (p : Int) + 1 := IntWalk.i64_in _ (by omega)
          have HLP := Lib.hid (HLH.out p)
          have HNP : Hid (lhOk l i p → ∀ j, j < p + 1 → lhOk l i j) := Lib.hid fun h1 j h2 => by
            rcases Nat.lt_or_ge j p with h3 | h3
            · exact HS.out j h3
            · obtain rfl : j = p := by omega
              exact h1
          have HBP := Lib.hid (HBAD.out p hlp)
          have HHO := Lib.hid (fun V => holds_any (l.pr p) i V)
          generalize l.pr p = y at *
          obtain ⟨yk, yc, yp, yd, ys, yx, yr⟩ := y
          simp only at f0 f1 f2 f3 f4 f5 f6
          have HPN := Lib.hid (Has.new wr 52 #[.int .i64 yk, .int .i64 yc, .int .i64 yp, .int .i64 yd, .int .i64 ys, .int .i64 yx, .bool yr])
          have hbn := (Below.refl wr.heap.size wr).alloc (Nat.le_refl _) (.cells #[.int .i64 yk, .int .i64 yc, .int .i64 yp, .int .i64 yd, .int .i64 ys, .int .i64 yx, .bool yr] 52)
          have HX2 := Lib.hid (HX.out.below hbn)
          have HXC2 := Lib.hid (HXC.out.below hbn)
          have HB2 := Lib.hid (HB.out.trans (hbn.mono (by omega)))
          have hS2 : B + 1 ≤ (wr.alloc (.cells #[.int .i64 yk, .int .i64 yc, .int .i64 yp, .int .i64 yd, .int .i64 ys, .int .i64 yx, .bool yr] 52)).heap.size := by rw [World.size_alloc]; omega
          have hC2 : C < (wr.alloc (.cells #[.int .i64 yk, .int .i64 yc, .int .i64 yp, .int .i64 yd, .int .i64 ys, .int .i64 yx, .bool yr] 52)).heap.size := by rw [World.size_alloc]; omega
          clear hbn HX HXC HB hB HS p2 hb
          go_upto_region 7 with fail
          clear f0 f1 f2 f3 f4 f5 f6
          obtain ⟨D, hD⟩ : ∃ D, D = wr.heap.size := ⟨_, rfl⟩
          generalize hV : wr.alloc (.cells #[.int .i64 yk, .int .i64 yc, .int .i64 yp, .int .i64 yd, .int .i64 ys, .int .i64 yx, .bool yr] 52) = V at *
          rw [← hD] at HPN ⊢
          clear hD hV
          have HSS := Lib.hid (fun (U : World) (k : Below V.heap.size V U) => (⟨(HXC2.out.below k).cell 3, (HPN.out.below k).cell 0, (HPN.out.below k).cell 1, (HPN.out.below k).cell 2, (HPN.out.below k).cell 3, (HPN.out.below k).cell 4, (HPN.out.below k).cell 5, (HPN.out.below k).cell 6, k⟩ : U.cell? ⟨C, 3, none⟩ = some (.int .i64 xo) ∧ U.cell? ⟨D, 0, none⟩ = some (.int .i64 yk) ∧ U.cell? ⟨D, 1, none⟩ = some (.int .i64 yc) ∧ U.cell? ⟨D, 2, none⟩ = some (.int .i64 yp) ∧ U.cell? ⟨D, 3, none⟩ = some (.int .i64 yd) ∧ U.cell? ⟨D, 4, none⟩ = some (.int .i64 ys) ∧ U.cell? ⟨D, 5, none⟩ = some (.int .i64 yx) ∧ U.cell? ⟨D, 6, none⟩ = some (.bool yr) ∧ Below V.heap.size V U))
          have hS0 := HSS.out V.drew (Below.refl _ _).drew
          obtain ⟨z3, u0, u1, u2', u3, u4', u5', u6', hbV⟩ := hS0
          have hS0 := HSS.out V.drew (Below.refl _ _).drew
          generalize holdB ⟨yk, yc, yp, yd, ys, yx, yr⟩ i = hh at *
          by_cases hz : xo = (p : Int) + 1
          · have hz1 : (xo == (p : Int) + 1) = true := by simpa using hz
            have hz2 : decide (xo = (p : Int) + 1) = true := decide_eq_true hz
            have HZ := Lib.hid hz
            clear hz
            cases hh with
            | true =>
              have HC5 := Lib.hid (fun V => (HHO.out V).mono fun e w' h => h.yes rfl)
              clear HHO
              go_region_held3 (fun U => U.cell? ⟨C, 3, none⟩ = some (.int .i64 xo) ∧ U.cell? ⟨D, 0, none⟩ = some (.int .i64 yk) ∧ U.cell? ⟨D, 1, none⟩ = some (.int .i64 yc) ∧ U.cell? ⟨D, 2, none⟩ = some (.int .i64 yp) ∧ U.cell? ⟨D, 3, none⟩ = some (.int .i64 yd) ∧ U.cell? ⟨D, 4, none⟩ = some (.int .i64 ys) ∧ U.cell? ⟨D, 5, none⟩ = some (.int .i64 yx) ∧ U.cell? ⟨D, 6, none⟩ = some (.bool yr) ∧ Below V.heap.size V U) (first | with_reducible exact hS7 | with_reducible exact hS0) ((go_at_call 65; refine (HC5.out _).mono ?_; rintro e w7 ⟨rfl, hb7⟩; have hS7 := HSS.out _ (hbV.trans (hb7.mono hbV.size))))
              have HB7 := Lib.hid hS7.2.2.2.2.2.2.2.2
              clear hS7 hb7 HC5
              have HX7 := Lib.hid (HX2.out.below HB7.out)
              have HXC7 := Lib.hid (HXC2.out.below HB7.out)
              have HBW7 := Lib.hid (HB2.out.trans (HB7.out.mono (by omega)))
              have hS7 : B + 1 ≤ w7.heap.size := Nat.le_trans hS2 HB7.out.size
              have hC7 : C < w7.heap.size := Nat.lt_of_lt_of_le hC2 HB7.out.size
              have HOK := Lib.hid (HNP.out (HLP.out.2 ⟨fun _ => (by first | rfl | trivial), fun _ => HZ.out⟩))
              go_wp2_with fail
              exact ⟨⟨p + 1, by go_num, hlp, HX7.out, HXC7.out, HBW7.out, hS7, hC7, HOK⟩, by simp [intOf]; omega⟩
            | false =>
              have HC5 := Lib.hid (fun V => (HHO.out V).mono fun e w' h => h.no Bool.false_ne_true)
              clear HHO
              go_region_held3 (fun U => U.cell? ⟨C, 3, none⟩ = some (.int .i64 xo) ∧ U.cell? ⟨D, 0, none⟩ = some (.int .i64 yk) ∧ U.cell? ⟨D, 1, none⟩ = some (.int .i64 yc) ∧ U.cell? ⟨D, 2, none⟩ = some (.int .i64 yp) ∧ U.cell? ⟨D, 3, none⟩ = some (.int .i64 yd) ∧ U.cell? ⟨D, 4, none⟩ = some (.int .i64 ys) ∧ U.cell? ⟨D, 5, none⟩ = some (.int .i64 yx) ∧ U.cell? ⟨D, 6, none⟩ = some (.bool yr) ∧ Below V.heap.size V U) (first | with_reducible exact hS7 | with_reducible exact hS0) ((go_at_call 65; refine (HC5.out _).mono ?_; rintro e w7 ⟨rfl, hb7⟩; have hS7 := HSS.out _ (hbV.trans (hb7.mono hbV.size))))
              have HB7 := Lib.hid hS7.2.2.2.2.2.2.2.2
              clear hS7 hb7 HC5
              have HX7 := Lib.hid (HX2.out.below HB7.out)
              have HXC7 := Lib.hid (HXC2.out.below HB7.out)
              have HBW7 := Lib.hid (HB2.out.trans (HB7.out.mono (by omega)))
              have hS7 : B + 1 ≤ w7.heap.size := Nat.le_trans hS2 HB7.out.size
              have hC7 : C < w7.heap.size := Nat.lt_of_lt_of_le hC2 HB7.out.size
              have HNO := Lib.hid (HBP.out fun q => Bool.noConfusion ((HLP.out.1 q).1 HZ.out))
              go_wp2_with fail
              go_ret
              exact ⟨false, rfl, ⟨fun h => Bool.noConfusion h, fun h => (HNO.out h).elim⟩, by rw [← HBB.out]; exact HBW7.out⟩
          · have hz1 : (xo == (p : Int) + 1) = false := by simpa using hz
            have hz2 : decide (xo = (p : Int) + 1) = false := decide_eq_false hz
            have HZ := Lib.hid hz
            clear hz
            cases hh with
            | true =>
              have HC5 := Lib.hid (fun V => (HHO.out V).mono fun e w' h => h.yes rfl)
              clear HHO
              go_region_held3 (fun U => U.cell? ⟨C, 3, none⟩ = some (.int .i64 xo) ∧ U.cell? ⟨D, 0, none⟩ = some (.int .i64 yk) ∧ U.cell? ⟨D, 1, none⟩ = some (.int .i64 yc) ∧ U.cell? ⟨D, 2, none⟩ = some (.int .i64 yp) ∧ U.cell? ⟨D, 3, none⟩ = some (.int .i64 yd) ∧ U.cell? ⟨D, 4, none⟩ = some (.int .i64 ys) ∧ U.cell? ⟨D, 5, none⟩ = some (.int .i64 yx) ∧ U.cell? ⟨D, 6, none⟩ = some (.bool yr) ∧ Below V.heap.size V U) (first | with_reducible exact hS7 | with_reducible exact hS0) ((go_at_call 65; refine (HC5.out _).mono ?_; rintro e w7 ⟨rfl, hb7⟩; have hS7 := HSS.out _ (hbV.trans (hb7.mono hbV.size))))
              have HB7 := Lib.hid hS7.2.2.2.2.2.2.2.2
              clear hS7 hb7 HC5
              have HX7 := Lib.hid (HX2.out.below HB7.out)
              have HXC7 := Lib.hid (HXC2.out.below HB7.out)
              have HBW7 := Lib.hid (HB2.out.trans (HB7.out.mono (by omega)))
              have hS7 : B + 1 ≤ w7.heap.size := Nat.le_trans hS2 HB7.out.size
              have hC7 : C < w7.heap.size := Nat.lt_of_lt_of_le hC2 HB7.out.size
              have HNO := Lib.hid (HBP.out fun q => HZ.out ((HLP.out.1 q).2 (by first | rfl | trivial)))
              go_wp2_with fail
              go_ret
              exact ⟨false, rfl, ⟨fun h => Bool.noConfusion h, fun h => (HNO.out h).elim⟩, by rw [← HBB.out]; exact HBW7.out⟩
            | false =>
              have HC5 := Lib.hid (fun V => (HHO.out V).mono fun e w' h => h.no Bool.false_ne_true)
              clear HHO
              go_region_held3 (fun U => U.cell? ⟨C, 3, none⟩ = some (.int .i64 xo) ∧ U.cell? ⟨D, 0, none⟩ = some (.int .i64 yk) ∧ U.cell? ⟨D, 1, none⟩ = some (.int .i64 yc) ∧ U.cell? ⟨D, 2, none⟩ = some (.int .i64 yp) ∧ U.cell? ⟨D, 3, none⟩ = some (.int .i64 yd) ∧ U.cell? ⟨D, 4, none⟩ = some (.int .i64 ys) ∧ U.cell? ⟨D, 5, none⟩ = some (.int .i64 yx) ∧ U.cell? ⟨D, 6, none⟩ = some (.bool yr) ∧ Below V.heap.size V U) (first | with_reducible exact hS7 | with_reducible exact hS0) ((go_at_call 65; refine (HC5.out _).mono ?_; rintro e w7 ⟨rfl, hb7⟩; have hS7 := HSS.out _ (hbV.trans (hb7.mono hbV.size))))
              have HB7 := Lib.hid hS7.2.2.2.2.2.2.2.2
              clear hS7 hb7 HC5
              have HX7 := Lib.hid (HX2.out.below HB7.out)
              have HXC7 := Lib.hid (HXC2.out.below HB7.out)
              have HBW7 := Lib.hid (HB2.out.trans (HB7.out.mono (by omega)))
              have hS7 : B + 1 ≤ w7.heap.size := Nat.le_trans hS2 HB7.out.size
              have hC7 : C < w7.heap.size := Nat.lt_of_lt_of_le hC2 HB7.out.size
              have HOK := Lib.hid (HNP.out (HLP.out.2 ⟨fun q => absurd q HZ.out, fun q => Bool.noConfusion q⟩))
              go_wp2_with fail
              exact ⟨⟨p + 1, by go_num, hlp, HX7.out, HXC7.out, HBW7.out, hS7, hC7, HOK⟩, by simp [intOf]; omega⟩
        · have HS2 := Lib.hid (HNX.out fun p hp => HS.out p (by omega))
          have x0 := HX.out.cell 0
          clear hB
          go_wp2_with fail
          exact ⟨⟨i + 1, by go_num, hlt, HX.out, HB.out, hSz2, HS2⟩, by simp [intOf]; omega⟩
    · have HS2 := Lib.hid (show ∀ i, i < l.cs.length → ∀ p, p < l.ps.length → lhOk l i p from fun j hj => HS.out j (by have := HN.out; omega))
      clear hB
      go_wp2_with fail
      go_ret
      exact ⟨true, rfl, ⟨fun _ => HS2.out, fun _ => rfl⟩, by rw [← HBB.out]; exact HB.out⟩
theorem chn_one {l : Ls} : ∀ {f a : Nat} {ch : List Nat}, chnV l f a = some ch → 1 ∈ ch
  | 0, _, _, h => by cases h
  | f + 1, a, ch, h => by
    unfold chnV at h
    split at h
    · injection h with h
      rw [← h]; simp
    · split at h
      · cases hc : chnV l f (l.at_ a).right.toNat with
        | none => rw [hc] at h; cases h
        | some r =>
          rw [hc] at h
          injection h with h
          have h : a :: r = ch := h
          rw [← h]
          exact List.mem_cons_of_mem _ (chn_one hc)
      · cases h
theorem chn_ends {l : Ls} {f : Nat} {ch : List Nat} (h : chnV l f 0 = some ch) : 0 ∈ ch ∧ 1 ∈ ch := by
  obtain ⟨r, e⟩ := chn_head h
  exact ⟨by rw [e]; exact List.mem_cons_self, chn_one h⟩
theorem chn_lt {l : Ls} (v : Vld l) : ∀ {f a : Nat} {ch : List Nat}, a < l.cs.length → chnV l f a = some ch → ∀ i ∈ ch, i < l.cs.length
  | 0, _, _, _, h => by cases h
  | f + 1, a, ch, ha, h => by
    unfold chnV at h
    split at h
    · injection h with h
      rw [← h]
      intro i hi
      rw [List.mem_singleton] at hi
      have := v.n2
      omega
    · split at h
      · cases hc : chnV l f (l.at_ a).right.toNat with
        | none => rw [hc] at h; cases h
        | some r =>
          rw [hc] at h
          injection h with h
          have h : a :: r = ch := h
          rw [← h]
          intro i hi
          rcases List.mem_cons.1 hi with rfl | hi
          · exact ha
          · have := v.rg a ha
            exact chn_lt v (by omega) hc i hi
      · cases h
theorem chk_iff (l : Ls) : chkB l = true ↔ Vld l ∧ ∃ ch, chnV l l.cs.length 0 = some ch ∧ (∀ i, i < l.cs.length → mlOk l ch i) ∧ (∀ i, i < l.cs.length → ∀ p, p < l.ps.length → lhOk l i p) ∧ ((∃ x ∈ l.cs, x.lock ≠ 0) ∨ bckB l ch = true) := by
  by_cases v : Vld l
  · have e := vldB_yes v
    have n2 := v.n2
    unfold chkB
    rw [e]
    simp only [Bool.true_and]
    cases hc : chnV l l.cs.length 0 with
    | none =>
      simp only [Bool.and_false, Bool.false_eq_true, false_iff]
      rintro ⟨-, ch, h, -⟩
      cases h
    | some ch =>
      have h01 : 0 ∈ ch ∧ 1 ∈ ch := chn_ends hc
      simp only [Bool.and_eq_true, Bool.not_eq_true', List.all_eq_true, List.mem_range, Bool.or_eq_true, beq_iff_eq]
      constructor
      · rintro ⟨⟨g0, g1⟩, hA, hL⟩
        refine ⟨v, ch, rfl, fun i hi => ?_, fun i hi p hp => ?_, ?_⟩
        · have := (hA i hi).1
          refine ⟨fun h2 => ?_, fun _ h3 h4 => ?_, fun _ h3 => ?_⟩
          · have : i = 0 ∨ i = 1 := by omega
            rcases this with rfl | rfl
            · exact g0
            · exact g1
          · rw [h3, if_pos rfl] at this
            simpa [h4] using this
          · rw [h3, if_neg Bool.false_ne_true] at this
            simpa using this
        · have := (hA i hi).2 p hp
          unfold lhOk
          rw [this, decide_eq_true_iff]
        · rcases hL with hL | hL
          · left
            rw [← Bool.not_eq_true, List.all_eq_true] at hL
            refine Classical.byContradiction fun q => hL fun x hx => ?_
            exact decide_eq_true (Classical.byContradiction fun q2 => q ⟨x, hx, q2⟩)
          · exact .inr hL
      · rintro ⟨-, ch', h, hA, hP, hL⟩
        obtain rfl := Option.some.inj h
        refine ⟨⟨(hA 0 (by omega)).1 (by omega), (hA 1 (by omega)).1 (by omega)⟩, fun i hi => ⟨?_, fun p hp => ?_⟩, ?_⟩
        · obtain ⟨q1, q2, q3⟩ := hA i hi
          by_cases h2 : i < 2
          · have hm : i ∈ ch := by
              have : i = 0 ∨ i = 1 := by omega
              rcases this with rfl | rfl
              · exact h01.1
              · exact h01.2
            rw [q1 h2, if_neg Bool.false_ne_true]
            simpa using hm
          · cases hg : (l.at_ i).gone with
            | true =>
              rw [if_pos rfl]
              by_cases hm : i ∈ ch
              · simp [hm, q2 (by omega) hg hm]
              · simp [hm]
            | false =>
              rw [if_neg Bool.false_ne_true]
              simpa using q3 (by omega) hg
        · have := hP i hi p hp
          unfold lhOk at this
          cases h : holdB (l.pr p) i with
          | true => rw [decide_eq_true (this.2 h)]
          | false => rw [decide_eq_false (fun q => by rw [this.1 q] at h; cases h)]
        · rcases hL with ⟨x, hx, q⟩ | hL
          · left
            rw [← Bool.not_eq_true, List.all_eq_true]
            exact fun q2 => q (of_decide_eq_true (q2 x hx))
          · exact .inr hL
  · have e := vldB_no v
    unfold chkB
    rw [e]
    simp [v]
set_option maxRecDepth 100000 in
set_option maxHeartbeats 6400000 in
theorem check_any (A1 A2 : Option Addr) (l : Ls) (n m c1 c2 : Nat) (w : World) (hn : l.cs.length = n) (hm : l.ps.length = m) (h : RdL w 0 A1 A2 l) :
    Calls Tryd.prog 19 #[.agg #[.slice A1 n c1, .slice A2 m c2]] w (BoolI (chkB l = true) w) := by
  have hb := (Below.refl w.heap.size w).alloc (Nat.le_refl _) (.cells #[.slice A1 n c1, .slice A2 m c2] 35)
  have HB := Lib.hid hb
  have HX := Lib.hid (Has.new w 35 #[.slice A1 n c1, .slice A2 m c2])
  have HL := Lib.hid (h.below hb)
  have HN := Lib.hid hn
  have HM := Lib.hid hm
  have HCI := Lib.hid (chk_iff l)
  have x0 := HX.out.cell 0
  have x1 := HX.out.cell 1
  clear hb h hn hm
  go_enter Tryd.func19, Tryd.ntmps19
  go_upto_region 1 with fail
  generalize w.alloc (.cells #[.slice A1 n c1, .slice A2 m c2] 35) = W at *
  obtain ⟨B, hB⟩ : ∃ B, B = w.heap.size := ⟨_, rfl⟩
  have HBB := Lib.hid hB
  rw [← hB] at HB HX x0 x1 ⊢
  clear hB
  have HVA := Lib.hid (valid_any A1 A2 l n m c1 c2 W HN.out HM.out HL.out)
  by_cases v : Vld l
  · have n66 : n ≤ 66 := by rw [← HN.out]; exact v.n66
    have n2 := v.n2
    have m8 : m ≤ 8 := by rw [← HM.out]; exact v.m8
    have HV := Lib.hid v
    have H1 := Lib.hid (HVA.out.mono fun e w' h => h.yes v)
    have HCH := Lib.hid (fun (V : World) (k : Below W.heap.size W V) => chain_any A1 l n c1 V HN.out (RdR.below HL.out.cs k) v)
    clear HVA v
    go_wp2_with fail
    refine (H1.out).mono ?_
    rintro e w2 ⟨rfl, hb2⟩
    have HB2 := Lib.hid hb2
    have HX2 := Lib.hid (HX.out.below hb2)
    have HCH2 := Lib.hid (HCH.out w2 hb2)
    clear hb2 x0 x1 HCH
    have x0 := HX2.out.cell 0
    have x1 := HX2.out.cell 1
    go_wp2_with fail
    refine (HCH2.out).mono ?_
    rintro e w3 (⟨hcn, rfl, hb3⟩ | ⟨ch, A3, k, c3, hcn, rfl, hk, hkn, hkc, hrd, hb3⟩)
    · have HNO : Hid (¬ chkB l = true) := Lib.hid fun q => by
        obtain ⟨-, ch, e, -⟩ := HCI.out.1 q
        rw [hcn] at e
        cases e
      have HB3 := Lib.hid (HB.out.trans ((HB2.out.trans (hb3.mono HB2.out.size)).mono (HBB.out ▸ HB.out.size)))
      clear hb3 x0 x1 hcn
      go_wp2_with fail
      go_ret
      exact ⟨false, rfl, ⟨fun h => Bool.noConfusion h, fun h => (HNO.out h).elim⟩, by rw [← HBB.out]; exact HB3.out⟩
    · have HB3 := Lib.hid (HB2.out.trans (hb3.mono HB2.out.size))
      have HX3 := Lib.hid (HX2.out.below hb3)
      have HCN := Lib.hid hcn
      have HK := Lib.hid hk
      have HRD := Lib.hid (RdR.low hrd (Nat.zero_le _))
      have hkn' : k ≤ n := by rw [← HN.out]; exact hkn
      have k66 : k ≤ 66 := by omega
      have k0 : 0 < k := by
        obtain ⟨r, e⟩ := chn_head hcn
        rw [← hk, e]
        exact Nat.succ_pos _
      have HLT := Lib.hid (chn_lt HV.out (by omega) hcn)
      have HC2 : Hid (chkB l = true ↔ (∀ i, i < l.cs.length → mlOk l ch i) ∧ (∀ i, i < l.cs.length → ∀ p, p < l.ps.length → lhOk l i p) ∧ ((∃ x ∈ l.cs, x.lock ≠ 0) ∨ bckB l ch = true)) := Lib.hid (by
        rw [HCI.out]
        constructor
        · rintro ⟨-, ch', e, h⟩
          rw [hcn] at e
          obtain rfl := Option.some.inj e
          exact h
        · exact fun h => ⟨HV.out, ch, hcn, h⟩)
      have HW := Lib.hid (fun (V : World) (q : Below w3.heap.size w3 V) => HB3.out.trans (q.mono HB3.out.size))
      have HXB := Lib.hid (fun (V : World) (q : Below w3.heap.size w3 V) => HX3.out.below q)
      have HML := Lib.hid (membersLinked_any A1 A2 A3 l ch n m k c1 c2 c3 w3 HN.out HM.out hk (HL.out.below HB3.out) HRD.out n66 m8 k66)
      have HLH := Lib.hid (fun (V : World) (q : Below w3.heap.size w3 V) => locksHeld_any A1 A2 l n m c1 c2 V HN.out HM.out (HL.out.below (HW.out V q)) n66 m8)
      have HAL := Lib.hid (fun (V : World) (q : Below w3.heap.size w3 V) => anyLocked_any A1 l.cs n c1 V HN.out (RdR.below HL.out.cs (HW.out V q)) (by unfold maxLen; omega))
      have HLB := Lib.hid (fun (V : World) (q : Below w3.heap.size w3 V) => linkedBack_any A1 A3 l ch n k c1 c3 V HN.out hk (RdR.below HL.out.cs (HW.out V q)) (RdR.below HRD.out q) k0 k66 hkc (by rw [← HN.out]; exact HLT.out))
      have hsB : B ≤ W.heap.size := HBB.out ▸ HB.out.size
      have HFN := Lib.hid (fun (V : World) (q : Below w3.heap.size w3 V) => (by rw [← HBB.out]; exact HB.out.trans ((HW.out V q).mono hsB) : Below w.heap.size w V))
      clear hb3 x0 x1 hcn hrd hk HCH2 H1 HB2
      have x0 := HX3.out.cell 0
      have x1 := HX3.out.cell 1
      go_upto_region 4 with fail
      by_cases q1 : ∀ i, i < l.cs.length → mlOk l ch i
      · have H1 := Lib.hid (HML.out.mono fun e w' h => h.yes q1)
        by_cases q2 : ∀ i, i < l.cs.length → ∀ p, p < l.ps.length → lhOk l i p
        · have H2 := Lib.hid (fun V q => (HLH.out V q).mono fun e w' h => h.yes q2)
          by_cases q3 : ∃ x ∈ l.cs, x.lock ≠ 0
          · have H3 := Lib.hid (fun V q => (HAL.out V q).mono fun e w' h => h.yes q3)
            have HYES : Hid (chkB l = true) := Lib.hid (HC2.out.2 ⟨q1, q2, .inl q3⟩)
            clear q1 q2 q3 HML HLH HAL HC2
            go_wp2_with (first | (go_at_call 40; with_reducible refine (H1.out).mono ?_; rintro e w4 ⟨rfl, hb4⟩; have x0 := (HXB.out w4 hb4).cell 0; have x1 := (HXB.out w4 hb4).cell 1) | (go_at_call 41; with_reducible refine (H2.out w4 hb4).mono ?_; rintro e w5 ⟨rfl, hb5⟩; have hb5 := hb4.trans (hb5.mono hb4.size); have x0 := (HXB.out w5 hb5).cell 0; have x1 := (HXB.out w5 hb5).cell 1) | (go_at_call 42; with_reducible refine (H3.out w5 hb5).mono ?_; rintro e w6 ⟨rfl, hb6⟩; have HF := Lib.hid (HFN.out w6 (hb5.trans (hb6.mono hb5.size))); clear hb4 hb5 hb6))
            go_ret
            exact ⟨true, rfl, ⟨fun _ => HYES.out, fun _ => rfl⟩, HF.out⟩
          · have H3 := Lib.hid (fun V q => (HAL.out V q).mono fun e w' h => h.no q3)
            have HFI : Hid (chkB l = true ↔ bckB l ch = true) := Lib.hid ⟨fun q => ((HC2.out.1 q).2.2).resolve_left q3, fun q => HC2.out.2 ⟨q1, q2, .inr q⟩⟩
            clear q1 q2 q3 HML HLH HAL HC2
            go_wp2_with (first | (go_at_call 40; with_reducible refine (H1.out).mono ?_; rintro e w4 ⟨rfl, hb4⟩; have x0 := (HXB.out w4 hb4).cell 0; have x1 := (HXB.out w4 hb4).cell 1) | (go_at_call 41; with_reducible refine (H2.out w4 hb4).mono ?_; rintro e w5 ⟨rfl, hb5⟩; have hb5 := hb4.trans (hb5.mono hb4.size); have x0 := (HXB.out w5 hb5).cell 0; have x1 := (HXB.out w5 hb5).cell 1) | (go_at_call 42; with_reducible refine (H3.out w5 hb5).mono ?_; rintro e w6 ⟨rfl, hb6⟩; have hb6 := hb5.trans (hb6.mono hb5.size); have x0 := (HXB.out w6 hb6).cell 0; have x1 := (HXB.out w6 hb6).cell 1))
            refine (HLB.out w6 hb6).mono ?_
            rintro e w7 ⟨bb, rfl, hbb, hb7⟩
            have HBQ := Lib.hid hbb
            have HF := Lib.hid (HFN.out w7 (hb6.trans (hb7.mono hb6.size)))
            clear hb4 hb5 hb6 hb7 x0 x1
            go_wp2_with fail
            go_ret
            exact ⟨bb, rfl, HBQ.out.trans HFI.out.symm, HF.out⟩
        · have H2 := Lib.hid (fun V q => (HLH.out V q).mono fun e w' h => h.no q2)
          have HNO : Hid (¬ chkB l = true) := Lib.hid fun q => q2 (HC2.out.1 q).2.1
          clear q1 q2 HML HLH HAL HC2
          go_wp2_with (first | (go_at_call 40; with_reducible refine (H1.out).mono ?_; rintro e w4 ⟨rfl, hb4⟩; have x0 := (HXB.out w4 hb4).cell 0; have x1 := (HXB.out w4 hb4).cell 1) | (go_at_call 41; with_reducible refine (H2.out w4 hb4).mono ?_; rintro e w5 ⟨rfl, hb5⟩; have HF := Lib.hid (HFN.out w5 (hb4.trans (hb5.mono hb4.size))); clear hb4 hb5))
          go_ret
          exact ⟨false, rfl, ⟨fun h => Bool.noConfusion h, fun h => (HNO.out h).elim⟩, HF.out⟩
      · have H1 := Lib.hid (HML.out.mono fun e w' h => h.no q1)
        have HNO : Hid (¬ chkB l = true) := Lib.hid fun q => q1 (HC2.out.1 q).1
        clear q1 HML HLH HAL HC2
        go_wp2_with (go_at_call 40; with_reducible refine (H1.out).mono ?_; rintro e w4 ⟨rfl, hb4⟩; have HF := Lib.hid (HFN.out w4 hb4); clear hb4)
        go_ret
        exact ⟨false, rfl, ⟨fun h => Bool.noConfusion h, fun h => (HNO.out h).elim⟩, HF.out⟩
  · have H1 := Lib.hid (HVA.out.mono fun e w' h => h.no v)
    have HNO : Hid (¬ chkB l = true) := Lib.hid fun q => v (HCI.out.1 q).1
    clear HVA v
    go_wp2_with fail
    refine (H1.out).mono ?_
    rintro e w2 ⟨rfl, hb2⟩
    have HF : Hid (Below w.heap.size w w2) := Lib.hid (by rw [← HBB.out]; exact HB.out.trans (hb2.mono (HBB.out ▸ HB.out.size)))
    clear hb2
    go_wp2_with fail
    go_ret
    exact ⟨false, rfl, ⟨fun h => Bool.noConfusion h, fun h => (HNO.out h).elim⟩, HF.out⟩
end Lk
end Go.Proofs.YtgmffgdhijcfcaaDoor
