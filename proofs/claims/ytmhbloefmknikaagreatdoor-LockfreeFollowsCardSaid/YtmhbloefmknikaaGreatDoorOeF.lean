/-
  find of the reference of chapter 12, in place. Conditions: the list may be changed in place.
-/
import Derived.Test.YtmhbloefmknikaaGreatDoorOeE
import Derived.Test.YtmhbloefmknikaaGreatDoorMaA
import Derived.Test.YtmhbloefmknikaaGreatDoorLaH
namespace Go.Proofs.YtmhbloefmknikaaGreatDoor
open Go.RowKit Go.Maps
namespace Lf
open Lk
set_option maxRecDepth 100000 in
set_option maxHeartbeats 6400000 in
theorem rfindF_any (l : Ls) (n m p s c base G1 G2 c1 c2 : Nat) (w : World) (hn : l.cs.length = n) (hm : l.ps.length = m) (h : MemL w base G1 G2 c1 c2 l) (hp : p < m) (hs : s < n) (hc : c < n) (hxs : (l.pr p).succ = (s : Int)) (hxc : (l.pr p).cell = (c : Int)) (hkr : 1 ≤ (l.pr p).kind ∧ (l.pr p).kind ≤ 3) :
    Calls Tryz.prog 121 #[.agg #[.slice (some ⟨G1, 0, none⟩) n c1, .slice (some ⟨G2, 0, none⟩) m c2], .pointer (some ⟨G2, p * 7, none⟩)] w (StP (fndV l p s c) base G1 G2 c1 c2 (.tuple #[]) w) := by
  have hp' : p < l.ps.length := by rw [hm]; exact hp
  have hs' : s < l.cs.length := by rw [hn]; exact hs
  have s0 : (0 : Int) ≤ (s : Int) := by omega
  have s1 : (s : Int) < (n : Int) := by omega
  have HK : Hid (Chg G1 G2 w _) := Lib.hid (Chg.of ((Below.refl w.heap.size w).alloc (Nat.le_refl _) (.cells #[.slice (some ⟨G1, 0, none⟩) n c1, .slice (some ⟨G2, 0, none⟩) m c2] 28)))
  have HH := Lib.hid (h.below ((Below.refl _ _).alloc (Nat.le_refl _) (.cells #[.slice (some ⟨G1, 0, none⟩) n c1, .slice (some ⟨G2, 0, none⟩) m c2] 28)))
  have HX := Lib.hid (Has.new w 28 #[.slice (some ⟨G1, 0, none⟩) n c1, .slice (some ⟨G2, 0, none⟩) m c2])
  have hbn : G1 < w.heap.size ∧ G2 < w.heap.size := ⟨h.cs.lt, h.ps.lt⟩
  have hne : ¬ G1 = G2 := h.ne
  have hne' : ¬ G2 = G1 := fun e => h.ne e.symm
  have HN := Lib.hid hn
  have HCN := Lib.hid hc
  have HXS := Lib.hid hxs
  have HXC := Lib.hid hxc
  obtain ⟨F, hF⟩ : ∃ F, F = fndV l p s c := ⟨_, rfl⟩
  have HE := Lib.hid hF
  rw [← hF]
  clear h hn hm hxs hxc hF
  go_enter Tryz.func121, Tryz.ntmps121
  go_upto_region 1 with fail
  generalize w.alloc (.cells #[.slice (some ⟨G1, 0, none⟩) n c1, .slice (some ⟨G2, 0, none⟩) m c2] 28) = W at *
  obtain ⟨B, hB⟩ : ∃ B, B = w.heap.size := ⟨_, rfl⟩
  rw [← hB] at HX hbn ⊢
  clear hB
  have x0 := HX.out.cell 0
  have x1 := HX.out.cell 1
  have hX1 : ¬ B = G1 := by omega
  have hX2 : ¬ B = G2 := by omega
  obtain ⟨z1, z2⟩ := HH.out.fz
  obtain ⟨a1, a2, a3, a4, a5, a6, a7⟩ := HH.out.proc hp'
  obtain ⟨f1, f2, f3, f4, f5⟩ := HH.out.cell hs'
  rw [HXS.out] at a5
  have HBC := Lib.hid (HH.out.b1)
  obtain ⟨xc, hxc⟩ : ∃ xc, xc = l.at_ s := ⟨_, rfl⟩
  have HXQ := Lib.hid hxc
  rw [← hxc] at f1 f2 f3 f4 f5
  obtain ⟨xk, xl, xr, xo, xg⟩ := xc
  simp only at f1 f2 f3 f4 f5
  clear hxc
  have hBW := HX.out.lt
  have hG1W := HH.out.cs.lt
  have hG2W := HH.out.ps.lt
  go_cut [4] (fun s4 wx => ∃ C : Nat, s4 = .pointer (some ⟨C, 0, none⟩) ∧ W.heap.size ≤ C ∧ Has wx C 66 #[.string xk, .int .i64 xl, .int .i64 xr, .int .i64 xo, .bool xg] ∧ Below W.heap.size W wx)
  case first =>
    go_region
    all_goals (go_wp2_with fail; go_meet)
    all_goals exact ⟨_, rfl, Nat.le_refl _, (Has.new W _ _).below (Below.refl _ _).drew, ((Below.refl W.heap.size W).alloc (Nat.le_refl _) _).drew⟩
  case rest =>
    obtain ⟨C, rfl, hCW, hC, hb⟩ := hcut
    have HH0 := Lib.hid (HH.out.below hb)
    have HK0 := Lib.hid (HK.out.add hb)
    have HX0 := Lib.hid (HX.out.below hb)
    have HC0 := Lib.hid hC
    have n1 : ¬ C = G2 := by omega
    have n2 : ¬ G2 = C := by omega
    have n3 : ¬ C = B := by omega
    have n4 : ¬ B = G2 := by omega
    have n5 : ¬ G2 = B := by omega
    clear x0 x1 z1 z2 a1 a2 a3 a4 a5 a6 a7 f1 f2 f3 f4 f5 hb hC HH HK HX
    rename World => V0
    have x0 := HX0.out.cell 0
    have x1 := HX0.out.cell 1
    have y2 := HC0.out.cell 2
    have y4 := HC0.out.cell 4
    obtain ⟨z1, z2⟩ := HH0.out.fz
    obtain ⟨a1, a2, a3, a4, a5, a6, a7⟩ := HH0.out.proc hp'
    rw [HXS.out] at a5
    rw [HXC.out] at a2
    cases xg with
    | true =>
      have HE2 : Hid (F = l.setP p { l.pr p with next := xr, phase := 14 }) := Lib.hid (by rw [HE.out]; unfold fndV; rw [← HXQ.out, if_pos rfl])
      clear HE
      have HE := HE2
      clear HE2 HXQ
      go_upto_region 2 with fail
      go_quiet (fail)
      have hq1 : Below V0.heap.size V0 (V0.drewN nq) := below_drw (Below.refl V0.heap.size V0) nq
      have HH1 := Lib.hid (HH0.out.below hq1)
      have HK1 := Lib.hid (HK0.out.add hq1)
      have HX1 := Lib.hid (HX0.out.below hq1)
      have HC1 := Lib.hid (HC0.out.below hq1)
      clear hq1 x0 x1 y2 y4 z1 z2 a1 a2 a3 a4 a5 a6 a7
      generalize V0.drewN nq = V1 at *
      clear HH0 HK0 HX0 HC0
      have x0 := HX1.out.cell 0
      have x1 := HX1.out.cell 1
      have y2 := HC1.out.cell 2
      have y4 := HC1.out.cell 4
      obtain ⟨z1, z2⟩ := HH1.out.fz
      obtain ⟨a1, a2, a3, a4, a5, a6, a7⟩ := HH1.out.proc hp'
      rw [HXS.out] at a5
      rw [HXC.out] at a2
      have hp2 : p < (l.setP p { l.pr p with next := xr }).ps.length := by rw [Ls.len_setP]; exact hp'
      have HP2 : Hid ((l.setP p { l.pr p with next := xr }).pr p = { l.pr p with next := xr }) := Lib.hid (Ls.pr_self l hp' _)
      have HH2 := Lib.hid (HH1.out.setP hp' 5 (by decide) (.int .i64 xr) { l.pr p with next := xr } rfl)
      have HK2 := Lib.hid (HK1.out.set2 (p * 7 + 5) (.int .i64 xr))
      have HX2 := Lib.hid (has_far (p := ⟨G2, p * 7 + 5, none⟩) HX1.out (by simp only; omega) (.int .i64 xr))
      have HC2 := Lib.hid (has_far (p := ⟨G2, p * 7 + 5, none⟩) HC1.out (by simp only; omega) (.int .i64 xr))
      go_upto_region 5 with fail
      clear x0 x1 y2 y4 z1 z2 a1 a2 a3 a4 a5 a6 a7 HH1 HK1 HX1 HC1
      generalize V1.setCell ⟨G2, p * 7 + 5, none⟩ (.int .i64 xr) = V2 at *
      have x0 := HX2.out.cell 0
      have x1 := HX2.out.cell 1
      have y2 := HC2.out.cell 2
      have y4 := HC2.out.cell 4
      obtain ⟨z1, z2⟩ := HH2.out.fz
      obtain ⟨a1, a2, a3, a4, a5, a6, a7⟩ := HH2.out.proc hp2
      rw [HP2.out] at a1 a2 a3 a4 a5 a6 a7
      simp only at a1 a2 a3 a4 a5 a6 a7
      rw [HXS.out] at a5
      rw [HXC.out] at a2
      go_quiet (fail)
      have hq3 : Below V2.heap.size V2 (V2.drewN nq) := below_drw (Below.refl V2.heap.size V2) nq
      have HH3 := Lib.hid (HH2.out.below hq3)
      have HK3 := Lib.hid (HK2.out.add hq3)
      have HX3 := Lib.hid (HX2.out.below hq3)
      have HC3 := Lib.hid (HC2.out.below hq3)
      clear hq3 x0 x1 y2 y4 z1 z2 a1 a2 a3 a4 a5 a6 a7
      generalize V2.drewN nq = V3 at *
      clear HH2 HK2 HX2 HC2
      have x0 := HX3.out.cell 0
      have x1 := HX3.out.cell 1
      have y2 := HC3.out.cell 2
      have y4 := HC3.out.cell 4
      obtain ⟨z1, z2⟩ := HH3.out.fz
      obtain ⟨a1, a2, a3, a4, a5, a6, a7⟩ := HH3.out.proc hp2
      rw [HP2.out] at a1 a2 a3 a4 a5 a6 a7
      simp only at a1 a2 a3 a4 a5 a6 a7
      rw [HXS.out] at a5
      rw [HXC.out] at a2
      go_wp2_with fail
      clear x0 x1 y2 y4 z1 z2 a1 a2 a3 a4 a5 a6 a7
      go_end0
      have HI := HH3.out.init hp2
      rw [HP2.out] at HI
      refine ⟨rfl, ?_, (HK3.out.set2 _ _)⟩
      rw [HE.out]
      have hz := (HI.up (l := l.setP p { l.pr p with next := xr }) hp2 2 (by decide) (.int .i64 14) { l.pr p with next := xr, phase := 14 } rfl)
      rwa [Ls.setP_setP] at hz
    | false =>
      cases hbl : blw l s c with
      | true =>
        have HE2 : Hid (F = l.setP p { l.pr p with pred := (s : Int), succ := xr }) := Lib.hid (by rw [HE.out]; unfold fndV; rw [if_neg (by rw [← HXQ.out]; exact Bool.false_ne_true), if_pos hbl, ← HXQ.out])
        clear HE
        have HE := HE2
        have HBT : Hid (blw l s c = true) := Lib.hid hbl
        clear HE2 HXQ hbl
        have HBL := Lib.hid (rblw_any (some ⟨G1, 0, none⟩) (some ⟨G2, 0, none⟩) l n m c1 c2 s c base V0.drew HN.out ((HH0.out.drew).rd.cs) (by have := HN.out; omega) HCN.out)
        rw [HBT.out] at HBL
        have hS0 : V0.drew.cell? ⟨B, 0, none⟩ = some (.slice (some ⟨G1, 0, none⟩) n c1) ∧ V0.drew.cell? ⟨B, 1, none⟩ = some (.slice (some ⟨G2, 0, none⟩) m c2) ∧ V0.drew.cell? ⟨C, 4, none⟩ = some (.bool false) ∧ V0.drew.cell? ⟨G2, p * 7 + 4, none⟩ = some (.int .i64 (s : Int)) ∧ V0.drew.cell? ⟨G2, p * 7 + 1, none⟩ = some (.int .i64 (c : Int)) := ⟨x0, x1, y4, a5, a2⟩
        have HHd := Lib.hid HH0.out.drew
        have HKd := Lib.hid HK0.out.drew
        have HXd := Lib.hid (HX0.out.below (Below.refl _ V0).drew)
        have HCd := Lib.hid (HC0.out.below (Below.refl _ V0).drew)
        go_upto_region 2 with fail
        go_region_held3 (fun V => V.cell? ⟨B, 0, none⟩ = some (.slice (some ⟨G1, 0, none⟩) n c1) ∧ V.cell? ⟨B, 1, none⟩ = some (.slice (some ⟨G2, 0, none⟩) m c2) ∧ V.cell? ⟨C, 4, none⟩ = some (.bool false) ∧ V.cell? ⟨G2, p * 7 + 4, none⟩ = some (.int .i64 (s : Int)) ∧ V.cell? ⟨G2, p * 7 + 1, none⟩ = some (.int .i64 (c : Int))) (first | with_reducible exact hS5 | with_reducible exact hS0 | with_reducible assumption) ((go_at_call 60; (with_reducible refine (HBL.out).mono ?_); rintro e V1 ⟨rfl, hb5⟩; have HH1 := Lib.hid (HHd.out.below hb5); have HK1 := Lib.hid (HKd.out.add hb5); have HX1 := Lib.hid (HXd.out.below hb5); have HC1 := Lib.hid (HCd.out.below hb5); obtain ⟨k1, k2, k3, k4, k5, k6, k7⟩ := HH1.out.proc hp'; rw [HXC.out] at k2; rw [HXS.out] at k5; have hS5 : V1.cell? ⟨B, 0, none⟩ = some (.slice (some ⟨G1, 0, none⟩) n c1) ∧ V1.cell? ⟨B, 1, none⟩ = some (.slice (some ⟨G2, 0, none⟩) m c2) ∧ V1.cell? ⟨C, 4, none⟩ = some (.bool false) ∧ V1.cell? ⟨G2, p * 7 + 4, none⟩ = some (.int .i64 (s : Int)) ∧ V1.cell? ⟨G2, p * 7 + 1, none⟩ = some (.int .i64 (c : Int)) := ⟨HX1.out.cell 0, HX1.out.cell 1, HC1.out.cell 4, k5, k2⟩; clear hb5 k1 k2 k3 k4 k5 k6 k7))
        clear hS0 hS5 x0 x1 y2 y4 z1 z2 a1 a2 a3 a4 a5 a6 a7 HHd HKd HXd HCd HH0 HK0 HX0 HC0 HBL
        have x0 := HX1.out.cell 0
        have x1 := HX1.out.cell 1
        have y2 := HC1.out.cell 2
        have y4 := HC1.out.cell 4
        obtain ⟨z1, z2⟩ := HH1.out.fz
        obtain ⟨a1, a2, a3, a4, a5, a6, a7⟩ := HH1.out.proc hp'
        rw [HXS.out] at a5
        rw [HXC.out] at a2
        go_upto_region 3 with fail
        go_region
        all_goals (clear x0 x1 y2 y4 z1 z2 a1 a2 a3 a4 a5 a6 a7; go_wp2_with fail; go_end0; refine ⟨rfl, ?_, Chg.drew ((HK1.out.set2 _ _).set2 _ _)⟩; rw [HE.out]; exact MemL.drew (((HH1.out.init hp').up hp' 3 (by decide) (.int .i64 (s : Int)) { l.pr p with pred := (s : Int) } rfl).up hp' 4 (by decide) (.int .i64 xr) { l.pr p with pred := (s : Int), succ := xr } rfl))
      | false =>
        have HE2 : Hid (F = dcdV (l.setP p { l.pr p with next := xr }) p) := Lib.hid (by rw [HE.out]; unfold fndV; rw [if_neg (by rw [← HXQ.out]; exact Bool.false_ne_true), if_neg (by rw [hbl]; decide), ← HXQ.out])
        have HBT : Hid (blw l s c = false) := Lib.hid hbl
        clear HE HXQ hbl
        have HBL := Lib.hid (rblw_any (some ⟨G1, 0, none⟩) (some ⟨G2, 0, none⟩) l n m c1 c2 s c base V0.drew HN.out ((HH0.out.drew).rd.cs) (by have := HN.out; omega) HCN.out)
        rw [HBT.out] at HBL
        have hS0 : V0.drew.cell? ⟨B, 0, none⟩ = some (.slice (some ⟨G1, 0, none⟩) n c1) ∧ V0.drew.cell? ⟨B, 1, none⟩ = some (.slice (some ⟨G2, 0, none⟩) m c2) ∧ V0.drew.cell? ⟨C, 4, none⟩ = some (.bool false) ∧ V0.drew.cell? ⟨G2, p * 7 + 4, none⟩ = some (.int .i64 (s : Int)) ∧ V0.drew.cell? ⟨G2, p * 7 + 1, none⟩ = some (.int .i64 (c : Int)) := ⟨x0, x1, y4, a5, a2⟩
        have HHd := Lib.hid HH0.out.drew
        have HKd := Lib.hid HK0.out.drew
        have HXd := Lib.hid (HX0.out.below (Below.refl _ V0).drew)
        have HCd := Lib.hid (HC0.out.below (Below.refl _ V0).drew)
        go_upto_region 2 with fail
        go_region_held3 (fun V => V.cell? ⟨B, 0, none⟩ = some (.slice (some ⟨G1, 0, none⟩) n c1) ∧ V.cell? ⟨B, 1, none⟩ = some (.slice (some ⟨G2, 0, none⟩) m c2) ∧ V.cell? ⟨C, 4, none⟩ = some (.bool false) ∧ V.cell? ⟨G2, p * 7 + 4, none⟩ = some (.int .i64 (s : Int)) ∧ V.cell? ⟨G2, p * 7 + 1, none⟩ = some (.int .i64 (c : Int))) (first | with_reducible exact hS5 | with_reducible exact hS0 | with_reducible assumption) ((go_at_call 60; (with_reducible refine (HBL.out).mono ?_); rintro e V1 ⟨rfl, hb5⟩; have HH1 := Lib.hid (HHd.out.below hb5); have HK1 := Lib.hid (HKd.out.add hb5); have HX1 := Lib.hid (HXd.out.below hb5); have HC1 := Lib.hid (HCd.out.below hb5); obtain ⟨k1, k2, k3, k4, k5, k6, k7⟩ := HH1.out.proc hp'; rw [HXC.out] at k2; rw [HXS.out] at k5; have hS5 : V1.cell? ⟨B, 0, none⟩ = some (.slice (some ⟨G1, 0, none⟩) n c1) ∧ V1.cell? ⟨B, 1, none⟩ = some (.slice (some ⟨G2, 0, none⟩) m c2) ∧ V1.cell? ⟨C, 4, none⟩ = some (.bool false) ∧ V1.cell? ⟨G2, p * 7 + 4, none⟩ = some (.int .i64 (s : Int)) ∧ V1.cell? ⟨G2, p * 7 + 1, none⟩ = some (.int .i64 (c : Int)) := ⟨HX1.out.cell 0, HX1.out.cell 1, HC1.out.cell 4, k5, k2⟩; clear hb5 k1 k2 k3 k4 k5 k6 k7))
        clear hS0 hS5 x0 x1 y2 y4 z1 z2 a1 a2 a3 a4 a5 a6 a7 HHd HKd HXd HCd HH0 HK0 HX0 HC0 HBL
        have x0 := HX1.out.cell 0
        have x1 := HX1.out.cell 1
        have y2 := HC1.out.cell 2
        have y4 := HC1.out.cell 4
        obtain ⟨z1, z2⟩ := HH1.out.fz
        obtain ⟨a1, a2, a3, a4, a5, a6, a7⟩ := HH1.out.proc hp'
        rw [HXS.out] at a5
        rw [HXC.out] at a2
        have hp2 : p < (l.setP p { l.pr p with next := xr }).ps.length := by rw [Ls.len_setP]; exact hp'
        have HP2 : Hid ((l.setP p { l.pr p with next := xr }).pr p = { l.pr p with next := xr }) := Lib.hid (Ls.pr_self l hp' _)
        have HH2 := Lib.hid (HH1.out.setP hp' 5 (by decide) (.int .i64 xr) { l.pr p with next := xr } rfl)
        have HK2 := Lib.hid (HK1.out.set2 (p * 7 + 5) (.int .i64 xr))
        have HX2 := Lib.hid (has_far (p := ⟨G2, p * 7 + 5, none⟩) HX1.out (by simp only; omega) (.int .i64 xr))
        have HC2 := Lib.hid (has_far (p := ⟨G2, p * 7 + 5, none⟩) HC1.out (by simp only; omega) (.int .i64 xr))
        go_upto_region 5 with fail
        clear x0 x1 y2 y4 z1 z2 a1 a2 a3 a4 a5 a6 a7 HH1 HK1 HX1 HC1
        generalize V1.setCell ⟨G2, p * 7 + 5, none⟩ (.int .i64 xr) = V2 at *
        have x0 := HX2.out.cell 0
        have x1 := HX2.out.cell 1
        have y2 := HC2.out.cell 2
        have y4 := HC2.out.cell 4
        obtain ⟨z1, z2⟩ := HH2.out.fz
        obtain ⟨a1, a2, a3, a4, a5, a6, a7⟩ := HH2.out.proc hp2
        rw [HP2.out] at a1 a2 a3 a4 a5 a6 a7
        simp only at a1 a2 a3 a4 a5 a6 a7
        rw [HXS.out] at a5
        rw [HXC.out] at a2
        have HKD : Hid (({ l.pr p with next := xr } : Po).kind = (l.pr p).kind) := Lib.hid rfl
        by_cases hsc : (s : Int) = (c : Int)
        · have e5 : ((s : Int) == (c : Int)) = true := by simpa using hsc
          have e6 : decide ((s : Int) = (c : Int)) = true := by simpa using hsc
          by_cases k3 : (l.pr p).kind = 3
          · have HE : Hid (F = l.setP p { l.pr p with next := xr, res := true, phase := 18 }) := Lib.hid (by
              rw [HE2.out]
              unfold dcdV
              rw [HP2.out]
              simp [k3, HXS.out, HXC.out, hsc, Ls.setP_setP])
            clear HE2
            have e3 : ((l.pr p).kind == 3) = true := by simpa using k3
            have e1 : ((l.pr p).kind == 1) = false := by simp [k3]
            have e2 : ((l.pr p).kind == 2) = false := by simp [k3]
            go_quiet (fail)
            have hq3 : Below V2.heap.size V2 (V2.drewN nq) := below_drw (Below.refl V2.heap.size V2) nq
            have HH3 := Lib.hid (HH2.out.below hq3)
            have HK3 := Lib.hid (HK2.out.add hq3)
            have HX3 := Lib.hid (HX2.out.below hq3)
            have HC3 := Lib.hid (HC2.out.below hq3)
            clear hq3 x0 x1 y2 y4 z1 z2 a1 a2 a3 a4 a5 a6 a7
            generalize V2.drewN nq = V3 at *
            clear HH2 HK2 HX2 HC2
            have x0 := HX3.out.cell 0
            have x1 := HX3.out.cell 1
            have y2 := HC3.out.cell 2
            have y4 := HC3.out.cell 4
            obtain ⟨z1, z2⟩ := HH3.out.fz
            obtain ⟨a1, a2, a3, a4, a5, a6, a7⟩ := HH3.out.proc hp2
            rw [HP2.out] at a1 a2 a3 a4 a5 a6 a7
            simp only at a1 a2 a3 a4 a5 a6 a7
            rw [HXS.out] at a5
            rw [HXC.out] at a2
            go_wp2_with fail
            clear x0 x1 y2 y4 z1 z2 a1 a2 a3 a4 a5 a6 a7
            go_end0
            have HI := HH3.out.init hp2
            rw [HP2.out] at HI
            refine ⟨rfl, ?_, ((HK3.out.set2 _ _).set2 _ _)⟩
            rw [HE.out]
            have hz := ((HI.up (l := l.setP p { l.pr p with next := xr }) hp2 6 (by decide) (.bool true) { l.pr p with next := xr, res := true } rfl).up (l := l.setP p { l.pr p with next := xr }) hp2 2 (by decide) (.int .i64 18) { l.pr p with next := xr, res := true, phase := 18 } rfl)
            rwa [Ls.setP_setP] at hz
          · by_cases k1 : (l.pr p).kind = 1
            · have HE : Hid (F = l.setP p { l.pr p with next := xr, phase := 6 }) := Lib.hid (by
                rw [HE2.out]
                unfold dcdV
                rw [HP2.out]
                simp [k1, HXS.out, HXC.out, hsc, Ls.setP_setP])
              clear HE2
              have e1 : ((l.pr p).kind == 1) = true := by simpa using k1
              go_quiet (fail)
              have hq3 : Below V2.heap.size V2 (V2.drewN nq) := below_drw (Below.refl V2.heap.size V2) nq
              have HH3 := Lib.hid (HH2.out.below hq3)
              have HK3 := Lib.hid (HK2.out.add hq3)
              have HX3 := Lib.hid (HX2.out.below hq3)
              have HC3 := Lib.hid (HC2.out.below hq3)
              clear hq3 x0 x1 y2 y4 z1 z2 a1 a2 a3 a4 a5 a6 a7
              generalize V2.drewN nq = V3 at *
              clear HH2 HK2 HX2 HC2
              have x0 := HX3.out.cell 0
              have x1 := HX3.out.cell 1
              have y2 := HC3.out.cell 2
              have y4 := HC3.out.cell 4
              obtain ⟨z1, z2⟩ := HH3.out.fz
              obtain ⟨a1, a2, a3, a4, a5, a6, a7⟩ := HH3.out.proc hp2
              rw [HP2.out] at a1 a2 a3 a4 a5 a6 a7
              simp only at a1 a2 a3 a4 a5 a6 a7
              rw [HXS.out] at a5
              rw [HXC.out] at a2
              go_wp2_with fail
              clear x0 x1 y2 y4 z1 z2 a1 a2 a3 a4 a5 a6 a7
              go_end0
              have HI := HH3.out.init hp2
              rw [HP2.out] at HI
              refine ⟨rfl, ?_, (HK3.out.set2 _ _)⟩
              rw [HE.out]
              have hz := (HI.up (l := l.setP p { l.pr p with next := xr }) hp2 2 (by decide) (.int .i64 6) { l.pr p with next := xr, phase := 6 } rfl)
              rwa [Ls.setP_setP] at hz
            · have hk02 : (l.pr p).kind = 2 := by have := hkr; omega
              have k2 := hk02
              have HE : Hid (F = l.setP p { l.pr p with next := xr, phase := 16 }) := Lib.hid (by
                rw [HE2.out]
                unfold dcdV
                rw [HP2.out]
                simp [k3, k1, HXS.out, HXC.out, hsc, Ls.setP_setP])
              clear HE2
              have e2 : ((l.pr p).kind == 2) = true := by simpa using k2
              have e1 : ((l.pr p).kind == 1) = false := by simp [k2]
              have e3 : ((l.pr p).kind == 3) = false := by simp [k2]
              go_quiet (fail)
              have hq3 : Below V2.heap.size V2 (V2.drewN nq) := below_drw (Below.refl V2.heap.size V2) nq
              have HH3 := Lib.hid (HH2.out.below hq3)
              have HK3 := Lib.hid (HK2.out.add hq3)
              have HX3 := Lib.hid (HX2.out.below hq3)
              have HC3 := Lib.hid (HC2.out.below hq3)
              clear hq3 x0 x1 y2 y4 z1 z2 a1 a2 a3 a4 a5 a6 a7
              generalize V2.drewN nq = V3 at *
              clear HH2 HK2 HX2 HC2
              have x0 := HX3.out.cell 0
              have x1 := HX3.out.cell 1
              have y2 := HC3.out.cell 2
              have y4 := HC3.out.cell 4
              obtain ⟨z1, z2⟩ := HH3.out.fz
              obtain ⟨a1, a2, a3, a4, a5, a6, a7⟩ := HH3.out.proc hp2
              rw [HP2.out] at a1 a2 a3 a4 a5 a6 a7
              simp only at a1 a2 a3 a4 a5 a6 a7
              rw [HXS.out] at a5
              rw [HXC.out] at a2
              go_wp2_with fail
              clear x0 x1 y2 y4 z1 z2 a1 a2 a3 a4 a5 a6 a7
              go_end0
              have HI := HH3.out.init hp2
              rw [HP2.out] at HI
              refine ⟨rfl, ?_, (HK3.out.set2 _ _)⟩
              rw [HE.out]
              have hz := (HI.up (l := l.setP p { l.pr p with next := xr }) hp2 2 (by decide) (.int .i64 16) { l.pr p with next := xr, phase := 16 } rfl)
              rwa [Ls.setP_setP] at hz
        · have e5 : ((s : Int) == (c : Int)) = false := by simpa using hsc
          have e6 : decide ((s : Int) = (c : Int)) = false := by simpa using hsc
          by_cases k3 : (l.pr p).kind = 3
          · have HE : Hid (F = l.setP p { l.pr p with next := xr, res := false, phase := 18 }) := Lib.hid (by
              rw [HE2.out]
              unfold dcdV
              rw [HP2.out]
              simp [k3, HXS.out, HXC.out, hsc, Ls.setP_setP])
            clear HE2
            have e3 : ((l.pr p).kind == 3) = true := by simpa using k3
            have e1 : ((l.pr p).kind == 1) = false := by simp [k3]
            have e2 : ((l.pr p).kind == 2) = false := by simp [k3]
            go_quiet (fail)
            have hq3 : Below V2.heap.size V2 (V2.drewN nq) := below_drw (Below.refl V2.heap.size V2) nq
            have HH3 := Lib.hid (HH2.out.below hq3)
            have HK3 := Lib.hid (HK2.out.add hq3)
            have HX3 := Lib.hid (HX2.out.below hq3)
            have HC3 := Lib.hid (HC2.out.below hq3)
            clear hq3 x0 x1 y2 y4 z1 z2 a1 a2 a3 a4 a5 a6 a7
            generalize V2.drewN nq = V3 at *
            clear HH2 HK2 HX2 HC2
            have x0 := HX3.out.cell 0
            have x1 := HX3.out.cell 1
            have y2 := HC3.out.cell 2
            have y4 := HC3.out.cell 4
            obtain ⟨z1, z2⟩ := HH3.out.fz
            obtain ⟨a1, a2, a3, a4, a5, a6, a7⟩ := HH3.out.proc hp2
            rw [HP2.out] at a1 a2 a3 a4 a5 a6 a7
            simp only at a1 a2 a3 a4 a5 a6 a7
            rw [HXS.out] at a5
            rw [HXC.out] at a2
            go_wp2_with fail
            clear x0 x1 y2 y4 z1 z2 a1 a2 a3 a4 a5 a6 a7
            go_end0
            have HI := HH3.out.init hp2
            rw [HP2.out] at HI
            refine ⟨rfl, ?_, ((HK3.out.set2 _ _).set2 _ _)⟩
            rw [HE.out]
            have hz := ((HI.up (l := l.setP p { l.pr p with next := xr }) hp2 6 (by decide) (.bool false) { l.pr p with next := xr, res := false } rfl).up (l := l.setP p { l.pr p with next := xr }) hp2 2 (by decide) (.int .i64 18) { l.pr p with next := xr, res := false, phase := 18 } rfl)
            rwa [Ls.setP_setP] at hz
          · by_cases k1 : (l.pr p).kind = 1
            · have HE : Hid (F = l.setP p { l.pr p with next := xr, phase := 6 }) := Lib.hid (by
                rw [HE2.out]
                unfold dcdV
                rw [HP2.out]
                simp [k1, HXS.out, HXC.out, Ls.setP_setP])
              clear HE2
              have e1 : ((l.pr p).kind == 1) = true := by simpa using k1
              go_quiet (fail)
              have hq3 : Below V2.heap.size V2 (V2.drewN nq) := below_drw (Below.refl V2.heap.size V2) nq
              have HH3 := Lib.hid (HH2.out.below hq3)
              have HK3 := Lib.hid (HK2.out.add hq3)
              have HX3 := Lib.hid (HX2.out.below hq3)
              have HC3 := Lib.hid (HC2.out.below hq3)
              clear hq3 x0 x1 y2 y4 z1 z2 a1 a2 a3 a4 a5 a6 a7
              generalize V2.drewN nq = V3 at *
              clear HH2 HK2 HX2 HC2
              have x0 := HX3.out.cell 0
              have x1 := HX3.out.cell 1
              have y2 := HC3.out.cell 2
              have y4 := HC3.out.cell 4
              obtain ⟨z1, z2⟩ := HH3.out.fz
              obtain ⟨a1, a2, a3, a4, a5, a6, a7⟩ := HH3.out.proc hp2
              rw [HP2.out] at a1 a2 a3 a4 a5 a6 a7
              simp only at a1 a2 a3 a4 a5 a6 a7
              rw [HXS.out] at a5
              rw [HXC.out] at a2
              go_wp2_with fail
              clear x0 x1 y2 y4 z1 z2 a1 a2 a3 a4 a5 a6 a7
              go_end0
              have HI := HH3.out.init hp2
              rw [HP2.out] at HI
              refine ⟨rfl, ?_, (HK3.out.set2 _ _)⟩
              rw [HE.out]
              have hz := (HI.up (l := l.setP p { l.pr p with next := xr }) hp2 2 (by decide) (.int .i64 6) { l.pr p with next := xr, phase := 6 } rfl)
              rwa [Ls.setP_setP] at hz
            · have hk02 : (l.pr p).kind = 2 := by have := hkr; omega
              have k2 := hk02
              have HE : Hid (F = l.setP p { l.pr p with next := xr, phase := 18 }) := Lib.hid (by
                rw [HE2.out]
                unfold dcdV
                rw [HP2.out]
                simp [k3, k1, HXS.out, HXC.out, hsc, Ls.setP_setP])
              clear HE2
              have e2 : ((l.pr p).kind == 2) = true := by simpa using k2
              have e1 : ((l.pr p).kind == 1) = false := by simp [k2]
              have e3 : ((l.pr p).kind == 3) = false := by simp [k2]
              go_quiet (fail)
              have hq3 : Below V2.heap.size V2 (V2.drewN nq) := below_drw (Below.refl V2.heap.size V2) nq
              have HH3 := Lib.hid (HH2.out.below hq3)
              have HK3 := Lib.hid (HK2.out.add hq3)
              have HX3 := Lib.hid (HX2.out.below hq3)
              have HC3 := Lib.hid (HC2.out.below hq3)
              clear hq3 x0 x1 y2 y4 z1 z2 a1 a2 a3 a4 a5 a6 a7
              generalize V2.drewN nq = V3 at *
              clear HH2 HK2 HX2 HC2
              have x0 := HX3.out.cell 0
              have x1 := HX3.out.cell 1
              have y2 := HC3.out.cell 2
              have y4 := HC3.out.cell 4
              obtain ⟨z1, z2⟩ := HH3.out.fz
              obtain ⟨a1, a2, a3, a4, a5, a6, a7⟩ := HH3.out.proc hp2
              rw [HP2.out] at a1 a2 a3 a4 a5 a6 a7
              simp only at a1 a2 a3 a4 a5 a6 a7
              rw [HXS.out] at a5
              rw [HXC.out] at a2
              go_wp2_with fail
              clear x0 x1 y2 y4 z1 z2 a1 a2 a3 a4 a5 a6 a7
              go_end0
              have HI := HH3.out.init hp2
              rw [HP2.out] at HI
              refine ⟨rfl, ?_, (HK3.out.set2 _ _)⟩
              rw [HE.out]
              have hz := (HI.up (l := l.setP p { l.pr p with next := xr }) hp2 2 (by decide) (.int .i64 18) { l.pr p with next := xr, phase := 18 } rfl)
              rwa [Ls.setP_setP] at hz
end Lf
end Go.Proofs.YtmhbloefmknikaaGreatDoor
