/-
  check of the reference of chapter 11, in place. Conditions: the list is valid and may be changed in place.
-/
import Derived.Test.YtmhbloefmknikaaGreatDoorLzD
namespace Go.Proofs.YtmhbloefmknikaaGreatDoor
open Go.RowKit Go.Maps
namespace Lk

set_option maxRecDepth 100000 in
set_option maxHeartbeats 6400000 in
theorem rcheckp_any (l : Ls) (n m p d s c base G1 G2 c1 c2 : Nat) (w : World) (hn : l.cs.length = n) (hm : l.ps.length = m) (h : MemL w base G1 G2 c1 c2 l) (hp : p < m) (hd : d < n) (hs : s < n) (hc : c < n) (hxd : (l.pr p).pred = (d : Int)) (hxs : (l.pr p).succ = (s : Int)) (hxc : (l.pr p).cell = (c : Int)) :
    Calls Tryz.prog 105 #[.agg #[.slice (some ⟨G1, 0, none⟩) n c1, .slice (some ⟨G2, 0, none⟩) m c2], .pointer (some ⟨G2, p * 7, none⟩)] w (StP (dcdV l p d s c) base G1 G2 c1 c2 (.tuple #[]) w) := by
  have hp' : p < l.ps.length := by rw [hm]; exact hp
  have hd' : d < l.cs.length := by rw [hn]; exact hd
  have hs' : s < l.cs.length := by rw [hn]; exact hs
  have hc' : c < l.cs.length := by rw [hn]; exact hc
  have HH0 := Lib.hid (h.below ((Below.refl _ _).alloc (Nat.le_refl _) (.cells #[.slice (some ⟨G1, 0, none⟩) n c1, .slice (some ⟨G2, 0, none⟩) m c2] 28)))
  have HX0 := Lib.hid (Has.new w 28 #[.slice (some ⟨G1, 0, none⟩) n c1, .slice (some ⟨G2, 0, none⟩) m c2])
  have HC00 : Hid (Chg G1 G2 w (w.alloc (.cells #[.slice (some ⟨G1, 0, none⟩) n c1, .slice (some ⟨G2, 0, none⟩) m c2] 28))) := Lib.hid (Chg.of ((Below.refl w.heap.size w).alloc (Nat.le_refl _) (.cells #[.slice (some ⟨G1, 0, none⟩) n c1, .slice (some ⟨G2, 0, none⟩) m c2] 28)))
  have hbn : G1 < w.heap.size ∧ G2 < w.heap.size := ⟨h.cs.lt, h.ps.lt⟩
  have hX1 : ¬ w.heap.size = G1 := by omega
  have hX2 : ¬ w.heap.size = G2 := by omega
  have r0 : (0 : Int) ≤ (d : Int) := by omega
  have r1 : (d : Int) < (n : Int) := by omega
  have q0 : (0 : Int) ≤ (s : Int) := by omega
  have q1 : (s : Int) < (n : Int) := by omega
  have t0 : (0 : Int) ≤ (c : Int) := by omega
  have t1 : (c : Int) < (n : Int) := by omega
  have HXD := Lib.hid hxd
  have HXS := Lib.hid hxs
  have HXC := Lib.hid hxc
  obtain ⟨F, hF⟩ : ∃ F, F = dcdV l p d s c := ⟨_, rfl⟩
  have HFV := Lib.hid hF
  unfold dcdV at hF
  rw [show dcdV l p d s c = F from HFV.out.symm]
  clear h hn hm hxd hxs hxc HFV
  by_cases hk : (l.pr p).kind = 3
  · rw [if_pos hk] at hF
    have hkd : decide ((l.pr p).kind = 3) = true := decide_eq_true hk
    have hkd2 : ((l.pr p).kind == 3) = true := by simpa using hk
    by_cases hsc : s = c
    · subst hsc
      cases hg : (l.at_ s).gone with
      | true =>
        rw [hg] at hF
        replace hF := Lib.hid (show F = l.setP p { l.pr p with res := false, phase := 18 } by rw [hF]; simp)
        go_enter Tryz.func105, Tryz.ntmps105
        go_upto_region 1 with fail
        have HH := HH0
        have HX := HX0
        have HC0 := HC00
        clear HH0 HX0 HC00
        generalize w.alloc (.cells #[.slice (some ⟨G1, 0, none⟩) n c1, .slice (some ⟨G2, 0, none⟩) m c2] 28) = W at *
        obtain ⟨z1, z2⟩ := HH.out.fz
        obtain ⟨a1, a2, a3, a4, a5, -, a7⟩ := HH.out.proc hp'
        obtain ⟨-, -, b3, -, b5⟩ := HH.out.cell hd'
        obtain ⟨-, -, -, -, e5⟩ := HH.out.cell hs'
        obtain ⟨-, -, -, -, f5⟩ := HH.out.cell hc'
        have x0 := HX.out.cell 0
        have x1 := HX.out.cell 1
        rw [HXD.out] at a4
        rw [HXS.out] at a5
        rw [HXC.out] at a2
        rw [hg] at f5
        rw [hg] at e5
        go_quiet (fail)
        have hqb := below_drw (Below.refl W.heap.size W) nq
        have HHQ := Lib.hid (HH.out.below hqb)
        have HCQ := Lib.hid (HC0.out.add hqb)
        have HXQ := Lib.hid (HX.out.below hqb)
        clear a1 a2 a3 a4 a5 a7 b3 b5 e5 f5 z1 z2 x0 x1 hqb HH HC0 HX
        generalize W.drewN nq = V at *
        have HH := Lib.hid HHQ.out
        have HC0 := Lib.hid HCQ.out
        have HX := Lib.hid HXQ.out
        clear HHQ HCQ HXQ
        obtain ⟨z1, z2⟩ := HH.out.fz
        obtain ⟨a1, a2, a3, a4, a5, -, a7⟩ := HH.out.proc hp'
        obtain ⟨-, -, b3, -, b5⟩ := HH.out.cell hd'
        obtain ⟨-, -, -, -, e5⟩ := HH.out.cell hs'
        obtain ⟨-, -, -, -, f5⟩ := HH.out.cell hc'
        have x0 := HX.out.cell 0
        have x1 := HX.out.cell 1
        rw [HXD.out] at a4
        rw [HXS.out] at a5
        rw [HXC.out] at a2
        rw [hg] at f5
        rw [hg] at e5
        go_upto_region 4 with fail
        have HHQ := Lib.hid HH.out.drew
        have HCQ := Lib.hid HC0.out.drew
        have HXQ := Lib.hid (HX.out.below (Below.refl _ V).drew)
        go_region
        all_goals (go_wp2_with fail; go_end0; refine ⟨rfl, ?_, ((HCQ.out).set2 _ _).set2 _ _⟩; rw [hF.out]; exact ((HHQ.out.init hp').up hp' 6 (by decide) (.bool false) { l.pr p with res := false } rfl).up hp' 2 (by decide) (.int .i64 18) { l.pr p with res := false, phase := 18 } rfl)
      | false =>
        rw [hg] at hF
        replace hF := Lib.hid (show F = l.setP p { l.pr p with res := true, phase := 18 } by rw [hF]; simp)
        go_enter Tryz.func105, Tryz.ntmps105
        go_upto_region 1 with fail
        have HH := HH0
        have HX := HX0
        have HC0 := HC00
        clear HH0 HX0 HC00
        generalize w.alloc (.cells #[.slice (some ⟨G1, 0, none⟩) n c1, .slice (some ⟨G2, 0, none⟩) m c2] 28) = W at *
        obtain ⟨z1, z2⟩ := HH.out.fz
        obtain ⟨a1, a2, a3, a4, a5, -, a7⟩ := HH.out.proc hp'
        obtain ⟨-, -, b3, -, b5⟩ := HH.out.cell hd'
        obtain ⟨-, -, -, -, e5⟩ := HH.out.cell hs'
        obtain ⟨-, -, -, -, f5⟩ := HH.out.cell hc'
        have x0 := HX.out.cell 0
        have x1 := HX.out.cell 1
        rw [HXD.out] at a4
        rw [HXS.out] at a5
        rw [HXC.out] at a2
        rw [hg] at f5
        rw [hg] at e5
        go_quiet (fail)
        have hqb := below_drw (Below.refl W.heap.size W) nq
        have HHQ := Lib.hid (HH.out.below hqb)
        have HCQ := Lib.hid (HC0.out.add hqb)
        have HXQ := Lib.hid (HX.out.below hqb)
        clear a1 a2 a3 a4 a5 a7 b3 b5 e5 f5 z1 z2 x0 x1 hqb HH HC0 HX
        generalize W.drewN nq = V at *
        have HH := Lib.hid HHQ.out
        have HC0 := Lib.hid HCQ.out
        have HX := Lib.hid HXQ.out
        clear HHQ HCQ HXQ
        obtain ⟨z1, z2⟩ := HH.out.fz
        obtain ⟨a1, a2, a3, a4, a5, -, a7⟩ := HH.out.proc hp'
        obtain ⟨-, -, b3, -, b5⟩ := HH.out.cell hd'
        obtain ⟨-, -, -, -, e5⟩ := HH.out.cell hs'
        obtain ⟨-, -, -, -, f5⟩ := HH.out.cell hc'
        have x0 := HX.out.cell 0
        have x1 := HX.out.cell 1
        rw [HXD.out] at a4
        rw [HXS.out] at a5
        rw [HXC.out] at a2
        rw [hg] at f5
        rw [hg] at e5
        go_upto_region 4 with fail
        have HHQ := Lib.hid HH.out.drew
        have HCQ := Lib.hid HC0.out.drew
        have HXQ := Lib.hid (HX.out.below (Below.refl _ V).drew)
        go_region
        all_goals (go_wp2_with fail; go_end0; refine ⟨rfl, ?_, ((HCQ.out).set2 _ _).set2 _ _⟩; rw [hF.out]; exact ((HHQ.out.init hp').up hp' 6 (by decide) (.bool true) { l.pr p with res := true } rfl).up hp' 2 (by decide) (.int .i64 18) { l.pr p with res := true, phase := 18 } rfl)
    · have hsd : decide ((s : Int) = (c : Int)) = false := decide_eq_false (by omega)
      have hsd2 : ((s : Int) == (c : Int)) = false := by simp; omega
      replace hF := Lib.hid (show F = l.setP p { l.pr p with res := false, phase := 18 } by rw [hF]; simp [hsc])
      go_enter Tryz.func105, Tryz.ntmps105
      go_upto_region 1 with fail
      have HH := HH0
      have HX := HX0
      have HC0 := HC00
      clear HH0 HX0 HC00
      generalize w.alloc (.cells #[.slice (some ⟨G1, 0, none⟩) n c1, .slice (some ⟨G2, 0, none⟩) m c2] 28) = W at *
      obtain ⟨z1, z2⟩ := HH.out.fz
      obtain ⟨a1, a2, a3, a4, a5, -, a7⟩ := HH.out.proc hp'
      obtain ⟨-, -, b3, -, b5⟩ := HH.out.cell hd'
      obtain ⟨-, -, -, -, e5⟩ := HH.out.cell hs'
      obtain ⟨-, -, -, -, f5⟩ := HH.out.cell hc'
      have x0 := HX.out.cell 0
      have x1 := HX.out.cell 1
      rw [HXD.out] at a4
      rw [HXS.out] at a5
      rw [HXC.out] at a2
      go_quiet (fail)
      have hqb := below_drw (Below.refl W.heap.size W) nq
      have HHQ := Lib.hid (HH.out.below hqb)
      have HCQ := Lib.hid (HC0.out.add hqb)
      have HXQ := Lib.hid (HX.out.below hqb)
      clear a1 a2 a3 a4 a5 a7 b3 b5 e5 f5 z1 z2 x0 x1 hqb HH HC0 HX
      generalize W.drewN nq = V at *
      have HH := Lib.hid HHQ.out
      have HC0 := Lib.hid HCQ.out
      have HX := Lib.hid HXQ.out
      clear HHQ HCQ HXQ
      obtain ⟨z1, z2⟩ := HH.out.fz
      obtain ⟨a1, a2, a3, a4, a5, -, a7⟩ := HH.out.proc hp'
      obtain ⟨-, -, b3, -, b5⟩ := HH.out.cell hd'
      obtain ⟨-, -, -, -, e5⟩ := HH.out.cell hs'
      obtain ⟨-, -, -, -, f5⟩ := HH.out.cell hc'
      have x0 := HX.out.cell 0
      have x1 := HX.out.cell 1
      rw [HXD.out] at a4
      rw [HXS.out] at a5
      rw [HXC.out] at a2
      go_upto_region 4 with fail
      have HHQ := Lib.hid HH.out.drew
      have HCQ := Lib.hid HC0.out.drew
      have HXQ := Lib.hid (HX.out.below (Below.refl _ V).drew)
      go_region
      all_goals (go_wp2_with fail; go_end0; refine ⟨rfl, ?_, ((HCQ.out).set2 _ _).set2 _ _⟩; rw [hF.out]; exact ((HHQ.out.init hp').up hp' 6 (by decide) (.bool false) { l.pr p with res := false } rfl).up hp' 2 (by decide) (.int .i64 18) { l.pr p with res := false, phase := 18 } rfl)
  · rw [if_neg hk] at hF
    have hkd : decide ((l.pr p).kind = 3) = false := decide_eq_false hk
    have hkd2 : ((l.pr p).kind == 3) = false := by simpa using hk
    cases hg : (l.at_ d).gone with
    | true =>
      rw [if_pos (.inl hg)] at hF
      replace hF := Lib.hid hF
      go_enter Tryz.func105, Tryz.ntmps105
      go_upto_region 1 with fail
      have HH := HH0
      have HX := HX0
      have HC0 := HC00
      clear HH0 HX0 HC00
      generalize w.alloc (.cells #[.slice (some ⟨G1, 0, none⟩) n c1, .slice (some ⟨G2, 0, none⟩) m c2] 28) = W at *
      obtain ⟨z1, z2⟩ := HH.out.fz
      obtain ⟨a1, a2, a3, a4, a5, -, a7⟩ := HH.out.proc hp'
      obtain ⟨-, -, b3, -, b5⟩ := HH.out.cell hd'
      obtain ⟨-, -, -, -, e5⟩ := HH.out.cell hs'
      obtain ⟨-, -, -, -, f5⟩ := HH.out.cell hc'
      have x0 := HX.out.cell 0
      have x1 := HX.out.cell 1
      rw [HXD.out] at a4
      rw [HXS.out] at a5
      rw [HXC.out] at a2
      rw [hg] at b5
      go_quiet (fail)
      have hqb := below_drw (Below.refl W.heap.size W) nq
      have HHQ := Lib.hid (HH.out.below hqb)
      have HCQ := Lib.hid (HC0.out.add hqb)
      have HXQ := Lib.hid (HX.out.below hqb)
      clear a1 a2 a3 a4 a5 a7 b3 b5 e5 f5 z1 z2 x0 x1 hqb HH HC0 HX
      generalize W.drewN nq = V at *
      have HH := Lib.hid HHQ.out
      have HC0 := Lib.hid HCQ.out
      have HX := Lib.hid HXQ.out
      clear HHQ HCQ HXQ
      obtain ⟨z1, z2⟩ := HH.out.fz
      obtain ⟨a1, a2, a3, a4, a5, -, a7⟩ := HH.out.proc hp'
      obtain ⟨-, -, b3, -, b5⟩ := HH.out.cell hd'
      obtain ⟨-, -, -, -, e5⟩ := HH.out.cell hs'
      obtain ⟨-, -, -, -, f5⟩ := HH.out.cell hc'
      have x0 := HX.out.cell 0
      have x1 := HX.out.cell 1
      rw [HXD.out] at a4
      rw [HXS.out] at a5
      rw [HXC.out] at a2
      rw [hg] at b5
      go_upto_region 5 with fail
      go_quiet (fail)
      have hqb := below_drw (Below.refl V.heap.size V) nq
      have HHQ := Lib.hid (HH.out.below hqb)
      have HCQ := Lib.hid (HC0.out.add hqb)
      have HXQ := Lib.hid (HX.out.below hqb)
      clear a1 a2 a3 a4 a5 a7 b3 b5 e5 f5 z1 z2 x0 x1 hqb HH HC0 HX
      generalize V.drewN nq = U at *
      have HH := Lib.hid HHQ.out
      have HC0 := Lib.hid HCQ.out
      have HX := Lib.hid HXQ.out
      clear HHQ HCQ HXQ
      obtain ⟨z1, z2⟩ := HH.out.fz
      obtain ⟨a1, a2, a3, a4, a5, -, a7⟩ := HH.out.proc hp'
      obtain ⟨-, -, b3, -, b5⟩ := HH.out.cell hd'
      obtain ⟨-, -, -, -, e5⟩ := HH.out.cell hs'
      obtain ⟨-, -, -, -, f5⟩ := HH.out.cell hc'
      have x0 := HX.out.cell 0
      have x1 := HX.out.cell 1
      rw [HXD.out] at a4
      rw [HXS.out] at a5
      rw [HXC.out] at a2
      rw [hg] at b5
      go_wp2_with fail
      clear a1 a2 a3 a4 a5 a7 b3 b5 e5 f5 z1 z2 x0 x1
      go_end0
      refine ⟨rfl, ?_, (HC0.out).set2 _ _⟩
      rw [hF.out]
      exact (HH.out.init hp').up hp' 2 (by decide) (.int .i64 5) { l.pr p with phase := 5 } rfl
    | false =>
      cases hg2 : (l.at_ s).gone with
      | true =>
        rw [if_pos (.inr (.inl hg2))] at hF
        replace hF := Lib.hid hF
        go_enter Tryz.func105, Tryz.ntmps105
        go_upto_region 1 with fail
        have HH := HH0
        have HX := HX0
        have HC0 := HC00
        clear HH0 HX0 HC00
        generalize w.alloc (.cells #[.slice (some ⟨G1, 0, none⟩) n c1, .slice (some ⟨G2, 0, none⟩) m c2] 28) = W at *
        obtain ⟨z1, z2⟩ := HH.out.fz
        obtain ⟨a1, a2, a3, a4, a5, -, a7⟩ := HH.out.proc hp'
        obtain ⟨-, -, b3, -, b5⟩ := HH.out.cell hd'
        obtain ⟨-, -, -, -, e5⟩ := HH.out.cell hs'
        obtain ⟨-, -, -, -, f5⟩ := HH.out.cell hc'
        have x0 := HX.out.cell 0
        have x1 := HX.out.cell 1
        rw [HXD.out] at a4
        rw [HXS.out] at a5
        rw [HXC.out] at a2
        rw [hg] at b5
        rw [hg2] at e5
        go_quiet (fail)
        have hqb := below_drw (Below.refl W.heap.size W) nq
        have HHQ := Lib.hid (HH.out.below hqb)
        have HCQ := Lib.hid (HC0.out.add hqb)
        have HXQ := Lib.hid (HX.out.below hqb)
        clear a1 a2 a3 a4 a5 a7 b3 b5 e5 f5 z1 z2 x0 x1 hqb HH HC0 HX
        generalize W.drewN nq = V at *
        have HH := Lib.hid HHQ.out
        have HC0 := Lib.hid HCQ.out
        have HX := Lib.hid HXQ.out
        clear HHQ HCQ HXQ
        obtain ⟨z1, z2⟩ := HH.out.fz
        obtain ⟨a1, a2, a3, a4, a5, -, a7⟩ := HH.out.proc hp'
        obtain ⟨-, -, b3, -, b5⟩ := HH.out.cell hd'
        obtain ⟨-, -, -, -, e5⟩ := HH.out.cell hs'
        obtain ⟨-, -, -, -, f5⟩ := HH.out.cell hc'
        have x0 := HX.out.cell 0
        have x1 := HX.out.cell 1
        rw [HXD.out] at a4
        rw [HXS.out] at a5
        rw [HXC.out] at a2
        rw [hg] at b5
        rw [hg2] at e5
        go_upto_region 5 with fail
        go_quiet (fail)
        have hqb := below_drw (Below.refl V.heap.size V) nq
        have HHQ := Lib.hid (HH.out.below hqb)
        have HCQ := Lib.hid (HC0.out.add hqb)
        have HXQ := Lib.hid (HX.out.below hqb)
        clear a1 a2 a3 a4 a5 a7 b3 b5 e5 f5 z1 z2 x0 x1 hqb HH HC0 HX
        generalize V.drewN nq = U at *
        have HH := Lib.hid HHQ.out
        have HC0 := Lib.hid HCQ.out
        have HX := Lib.hid HXQ.out
        clear HHQ HCQ HXQ
        obtain ⟨z1, z2⟩ := HH.out.fz
        obtain ⟨a1, a2, a3, a4, a5, -, a7⟩ := HH.out.proc hp'
        obtain ⟨-, -, b3, -, b5⟩ := HH.out.cell hd'
        obtain ⟨-, -, -, -, e5⟩ := HH.out.cell hs'
        obtain ⟨-, -, -, -, f5⟩ := HH.out.cell hc'
        have x0 := HX.out.cell 0
        have x1 := HX.out.cell 1
        rw [HXD.out] at a4
        rw [HXS.out] at a5
        rw [HXC.out] at a2
        rw [hg] at b5
        rw [hg2] at e5
        go_wp2_with fail
        clear a1 a2 a3 a4 a5 a7 b3 b5 e5 f5 z1 z2 x0 x1
        go_end0
        refine ⟨rfl, ?_, (HC0.out).set2 _ _⟩
        rw [hF.out]
        exact (HH.out.init hp').up hp' 2 (by decide) (.int .i64 5) { l.pr p with phase := 5 } rfl
      | false =>
        by_cases hr : (l.at_ d).right = (s : Int)
        · rw [if_neg (by rw [hg, hg2, hr]; simp)] at hF
          have hss : ((s : Int) != (s : Int)) = false := by simp
          by_cases hsc : s = c
          · subst hsc
            have hsd2 : ((s : Int) == (s : Int)) = true := by simp
            by_cases h2 : (l.pr p).kind = 2
            · have h2d : ((l.pr p).kind == 2) = true := by simpa using h2
              have h1d : ((l.pr p).kind == 1) = false := by rw [h2]; rfl
              rw [if_neg (fun q => q.2 rfl), if_pos ⟨h2, rfl⟩] at hF
              replace hF := Lib.hid hF
              go_enter Tryz.func105, Tryz.ntmps105
              go_upto_region 1 with fail
              have HH := HH0
              have HX := HX0
              have HC0 := HC00
              clear HH0 HX0 HC00
              generalize w.alloc (.cells #[.slice (some ⟨G1, 0, none⟩) n c1, .slice (some ⟨G2, 0, none⟩) m c2] 28) = W at *
              obtain ⟨z1, z2⟩ := HH.out.fz
              obtain ⟨a1, a2, a3, a4, a5, -, a7⟩ := HH.out.proc hp'
              obtain ⟨-, -, b3, -, b5⟩ := HH.out.cell hd'
              obtain ⟨-, -, -, -, e5⟩ := HH.out.cell hs'
              obtain ⟨-, -, -, -, f5⟩ := HH.out.cell hc'
              have x0 := HX.out.cell 0
              have x1 := HX.out.cell 1
              rw [HXD.out] at a4
              rw [HXS.out] at a5
              rw [HXC.out] at a2
              rw [hg] at b5
              rw [hg2] at e5
              rw [hr] at b3
              go_quiet (fail)
              have hqb := below_drw (Below.refl W.heap.size W) nq
              have HHQ := Lib.hid (HH.out.below hqb)
              have HCQ := Lib.hid (HC0.out.add hqb)
              have HXQ := Lib.hid (HX.out.below hqb)
              clear a1 a2 a3 a4 a5 a7 b3 b5 e5 f5 z1 z2 x0 x1 hqb HH HC0 HX
              generalize W.drewN nq = V at *
              have HH := Lib.hid HHQ.out
              have HC0 := Lib.hid HCQ.out
              have HX := Lib.hid HXQ.out
              clear HHQ HCQ HXQ
              obtain ⟨z1, z2⟩ := HH.out.fz
              obtain ⟨a1, a2, a3, a4, a5, -, a7⟩ := HH.out.proc hp'
              obtain ⟨-, -, b3, -, b5⟩ := HH.out.cell hd'
              obtain ⟨-, -, -, -, e5⟩ := HH.out.cell hs'
              obtain ⟨-, -, -, -, f5⟩ := HH.out.cell hc'
              have x0 := HX.out.cell 0
              have x1 := HX.out.cell 1
              rw [HXD.out] at a4
              rw [HXS.out] at a5
              rw [HXC.out] at a2
              rw [hg] at b5
              rw [hg2] at e5
              rw [hr] at b3
              go_upto_region 5 with fail
              go_quiet (fail)
              have hqb := below_drw (Below.refl V.heap.size V) nq
              have HHQ := Lib.hid (HH.out.below hqb)
              have HCQ := Lib.hid (HC0.out.add hqb)
              have HXQ := Lib.hid (HX.out.below hqb)
              clear a1 a2 a3 a4 a5 a7 b3 b5 e5 f5 z1 z2 x0 x1 hqb HH HC0 HX
              generalize V.drewN nq = U at *
              have HH := Lib.hid HHQ.out
              have HC0 := Lib.hid HCQ.out
              have HX := Lib.hid HXQ.out
              clear HHQ HCQ HXQ
              obtain ⟨z1, z2⟩ := HH.out.fz
              obtain ⟨a1, a2, a3, a4, a5, -, a7⟩ := HH.out.proc hp'
              obtain ⟨-, -, b3, -, b5⟩ := HH.out.cell hd'
              obtain ⟨-, -, -, -, e5⟩ := HH.out.cell hs'
              obtain ⟨-, -, -, -, f5⟩ := HH.out.cell hc'
              have x0 := HX.out.cell 0
              have x1 := HX.out.cell 1
              rw [HXD.out] at a4
              rw [HXS.out] at a5
              rw [HXC.out] at a2
              rw [hg] at b5
              rw [hg2] at e5
              rw [hr] at b3
              go_wp2_with fail
              clear a1 a2 a3 a4 a5 a7 b3 b5 e5 f5 z1 z2 x0 x1
              go_end0
              refine ⟨rfl, ?_, (HC0.out).set2 _ _⟩
              rw [hF.out]
              exact (HH.out.init hp').up hp' 2 (by decide) (.int .i64 9) { l.pr p with phase := 9 } rfl
            · have h2d : ((l.pr p).kind == 2) = false := by simpa using h2
              by_cases h1 : (l.pr p).kind = 1
              · have h1d : ((l.pr p).kind == 1) = true := by simpa using h1
                rw [if_neg (fun q => q.2 rfl), if_neg (fun q => h2 q.1)] at hF
                replace hF := Lib.hid hF
                go_enter Tryz.func105, Tryz.ntmps105
                go_upto_region 1 with fail
                have HH := HH0
                have HX := HX0
                have HC0 := HC00
                clear HH0 HX0 HC00
                generalize w.alloc (.cells #[.slice (some ⟨G1, 0, none⟩) n c1, .slice (some ⟨G2, 0, none⟩) m c2] 28) = W at *
                obtain ⟨z1, z2⟩ := HH.out.fz
                obtain ⟨a1, a2, a3, a4, a5, -, a7⟩ := HH.out.proc hp'
                obtain ⟨-, -, b3, -, b5⟩ := HH.out.cell hd'
                obtain ⟨-, -, -, -, e5⟩ := HH.out.cell hs'
                obtain ⟨-, -, -, -, f5⟩ := HH.out.cell hc'
                have x0 := HX.out.cell 0
                have x1 := HX.out.cell 1
                rw [HXD.out] at a4
                rw [HXS.out] at a5
                rw [HXC.out] at a2
                rw [hg] at b5
                rw [hg2] at e5
                rw [hr] at b3
                go_quiet (fail)
                have hqb := below_drw (Below.refl W.heap.size W) nq
                have HHQ := Lib.hid (HH.out.below hqb)
                have HCQ := Lib.hid (HC0.out.add hqb)
                have HXQ := Lib.hid (HX.out.below hqb)
                clear a1 a2 a3 a4 a5 a7 b3 b5 e5 f5 z1 z2 x0 x1 hqb HH HC0 HX
                generalize W.drewN nq = V at *
                have HH := Lib.hid HHQ.out
                have HC0 := Lib.hid HCQ.out
                have HX := Lib.hid HXQ.out
                clear HHQ HCQ HXQ
                obtain ⟨z1, z2⟩ := HH.out.fz
                obtain ⟨a1, a2, a3, a4, a5, -, a7⟩ := HH.out.proc hp'
                obtain ⟨-, -, b3, -, b5⟩ := HH.out.cell hd'
                obtain ⟨-, -, -, -, e5⟩ := HH.out.cell hs'
                obtain ⟨-, -, -, -, f5⟩ := HH.out.cell hc'
                have x0 := HX.out.cell 0
                have x1 := HX.out.cell 1
                rw [HXD.out] at a4
                rw [HXS.out] at a5
                rw [HXC.out] at a2
                rw [hg] at b5
                rw [hg2] at e5
                rw [hr] at b3
                go_upto_region 5 with fail
                go_quiet (fail)
                have hqb := below_drw (Below.refl V.heap.size V) nq
                have HHQ := Lib.hid (HH.out.below hqb)
                have HCQ := Lib.hid (HC0.out.add hqb)
                have HXQ := Lib.hid (HX.out.below hqb)
                clear a1 a2 a3 a4 a5 a7 b3 b5 e5 f5 z1 z2 x0 x1 hqb HH HC0 HX
                generalize V.drewN nq = U at *
                have HH := Lib.hid HHQ.out
                have HC0 := Lib.hid HCQ.out
                have HX := Lib.hid HXQ.out
                clear HHQ HCQ HXQ
                obtain ⟨z1, z2⟩ := HH.out.fz
                obtain ⟨a1, a2, a3, a4, a5, -, a7⟩ := HH.out.proc hp'
                obtain ⟨-, -, b3, -, b5⟩ := HH.out.cell hd'
                obtain ⟨-, -, -, -, e5⟩ := HH.out.cell hs'
                obtain ⟨-, -, -, -, f5⟩ := HH.out.cell hc'
                have x0 := HX.out.cell 0
                have x1 := HX.out.cell 1
                rw [HXD.out] at a4
                rw [HXS.out] at a5
                rw [HXC.out] at a2
                rw [hg] at b5
                rw [hg2] at e5
                rw [hr] at b3
                go_wp2_with fail
                clear a1 a2 a3 a4 a5 a7 b3 b5 e5 f5 z1 z2 x0 x1
                go_end0
                refine ⟨rfl, ?_, (HC0.out).set2 _ _⟩
                rw [hF.out]
                exact (HH.out.init hp').up hp' 2 (by decide) (.int .i64 13) { l.pr p with phase := 13 } rfl
              · have h1d : ((l.pr p).kind == 1) = false := by simpa using h1
                rw [if_neg (fun q => q.2 rfl), if_neg (fun q => h2 q.1)] at hF
                replace hF := Lib.hid hF
                go_enter Tryz.func105, Tryz.ntmps105
                go_upto_region 1 with fail
                have HH := HH0
                have HX := HX0
                have HC0 := HC00
                clear HH0 HX0 HC00
                generalize w.alloc (.cells #[.slice (some ⟨G1, 0, none⟩) n c1, .slice (some ⟨G2, 0, none⟩) m c2] 28) = W at *
                obtain ⟨z1, z2⟩ := HH.out.fz
                obtain ⟨a1, a2, a3, a4, a5, -, a7⟩ := HH.out.proc hp'
                obtain ⟨-, -, b3, -, b5⟩ := HH.out.cell hd'
                obtain ⟨-, -, -, -, e5⟩ := HH.out.cell hs'
                obtain ⟨-, -, -, -, f5⟩ := HH.out.cell hc'
                have x0 := HX.out.cell 0
                have x1 := HX.out.cell 1
                rw [HXD.out] at a4
                rw [HXS.out] at a5
                rw [HXC.out] at a2
                rw [hg] at b5
                rw [hg2] at e5
                rw [hr] at b3
                go_quiet (fail)
                have hqb := below_drw (Below.refl W.heap.size W) nq
                have HHQ := Lib.hid (HH.out.below hqb)
                have HCQ := Lib.hid (HC0.out.add hqb)
                have HXQ := Lib.hid (HX.out.below hqb)
                clear a1 a2 a3 a4 a5 a7 b3 b5 e5 f5 z1 z2 x0 x1 hqb HH HC0 HX
                generalize W.drewN nq = V at *
                have HH := Lib.hid HHQ.out
                have HC0 := Lib.hid HCQ.out
                have HX := Lib.hid HXQ.out
                clear HHQ HCQ HXQ
                obtain ⟨z1, z2⟩ := HH.out.fz
                obtain ⟨a1, a2, a3, a4, a5, -, a7⟩ := HH.out.proc hp'
                obtain ⟨-, -, b3, -, b5⟩ := HH.out.cell hd'
                obtain ⟨-, -, -, -, e5⟩ := HH.out.cell hs'
                obtain ⟨-, -, -, -, f5⟩ := HH.out.cell hc'
                have x0 := HX.out.cell 0
                have x1 := HX.out.cell 1
                rw [HXD.out] at a4
                rw [HXS.out] at a5
                rw [HXC.out] at a2
                rw [hg] at b5
                rw [hg2] at e5
                rw [hr] at b3
                go_upto_region 5 with fail
                go_quiet (fail)
                have hqb := below_drw (Below.refl V.heap.size V) nq
                have HHQ := Lib.hid (HH.out.below hqb)
                have HCQ := Lib.hid (HC0.out.add hqb)
                have HXQ := Lib.hid (HX.out.below hqb)
                clear a1 a2 a3 a4 a5 a7 b3 b5 e5 f5 z1 z2 x0 x1 hqb HH HC0 HX
                generalize V.drewN nq = U at *
                have HH := Lib.hid HHQ.out
                have HC0 := Lib.hid HCQ.out
                have HX := Lib.hid HXQ.out
                clear HHQ HCQ HXQ
                obtain ⟨z1, z2⟩ := HH.out.fz
                obtain ⟨a1, a2, a3, a4, a5, -, a7⟩ := HH.out.proc hp'
                obtain ⟨-, -, b3, -, b5⟩ := HH.out.cell hd'
                obtain ⟨-, -, -, -, e5⟩ := HH.out.cell hs'
                obtain ⟨-, -, -, -, f5⟩ := HH.out.cell hc'
                have x0 := HX.out.cell 0
                have x1 := HX.out.cell 1
                rw [HXD.out] at a4
                rw [HXS.out] at a5
                rw [HXC.out] at a2
                rw [hg] at b5
                rw [hg2] at e5
                rw [hr] at b3
                go_wp2_with fail
                clear a1 a2 a3 a4 a5 a7 b3 b5 e5 f5 z1 z2 x0 x1
                go_end0
                refine ⟨rfl, ?_, (HC0.out).set2 _ _⟩
                rw [hF.out]
                exact (HH.out.init hp').up hp' 2 (by decide) (.int .i64 13) { l.pr p with phase := 13 } rfl
          · have hsd2 : ((s : Int) == (c : Int)) = false := by simp; omega
            by_cases h1 : (l.pr p).kind = 1
            · have h1d : ((l.pr p).kind == 1) = true := by simpa using h1
              rw [if_pos ⟨h1, hsc⟩] at hF
              replace hF := Lib.hid hF
              go_enter Tryz.func105, Tryz.ntmps105
              go_upto_region 1 with fail
              have HH := HH0
              have HX := HX0
              have HC0 := HC00
              clear HH0 HX0 HC00
              generalize w.alloc (.cells #[.slice (some ⟨G1, 0, none⟩) n c1, .slice (some ⟨G2, 0, none⟩) m c2] 28) = W at *
              obtain ⟨z1, z2⟩ := HH.out.fz
              obtain ⟨a1, a2, a3, a4, a5, -, a7⟩ := HH.out.proc hp'
              obtain ⟨-, -, b3, -, b5⟩ := HH.out.cell hd'
              obtain ⟨-, -, -, -, e5⟩ := HH.out.cell hs'
              obtain ⟨-, -, -, -, f5⟩ := HH.out.cell hc'
              have x0 := HX.out.cell 0
              have x1 := HX.out.cell 1
              rw [HXD.out] at a4
              rw [HXS.out] at a5
              rw [HXC.out] at a2
              rw [hg] at b5
              rw [hg2] at e5
              rw [hr] at b3
              go_quiet (fail)
              have hqb := below_drw (Below.refl W.heap.size W) nq
              have HHQ := Lib.hid (HH.out.below hqb)
              have HCQ := Lib.hid (HC0.out.add hqb)
              have HXQ := Lib.hid (HX.out.below hqb)
              clear a1 a2 a3 a4 a5 a7 b3 b5 e5 f5 z1 z2 x0 x1 hqb HH HC0 HX
              generalize W.drewN nq = V at *
              have HH := Lib.hid HHQ.out
              have HC0 := Lib.hid HCQ.out
              have HX := Lib.hid HXQ.out
              clear HHQ HCQ HXQ
              obtain ⟨z1, z2⟩ := HH.out.fz
              obtain ⟨a1, a2, a3, a4, a5, -, a7⟩ := HH.out.proc hp'
              obtain ⟨-, -, b3, -, b5⟩ := HH.out.cell hd'
              obtain ⟨-, -, -, -, e5⟩ := HH.out.cell hs'
              obtain ⟨-, -, -, -, f5⟩ := HH.out.cell hc'
              have x0 := HX.out.cell 0
              have x1 := HX.out.cell 1
              rw [HXD.out] at a4
              rw [HXS.out] at a5
              rw [HXC.out] at a2
              rw [hg] at b5
              rw [hg2] at e5
              rw [hr] at b3
              go_upto_region 5 with fail
              go_quiet (fail)
              have hqb := below_drw (Below.refl V.heap.size V) nq
              have HHQ := Lib.hid (HH.out.below hqb)
              have HCQ := Lib.hid (HC0.out.add hqb)
              have HXQ := Lib.hid (HX.out.below hqb)
              clear a1 a2 a3 a4 a5 a7 b3 b5 e5 f5 z1 z2 x0 x1 hqb HH HC0 HX
              generalize V.drewN nq = U at *
              have HH := Lib.hid HHQ.out
              have HC0 := Lib.hid HCQ.out
              have HX := Lib.hid HXQ.out
              clear HHQ HCQ HXQ
              obtain ⟨z1, z2⟩ := HH.out.fz
              obtain ⟨a1, a2, a3, a4, a5, -, a7⟩ := HH.out.proc hp'
              obtain ⟨-, -, b3, -, b5⟩ := HH.out.cell hd'
              obtain ⟨-, -, -, -, e5⟩ := HH.out.cell hs'
              obtain ⟨-, -, -, -, f5⟩ := HH.out.cell hc'
              have x0 := HX.out.cell 0
              have x1 := HX.out.cell 1
              rw [HXD.out] at a4
              rw [HXS.out] at a5
              rw [HXC.out] at a2
              rw [hg] at b5
              rw [hg2] at e5
              rw [hr] at b3
              go_wp2_with fail
              clear a1 a2 a3 a4 a5 a7 b3 b5 e5 f5 z1 z2 x0 x1
              go_end0
              refine ⟨rfl, ?_, (HC0.out).set2 _ _⟩
              rw [hF.out]
              exact (HH.out.init hp').up hp' 2 (by decide) (.int .i64 6) { l.pr p with phase := 6 } rfl
            · have h1d : ((l.pr p).kind == 1) = false := by simpa using h1
              by_cases h2 : (l.pr p).kind = 2
              · have h2d : ((l.pr p).kind == 2) = true := by simpa using h2
                rw [if_neg (fun q => h1 q.1), if_neg (fun q => hsc q.2)] at hF
                replace hF := Lib.hid hF
                go_enter Tryz.func105, Tryz.ntmps105
                go_upto_region 1 with fail
                have HH := HH0
                have HX := HX0
                have HC0 := HC00
                clear HH0 HX0 HC00
                generalize w.alloc (.cells #[.slice (some ⟨G1, 0, none⟩) n c1, .slice (some ⟨G2, 0, none⟩) m c2] 28) = W at *
                obtain ⟨z1, z2⟩ := HH.out.fz
                obtain ⟨a1, a2, a3, a4, a5, -, a7⟩ := HH.out.proc hp'
                obtain ⟨-, -, b3, -, b5⟩ := HH.out.cell hd'
                obtain ⟨-, -, -, -, e5⟩ := HH.out.cell hs'
                obtain ⟨-, -, -, -, f5⟩ := HH.out.cell hc'
                have x0 := HX.out.cell 0
                have x1 := HX.out.cell 1
                rw [HXD.out] at a4
                rw [HXS.out] at a5
                rw [HXC.out] at a2
                rw [hg] at b5
                rw [hg2] at e5
                rw [hr] at b3
                go_quiet (fail)
                have hqb := below_drw (Below.refl W.heap.size W) nq
                have HHQ := Lib.hid (HH.out.below hqb)
                have HCQ := Lib.hid (HC0.out.add hqb)
                have HXQ := Lib.hid (HX.out.below hqb)
                clear a1 a2 a3 a4 a5 a7 b3 b5 e5 f5 z1 z2 x0 x1 hqb HH HC0 HX
                generalize W.drewN nq = V at *
                have HH := Lib.hid HHQ.out
                have HC0 := Lib.hid HCQ.out
                have HX := Lib.hid HXQ.out
                clear HHQ HCQ HXQ
                obtain ⟨z1, z2⟩ := HH.out.fz
                obtain ⟨a1, a2, a3, a4, a5, -, a7⟩ := HH.out.proc hp'
                obtain ⟨-, -, b3, -, b5⟩ := HH.out.cell hd'
                obtain ⟨-, -, -, -, e5⟩ := HH.out.cell hs'
                obtain ⟨-, -, -, -, f5⟩ := HH.out.cell hc'
                have x0 := HX.out.cell 0
                have x1 := HX.out.cell 1
                rw [HXD.out] at a4
                rw [HXS.out] at a5
                rw [HXC.out] at a2
                rw [hg] at b5
                rw [hg2] at e5
                rw [hr] at b3
                go_upto_region 5 with fail
                go_quiet (fail)
                have hqb := below_drw (Below.refl V.heap.size V) nq
                have HHQ := Lib.hid (HH.out.below hqb)
                have HCQ := Lib.hid (HC0.out.add hqb)
                have HXQ := Lib.hid (HX.out.below hqb)
                clear a1 a2 a3 a4 a5 a7 b3 b5 e5 f5 z1 z2 x0 x1 hqb HH HC0 HX
                generalize V.drewN nq = U at *
                have HH := Lib.hid HHQ.out
                have HC0 := Lib.hid HCQ.out
                have HX := Lib.hid HXQ.out
                clear HHQ HCQ HXQ
                obtain ⟨z1, z2⟩ := HH.out.fz
                obtain ⟨a1, a2, a3, a4, a5, -, a7⟩ := HH.out.proc hp'
                obtain ⟨-, -, b3, -, b5⟩ := HH.out.cell hd'
                obtain ⟨-, -, -, -, e5⟩ := HH.out.cell hs'
                obtain ⟨-, -, -, -, f5⟩ := HH.out.cell hc'
                have x0 := HX.out.cell 0
                have x1 := HX.out.cell 1
                rw [HXD.out] at a4
                rw [HXS.out] at a5
                rw [HXC.out] at a2
                rw [hg] at b5
                rw [hg2] at e5
                rw [hr] at b3
                go_wp2_with fail
                clear a1 a2 a3 a4 a5 a7 b3 b5 e5 f5 z1 z2 x0 x1
                go_end0
                refine ⟨rfl, ?_, (HC0.out).set2 _ _⟩
                rw [hF.out]
                exact (HH.out.init hp').up hp' 2 (by decide) (.int .i64 13) { l.pr p with phase := 13 } rfl
              · have h2d : ((l.pr p).kind == 2) = false := by simpa using h2
                rw [if_neg (fun q => h1 q.1), if_neg (fun q => hsc q.2)] at hF
                replace hF := Lib.hid hF
                go_enter Tryz.func105, Tryz.ntmps105
                go_upto_region 1 with fail
                have HH := HH0
                have HX := HX0
                have HC0 := HC00
                clear HH0 HX0 HC00
                generalize w.alloc (.cells #[.slice (some ⟨G1, 0, none⟩) n c1, .slice (some ⟨G2, 0, none⟩) m c2] 28) = W at *
                obtain ⟨z1, z2⟩ := HH.out.fz
                obtain ⟨a1, a2, a3, a4, a5, -, a7⟩ := HH.out.proc hp'
                obtain ⟨-, -, b3, -, b5⟩ := HH.out.cell hd'
                obtain ⟨-, -, -, -, e5⟩ := HH.out.cell hs'
                obtain ⟨-, -, -, -, f5⟩ := HH.out.cell hc'
                have x0 := HX.out.cell 0
                have x1 := HX.out.cell 1
                rw [HXD.out] at a4
                rw [HXS.out] at a5
                rw [HXC.out] at a2
                rw [hg] at b5
                rw [hg2] at e5
                rw [hr] at b3
                go_quiet (fail)
                have hqb := below_drw (Below.refl W.heap.size W) nq
                have HHQ := Lib.hid (HH.out.below hqb)
                have HCQ := Lib.hid (HC0.out.add hqb)
                have HXQ := Lib.hid (HX.out.below hqb)
                clear a1 a2 a3 a4 a5 a7 b3 b5 e5 f5 z1 z2 x0 x1 hqb HH HC0 HX
                generalize W.drewN nq = V at *
                have HH := Lib.hid HHQ.out
                have HC0 := Lib.hid HCQ.out
                have HX := Lib.hid HXQ.out
                clear HHQ HCQ HXQ
                obtain ⟨z1, z2⟩ := HH.out.fz
                obtain ⟨a1, a2, a3, a4, a5, -, a7⟩ := HH.out.proc hp'
                obtain ⟨-, -, b3, -, b5⟩ := HH.out.cell hd'
                obtain ⟨-, -, -, -, e5⟩ := HH.out.cell hs'
                obtain ⟨-, -, -, -, f5⟩ := HH.out.cell hc'
                have x0 := HX.out.cell 0
                have x1 := HX.out.cell 1
                rw [HXD.out] at a4
                rw [HXS.out] at a5
                rw [HXC.out] at a2
                rw [hg] at b5
                rw [hg2] at e5
                rw [hr] at b3
                go_upto_region 5 with fail
                go_quiet (fail)
                have hqb := below_drw (Below.refl V.heap.size V) nq
                have HHQ := Lib.hid (HH.out.below hqb)
                have HCQ := Lib.hid (HC0.out.add hqb)
                have HXQ := Lib.hid (HX.out.below hqb)
                clear a1 a2 a3 a4 a5 a7 b3 b5 e5 f5 z1 z2 x0 x1 hqb HH HC0 HX
                generalize V.drewN nq = U at *
                have HH := Lib.hid HHQ.out
                have HC0 := Lib.hid HCQ.out
                have HX := Lib.hid HXQ.out
                clear HHQ HCQ HXQ
                obtain ⟨z1, z2⟩ := HH.out.fz
                obtain ⟨a1, a2, a3, a4, a5, -, a7⟩ := HH.out.proc hp'
                obtain ⟨-, -, b3, -, b5⟩ := HH.out.cell hd'
                obtain ⟨-, -, -, -, e5⟩ := HH.out.cell hs'
                obtain ⟨-, -, -, -, f5⟩ := HH.out.cell hc'
                have x0 := HX.out.cell 0
                have x1 := HX.out.cell 1
                rw [HXD.out] at a4
                rw [HXS.out] at a5
                rw [HXC.out] at a2
                rw [hg] at b5
                rw [hg2] at e5
                rw [hr] at b3
                go_wp2_with fail
                clear a1 a2 a3 a4 a5 a7 b3 b5 e5 f5 z1 z2 x0 x1
                go_end0
                refine ⟨rfl, ?_, (HC0.out).set2 _ _⟩
                rw [hF.out]
                exact (HH.out.init hp').up hp' 2 (by decide) (.int .i64 13) { l.pr p with phase := 13 } rfl
        · have hrd : ((l.at_ d).right != (s : Int)) = true := by simpa using hr
          rw [if_pos (.inr (.inr hr))] at hF
          replace hF := Lib.hid hF
          go_enter Tryz.func105, Tryz.ntmps105
          go_upto_region 1 with fail
          have HH := HH0
          have HX := HX0
          have HC0 := HC00
          clear HH0 HX0 HC00
          generalize w.alloc (.cells #[.slice (some ⟨G1, 0, none⟩) n c1, .slice (some ⟨G2, 0, none⟩) m c2] 28) = W at *
          obtain ⟨z1, z2⟩ := HH.out.fz
          obtain ⟨a1, a2, a3, a4, a5, -, a7⟩ := HH.out.proc hp'
          obtain ⟨-, -, b3, -, b5⟩ := HH.out.cell hd'
          obtain ⟨-, -, -, -, e5⟩ := HH.out.cell hs'
          obtain ⟨-, -, -, -, f5⟩ := HH.out.cell hc'
          have x0 := HX.out.cell 0
          have x1 := HX.out.cell 1
          rw [HXD.out] at a4
          rw [HXS.out] at a5
          rw [HXC.out] at a2
          rw [hg] at b5
          rw [hg2] at e5
          go_quiet (fail)
          have hqb := below_drw (Below.refl W.heap.size W) nq
          have HHQ := Lib.hid (HH.out.below hqb)
          have HCQ := Lib.hid (HC0.out.add hqb)
          have HXQ := Lib.hid (HX.out.below hqb)
          clear a1 a2 a3 a4 a5 a7 b3 b5 e5 f5 z1 z2 x0 x1 hqb HH HC0 HX
          generalize W.drewN nq = V at *
          have HH := Lib.hid HHQ.out
          have HC0 := Lib.hid HCQ.out
          have HX := Lib.hid HXQ.out
          clear HHQ HCQ HXQ
          obtain ⟨z1, z2⟩ := HH.out.fz
          obtain ⟨a1, a2, a3, a4, a5, -, a7⟩ := HH.out.proc hp'
          obtain ⟨-, -, b3, -, b5⟩ := HH.out.cell hd'
          obtain ⟨-, -, -, -, e5⟩ := HH.out.cell hs'
          obtain ⟨-, -, -, -, f5⟩ := HH.out.cell hc'
          have x0 := HX.out.cell 0
          have x1 := HX.out.cell 1
          rw [HXD.out] at a4
          rw [HXS.out] at a5
          rw [HXC.out] at a2
          rw [hg] at b5
          rw [hg2] at e5
          go_upto_region 5 with fail
          go_quiet (fail)
          have hqb := below_drw (Below.refl V.heap.size V) nq
          have HHQ := Lib.hid (HH.out.below hqb)
          have HCQ := Lib.hid (HC0.out.add hqb)
          have HXQ := Lib.hid (HX.out.below hqb)
          clear a1 a2 a3 a4 a5 a7 b3 b5 e5 f5 z1 z2 x0 x1 hqb HH HC0 HX
          generalize V.drewN nq = U at *
          have HH := Lib.hid HHQ.out
          have HC0 := Lib.hid HCQ.out
          have HX := Lib.hid HXQ.out
          clear HHQ HCQ HXQ
          obtain ⟨z1, z2⟩ := HH.out.fz
          obtain ⟨a1, a2, a3, a4, a5, -, a7⟩ := HH.out.proc hp'
          obtain ⟨-, -, b3, -, b5⟩ := HH.out.cell hd'
          obtain ⟨-, -, -, -, e5⟩ := HH.out.cell hs'
          obtain ⟨-, -, -, -, f5⟩ := HH.out.cell hc'
          have x0 := HX.out.cell 0
          have x1 := HX.out.cell 1
          rw [HXD.out] at a4
          rw [HXS.out] at a5
          rw [HXC.out] at a2
          rw [hg] at b5
          rw [hg2] at e5
          go_wp2_with fail
          clear a1 a2 a3 a4 a5 a7 b3 b5 e5 f5 z1 z2 x0 x1
          go_end0
          refine ⟨rfl, ?_, (HC0.out).set2 _ _⟩
          rw [hF.out]
          exact (HH.out.init hp').up hp' 2 (by decide) (.int .i64 5) { l.pr p with phase := 5 } rfl
end Lk
end Go.Proofs.YtmhbloefmknikaaGreatDoor
