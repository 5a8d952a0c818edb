/-
  decide of package locked, in place. Conditions: the list is valid and may be changed in place.
-/
import Derived.Test.YtgmffgdhijcfcaaDoorKzF
namespace Go.Proofs.YtgmffgdhijcfcaaDoor
open Go.RowKit Go.Maps
namespace Lk

def dcdV (l : Ls) (p d s c : Nat) : Ls :=
  if (l.pr p).kind = 3 then l.setP p { l.pr p with res := decide (s = c) && !(l.at_ c).gone, phase := 18 }
  else if (l.at_ d).gone = true ∨ (l.at_ s).gone = true ∨ (l.at_ d).right ≠ (s : Int) then l.setP p { l.pr p with phase := 5 }
  else if (l.pr p).kind = 1 ∧ s ≠ c then l.setP p { l.pr p with phase := 6 }
  else if (l.pr p).kind = 2 ∧ s = c then l.setP p { l.pr p with phase := 9 }
  else l.setP p { l.pr p with phase := 13 }
set_option maxRecDepth 100000 in
set_option maxHeartbeats 6400000 in
theorem decide_any (l : Ls) (n m p d s c base G1 G2 c1 c2 : Nat) (w : World) (hn : l.cs.length = n) (hm : l.ps.length = m) (h : MemL w base G1 G2 c1 c2 l) (hp : p < m) (hd : d < n) (hs : s < n) (hc : c < n) (hxd : (l.pr p).pred = (d : Int)) (hxs : (l.pr p).succ = (s : Int)) (hxc : (l.pr p).cell = (c : Int)) :
    Calls Tryd.prog 72 #[.slice (some ⟨G1, 0, none⟩) n c1, .pointer (some ⟨G2, p * 7, none⟩)] w (StP (dcdV l p d s c) base G1 G2 c1 c2 (.tuple #[]) w) := by
  have hp' : p < l.ps.length := by rw [hm]; exact hp
  have hd' : d < l.cs.length := by rw [hn]; exact hd
  have hs' : s < l.cs.length := by rw [hn]; exact hs
  have hc' : c < l.cs.length := by rw [hn]; exact hc
  have HH := Lib.hid h
  have r0 : (0 : Int) ≤ (d : Int) := by omega
  have r1 : (d : Int) < (n : Int) := by omega
  have q0 : (0 : Int) ≤ (s : Int) := by omega
  have q1 : (s : Int) < (n : Int) := by omega
  have t0 : (0 : Int) ≤ (c : Int) := by omega
  have t1 : (c : Int) < (n : Int) := by omega
  have HXD := Lib.hid hxd
  have HXS := Lib.hid hxs
  have HXC := Lib.hid hxc
  obtain ⟨F, hF⟩ : ∃ F, F = dcdV l p d s c := ⟨_, rfl⟩
  have HFV := Lib.hid hF
  unfold dcdV at hF
  rw [show dcdV l p d s c = F from HFV.out.symm]
  have HC0 : Hid (Chg G1 G2 w w) := Lib.hid Chg.refl
  clear h hn hm hxd hxs hxc HFV
  by_cases hk : (l.pr p).kind = 3
  · rw [if_pos hk] at hF
    by_cases hsc : s = c
    · subst hsc
      cases hg : (l.at_ s).gone with
      | true =>
        rw [hg] at hF
        replace hF := Lib.hid (show F = l.setP p { l.pr p with res := false, phase := 18 } by rw [hF]; simp)
        go_enter Tryd.func72, Tryd.ntmps72
        obtain ⟨z1, z2⟩ := HH.out.fz
        obtain ⟨a1, a2, a3, a4, a5, -, a7⟩ := HH.out.proc hp'
        obtain ⟨-, -, b3, -, b5⟩ := HH.out.cell hd'
        obtain ⟨-, -, -, -, e5⟩ := HH.out.cell hs'
        obtain ⟨-, -, -, -, f5⟩ := HH.out.cell hc'
        rw [HXD.out] at a4
        rw [HXS.out] at a5
        rw [HXC.out] at a2
        go_upto_region 0 with fail
        go_quiet (fail)
        have hqb := below_drw (Below.refl w.heap.size w) nq
        have HHQ := Lib.hid (HH.out.below hqb)
        have HCQ := Lib.hid (HC0.out.add hqb)
        clear a1 a2 a3 a4 a5 a7 b3 b5 e5 f5 z1 z2 hqb HH HC0
        generalize w.drewN nq = V at *
        have HH := Lib.hid HHQ.out
        have HC0 := Lib.hid HCQ.out
        clear HHQ HCQ
        obtain ⟨z1, z2⟩ := HH.out.fz
        obtain ⟨a1, a2, a3, a4, a5, -, a7⟩ := HH.out.proc hp'
        obtain ⟨-, -, b3, -, b5⟩ := HH.out.cell hd'
        obtain ⟨-, -, -, -, e5⟩ := HH.out.cell hs'
        obtain ⟨-, -, -, -, f5⟩ := HH.out.cell hc'
        rw [HXD.out] at a4
        rw [HXS.out] at a5
        rw [HXC.out] at a2
        go_wp2_with fail
        clear a1 a2 a3 a4 a5 a7 b3 b5 e5 f5 z1 z2
        go_end0
        refine ⟨rfl, ?_, ((HC0.out).set2 _ _).set2 _ _⟩
        rw [hF.out]
        exact ((HH.out.init hp').up hp' 6 (by decide) (.bool false) { l.pr p with res := false } rfl).up hp' 2 (by decide) (.int .i64 18) { l.pr p with res := false, phase := 18 } rfl
      | false =>
        rw [hg] at hF
        replace hF := Lib.hid (show F = l.setP p { l.pr p with res := true, phase := 18 } by rw [hF]; simp)
        go_enter Tryd.func72, Tryd.ntmps72
        obtain ⟨z1, z2⟩ := HH.out.fz
        obtain ⟨a1, a2, a3, a4, a5, -, a7⟩ := HH.out.proc hp'
        obtain ⟨-, -, b3, -, b5⟩ := HH.out.cell hd'
        obtain ⟨-, -, -, -, e5⟩ := HH.out.cell hs'
        obtain ⟨-, -, -, -, f5⟩ := HH.out.cell hc'
        rw [HXD.out] at a4
        rw [HXS.out] at a5
        rw [HXC.out] at a2
        go_upto_region 0 with fail
        go_quiet (fail)
        have hqb := below_drw (Below.refl w.heap.size w) nq
        have HHQ := Lib.hid (HH.out.below hqb)
        have HCQ := Lib.hid (HC0.out.add hqb)
        clear a1 a2 a3 a4 a5 a7 b3 b5 e5 f5 z1 z2 hqb HH HC0
        generalize w.drewN nq = V at *
        have HH := Lib.hid HHQ.out
        have HC0 := Lib.hid HCQ.out
        clear HHQ HCQ
        obtain ⟨z1, z2⟩ := HH.out.fz
        obtain ⟨a1, a2, a3, a4, a5, -, a7⟩ := HH.out.proc hp'
        obtain ⟨-, -, b3, -, b5⟩ := HH.out.cell hd'
        obtain ⟨-, -, -, -, e5⟩ := HH.out.cell hs'
        obtain ⟨-, -, -, -, f5⟩ := HH.out.cell hc'
        rw [HXD.out] at a4
        rw [HXS.out] at a5
        rw [HXC.out] at a2
        go_wp2_with fail
        clear a1 a2 a3 a4 a5 a7 b3 b5 e5 f5 z1 z2
        go_end0
        refine ⟨rfl, ?_, ((HC0.out).set2 _ _).set2 _ _⟩
        rw [hF.out]
        exact ((HH.out.init hp').up hp' 6 (by decide) (.bool true) { l.pr p with res := true } rfl).up hp' 2 (by decide) (.int .i64 18) { l.pr p with res := true, phase := 18 } rfl
    · have hsd : decide ((s : Int) = (c : Int)) = false := decide_eq_false (by omega)
      replace hF := Lib.hid (show F = l.setP p { l.pr p with res := false, phase := 18 } by rw [hF]; simp [hsc])
      go_enter Tryd.func72, Tryd.ntmps72
      obtain ⟨z1, z2⟩ := HH.out.fz
      obtain ⟨a1, a2, a3, a4, a5, -, a7⟩ := HH.out.proc hp'
      obtain ⟨-, -, b3, -, b5⟩ := HH.out.cell hd'
      obtain ⟨-, -, -, -, e5⟩ := HH.out.cell hs'
      obtain ⟨-, -, -, -, f5⟩ := HH.out.cell hc'
      rw [HXD.out] at a4
      rw [HXS.out] at a5
      rw [HXC.out] at a2
      go_upto_region 0 with fail
      go_quiet (fail)
      have hqb := below_drw (Below.refl w.heap.size w) nq
      have HHQ := Lib.hid (HH.out.below hqb)
      have HCQ := Lib.hid (HC0.out.add hqb)
      clear a1 a2 a3 a4 a5 a7 b3 b5 e5 f5 z1 z2 hqb HH HC0
      generalize w.drewN nq = V at *
      have HH := Lib.hid HHQ.out
      have HC0 := Lib.hid HCQ.out
      clear HHQ HCQ
      obtain ⟨z1, z2⟩ := HH.out.fz
      obtain ⟨a1, a2, a3, a4, a5, -, a7⟩ := HH.out.proc hp'
      obtain ⟨-, -, b3, -, b5⟩ := HH.out.cell hd'
      obtain ⟨-, -, -, -, e5⟩ := HH.out.cell hs'
      obtain ⟨-, -, -, -, f5⟩ := HH.out.cell hc'
      rw [HXD.out] at a4
      rw [HXS.out] at a5
      rw [HXC.out] at a2
      go_wp2_with fail
      clear a1 a2 a3 a4 a5 a7 b3 b5 e5 f5 z1 z2
      go_end0
      refine ⟨rfl, ?_, ((HC0.out).set2 _ _).set2 _ _⟩
      rw [hF.out]
      exact ((HH.out.init hp').up hp' 6 (by decide) (.bool false) { l.pr p with res := false } rfl).up hp' 2 (by decide) (.int .i64 18) { l.pr p with res := false, phase := 18 } rfl
  · rw [if_neg hk] at hF
    have hkd : decide ((l.pr p).kind = 3) = false := decide_eq_false hk
    cases hg : (l.at_ d).gone with
    | true =>
      rw [if_pos (.inl hg)] at hF
      replace hF := Lib.hid hF
      go_enter Tryd.func72, Tryd.ntmps72
      obtain ⟨z1, z2⟩ := HH.out.fz
      obtain ⟨a1, a2, a3, a4, a5, -, a7⟩ := HH.out.proc hp'
      obtain ⟨-, -, b3, -, b5⟩ := HH.out.cell hd'
      obtain ⟨-, -, -, -, e5⟩ := HH.out.cell hs'
      obtain ⟨-, -, -, -, f5⟩ := HH.out.cell hc'
      rw [HXD.out] at a4
      rw [HXS.out] at a5
      rw [HXC.out] at a2
      rw [hg] at b5
      go_upto_region 0 with fail
      go_quiet (fail)
      have hqb := below_drw (Below.refl w.heap.size w) nq
      have HHQ := Lib.hid (HH.out.below hqb)
      have HCQ := Lib.hid (HC0.out.add hqb)
      clear a1 a2 a3 a4 a5 a7 b3 b5 e5 f5 z1 z2 hqb HH HC0
      generalize w.drewN nq = V at *
      have HH := Lib.hid HHQ.out
      have HC0 := Lib.hid HCQ.out
      clear HHQ HCQ
      obtain ⟨z1, z2⟩ := HH.out.fz
      obtain ⟨a1, a2, a3, a4, a5, -, a7⟩ := HH.out.proc hp'
      obtain ⟨-, -, b3, -, b5⟩ := HH.out.cell hd'
      obtain ⟨-, -, -, -, e5⟩ := HH.out.cell hs'
      obtain ⟨-, -, -, -, f5⟩ := HH.out.cell hc'
      rw [HXD.out] at a4
      rw [HXS.out] at a5
      rw [HXC.out] at a2
      rw [hg] at b5
      go_upto_region 4 with fail
      go_quiet (fail)
      have hqb := below_drw (Below.refl V.heap.size V) nq
      have HHQ := Lib.hid (HH.out.below hqb)
      have HCQ := Lib.hid (HC0.out.add hqb)
      clear a1 a2 a3 a4 a5 a7 b3 b5 e5 f5 z1 z2 hqb HH HC0
      generalize V.drewN nq = U at *
      have HH := Lib.hid HHQ.out
      have HC0 := Lib.hid HCQ.out
      clear HHQ HCQ
      obtain ⟨z1, z2⟩ := HH.out.fz
      obtain ⟨a1, a2, a3, a4, a5, -, a7⟩ := HH.out.proc hp'
      obtain ⟨-, -, b3, -, b5⟩ := HH.out.cell hd'
      obtain ⟨-, -, -, -, e5⟩ := HH.out.cell hs'
      obtain ⟨-, -, -, -, f5⟩ := HH.out.cell hc'
      rw [HXD.out] at a4
      rw [HXS.out] at a5
      rw [HXC.out] at a2
      rw [hg] at b5
      go_wp2_with fail
      clear a1 a2 a3 a4 a5 a7 b3 b5 e5 f5 z1 z2
      go_end0
      refine ⟨rfl, ?_, (HC0.out).set2 _ _⟩
      rw [hF.out]
      exact (HH.out.init hp').up hp' 2 (by decide) (.int .i64 5) { l.pr p with phase := 5 } rfl
    | false =>
      cases hg2 : (l.at_ s).gone with
      | true =>
        rw [if_pos (.inr (.inl hg2))] at hF
        replace hF := Lib.hid hF
        go_enter Tryd.func72, Tryd.ntmps72
        obtain ⟨z1, z2⟩ := HH.out.fz
        obtain ⟨a1, a2, a3, a4, a5, -, a7⟩ := HH.out.proc hp'
        obtain ⟨-, -, b3, -, b5⟩ := HH.out.cell hd'
        obtain ⟨-, -, -, -, e5⟩ := HH.out.cell hs'
        obtain ⟨-, -, -, -, f5⟩ := HH.out.cell hc'
        rw [HXD.out] at a4
        rw [HXS.out] at a5
        rw [HXC.out] at a2
        rw [hg] at b5
        rw [hg2] at e5
        go_upto_region 0 with fail
        go_quiet (fail)
        have hqb := below_drw (Below.refl w.heap.size w) nq
        have HHQ := Lib.hid (HH.out.below hqb)
        have HCQ := Lib.hid (HC0.out.add hqb)
        clear a1 a2 a3 a4 a5 a7 b3 b5 e5 f5 z1 z2 hqb HH HC0
        generalize w.drewN nq = V at *
        have HH := Lib.hid HHQ.out
        have HC0 := Lib.hid HCQ.out
        clear HHQ HCQ
        obtain ⟨z1, z2⟩ := HH.out.fz
        obtain ⟨a1, a2, a3, a4, a5, -, a7⟩ := HH.out.proc hp'
        obtain ⟨-, -, b3, -, b5⟩ := HH.out.cell hd'
        obtain ⟨-, -, -, -, e5⟩ := HH.out.cell hs'
        obtain ⟨-, -, -, -, f5⟩ := HH.out.cell hc'
        rw [HXD.out] at a4
        rw [HXS.out] at a5
        rw [HXC.out] at a2
        rw [hg] at b5
        rw [hg2] at e5
        go_upto_region 4 with fail
        go_quiet (fail)
        have hqb := below_drw (Below.refl V.heap.size V) nq
        have HHQ := Lib.hid (HH.out.below hqb)
        have HCQ := Lib.hid (HC0.out.add hqb)
        clear a1 a2 a3 a4 a5 a7 b3 b5 e5 f5 z1 z2 hqb HH HC0
        generalize V.drewN nq = U at *
        have HH := Lib.hid HHQ.out
        have HC0 := Lib.hid HCQ.out
        clear HHQ HCQ
        obtain ⟨z1, z2⟩ := HH.out.fz
        obtain ⟨a1, a2, a3, a4, a5, -, a7⟩ := HH.out.proc hp'
        obtain ⟨-, -, b3, -, b5⟩ := HH.out.cell hd'
        obtain ⟨-, -, -, -, e5⟩ := HH.out.cell hs'
        obtain ⟨-, -, -, -, f5⟩ := HH.out.cell hc'
        rw [HXD.out] at a4
        rw [HXS.out] at a5
        rw [HXC.out] at a2
        rw [hg] at b5
        rw [hg2] at e5
        go_wp2_with fail
        clear a1 a2 a3 a4 a5 a7 b3 b5 e5 f5 z1 z2
        go_end0
        refine ⟨rfl, ?_, (HC0.out).set2 _ _⟩
        rw [hF.out]
        exact (HH.out.init hp').up hp' 2 (by decide) (.int .i64 5) { l.pr p with phase := 5 } rfl
      | false =>
        by_cases hr : (l.at_ d).right = (s : Int)
        · rw [if_neg (by rw [hg, hg2, hr]; simp)] at hF
          by_cases hsc : s = c
          · subst hsc
            by_cases h2 : (l.pr p).kind = 2
            · have h2d : decide ((l.pr p).kind = 2) = true := decide_eq_true h2
              rw [if_neg (fun q => q.2 rfl), if_pos ⟨h2, rfl⟩] at hF
              replace hF := Lib.hid hF
              go_enter Tryd.func72, Tryd.ntmps72
              obtain ⟨z1, z2⟩ := HH.out.fz
              obtain ⟨a1, a2, a3, a4, a5, -, a7⟩ := HH.out.proc hp'
              obtain ⟨-, -, b3, -, b5⟩ := HH.out.cell hd'
              obtain ⟨-, -, -, -, e5⟩ := HH.out.cell hs'
              obtain ⟨-, -, -, -, f5⟩ := HH.out.cell hc'
              rw [HXD.out] at a4
              rw [HXS.out] at a5
              rw [HXC.out] at a2
              rw [hg] at b5
              rw [hg2] at e5
              rw [hr] at b3
              go_upto_region 0 with fail
              go_quiet (fail)
              have hqb := below_drw (Below.refl w.heap.size w) nq
              have HHQ := Lib.hid (HH.out.below hqb)
              have HCQ := Lib.hid (HC0.out.add hqb)
              clear a1 a2 a3 a4 a5 a7 b3 b5 e5 f5 z1 z2 hqb HH HC0
              generalize w.drewN nq = V at *
              have HH := Lib.hid HHQ.out
              have HC0 := Lib.hid HCQ.out
              clear HHQ HCQ
              obtain ⟨z1, z2⟩ := HH.out.fz
              obtain ⟨a1, a2, a3, a4, a5, -, a7⟩ := HH.out.proc hp'
              obtain ⟨-, -, b3, -, b5⟩ := HH.out.cell hd'
              obtain ⟨-, -, -, -, e5⟩ := HH.out.cell hs'
              obtain ⟨-, -, -, -, f5⟩ := HH.out.cell hc'
              rw [HXD.out] at a4
              rw [HXS.out] at a5
              rw [HXC.out] at a2
              rw [hg] at b5
              rw [hg2] at e5
              rw [hr] at b3
              go_upto_region 4 with fail
              go_quiet (fail)
              have hqb := below_drw (Below.refl V.heap.size V) nq
              have HHQ := Lib.hid (HH.out.below hqb)
              have HCQ := Lib.hid (HC0.out.add hqb)
              clear a1 a2 a3 a4 a5 a7 b3 b5 e5 f5 z1 z2 hqb HH HC0
              generalize V.drewN nq = U at *
              have HH := Lib.hid HHQ.out
              have HC0 := Lib.hid HCQ.out
              clear HHQ HCQ
              obtain ⟨z1, z2⟩ := HH.out.fz
              obtain ⟨a1, a2, a3, a4, a5, -, a7⟩ := HH.out.proc hp'
              obtain ⟨-, -, b3, -, b5⟩ := HH.out.cell hd'
              obtain ⟨-, -, -, -, e5⟩ := HH.out.cell hs'
              obtain ⟨-, -, -, -, f5⟩ := HH.out.cell hc'
              rw [HXD.out] at a4
              rw [HXS.out] at a5
              rw [HXC.out] at a2
              rw [hg] at b5
              rw [hg2] at e5
              rw [hr] at b3
              go_wp2_with fail
              clear a1 a2 a3 a4 a5 a7 b3 b5 e5 f5 z1 z2
              go_end0
              refine ⟨rfl, ?_, (HC0.out).set2 _ _⟩
              rw [hF.out]
              exact (HH.out.init hp').up hp' 2 (by decide) (.int .i64 9) { l.pr p with phase := 9 } rfl
            · have h2d : decide ((l.pr p).kind = 2) = false := decide_eq_false h2
              rw [if_neg (fun q => q.2 rfl), if_neg (fun q => h2 q.1)] at hF
              replace hF := Lib.hid hF
              go_enter Tryd.func72, Tryd.ntmps72
              obtain ⟨z1, z2⟩ := HH.out.fz
              obtain ⟨a1, a2, a3, a4, a5, -, a7⟩ := HH.out.proc hp'
              obtain ⟨-, -, b3, -, b5⟩ := HH.out.cell hd'
              obtain ⟨-, -, -, -, e5⟩ := HH.out.cell hs'
              obtain ⟨-, -, -, -, f5⟩ := HH.out.cell hc'
              rw [HXD.out] at a4
              rw [HXS.out] at a5
              rw [HXC.out] at a2
              rw [hg] at b5
              rw [hg2] at e5
              rw [hr] at b3
              go_upto_region 0 with fail
              go_quiet (fail)
              have hqb := below_drw (Below.refl w.heap.size w) nq
              have HHQ := Lib.hid (HH.out.below hqb)
              have HCQ := Lib.hid (HC0.out.add hqb)
              clear a1 a2 a3 a4 a5 a7 b3 b5 e5 f5 z1 z2 hqb HH HC0
              generalize w.drewN nq = V at *
              have HH := Lib.hid HHQ.out
              have HC0 := Lib.hid HCQ.out
              clear HHQ HCQ
              obtain ⟨z1, z2⟩ := HH.out.fz
              obtain ⟨a1, a2, a3, a4, a5, -, a7⟩ := HH.out.proc hp'
              obtain ⟨-, -, b3, -, b5⟩ := HH.out.cell hd'
              obtain ⟨-, -, -, -, e5⟩ := HH.out.cell hs'
              obtain ⟨-, -, -, -, f5⟩ := HH.out.cell hc'
              rw [HXD.out] at a4
              rw [HXS.out] at a5
              rw [HXC.out] at a2
              rw [hg] at b5
              rw [hg2] at e5
              rw [hr] at b3
              go_upto_region 4 with fail
              go_quiet (fail)
              have hqb := below_drw (Below.refl V.heap.size V) nq
              have HHQ := Lib.hid (HH.out.below hqb)
              have HCQ := Lib.hid (HC0.out.add hqb)
              clear a1 a2 a3 a4 a5 a7 b3 b5 e5 f5 z1 z2 hqb HH HC0
              generalize V.drewN nq = U at *
              have HH := Lib.hid HHQ.out
              have HC0 := Lib.hid HCQ.out
              clear HHQ HCQ
              obtain ⟨z1, z2⟩ := HH.out.fz
              obtain ⟨a1, a2, a3, a4, a5, -, a7⟩ := HH.out.proc hp'
              obtain ⟨-, -, b3, -, b5⟩ := HH.out.cell hd'
              obtain ⟨-, -, -, -, e5⟩ := HH.out.cell hs'
              obtain ⟨-, -, -, -, f5⟩ := HH.out.cell hc'
              rw [HXD.out] at a4
              rw [HXS.out] at a5
              rw [HXC.out] at a2
              rw [hg] at b5
              rw [hg2] at e5
              rw [hr] at b3
              go_wp2_with fail
              clear a1 a2 a3 a4 a5 a7 b3 b5 e5 f5 z1 z2
              go_end0
              refine ⟨rfl, ?_, (HC0.out).set2 _ _⟩
              rw [hF.out]
              exact (HH.out.init hp').up hp' 2 (by decide) (.int .i64 13) { l.pr p with phase := 13 } rfl
          · have hsd : decide ((s : Int) = (c : Int)) = false := decide_eq_false (by omega)
            have hsn : (!((s : Int) == (c : Int))) = true := by simp; omega
            by_cases h1 : (l.pr p).kind = 1
            · have h1d : decide ((l.pr p).kind = 1) = true := decide_eq_true h1
              rw [if_pos ⟨h1, hsc⟩] at hF
              replace hF := Lib.hid hF
              go_enter Tryd.func72, Tryd.ntmps72
              obtain ⟨z1, z2⟩ := HH.out.fz
              obtain ⟨a1, a2, a3, a4, a5, -, a7⟩ := HH.out.proc hp'
              obtain ⟨-, -, b3, -, b5⟩ := HH.out.cell hd'
              obtain ⟨-, -, -, -, e5⟩ := HH.out.cell hs'
              obtain ⟨-, -, -, -, f5⟩ := HH.out.cell hc'
              rw [HXD.out] at a4
              rw [HXS.out] at a5
              rw [HXC.out] at a2
              rw [hg] at b5
              rw [hg2] at e5
              rw [hr] at b3
              go_upto_region 0 with fail
              go_quiet (fail)
              have hqb := below_drw (Below.refl w.heap.size w) nq
              have HHQ := Lib.hid (HH.out.below hqb)
              have HCQ := Lib.hid (HC0.out.add hqb)
              clear a1 a2 a3 a4 a5 a7 b3 b5 e5 f5 z1 z2 hqb HH HC0
              generalize w.drewN nq = V at *
              have HH := Lib.hid HHQ.out
              have HC0 := Lib.hid HCQ.out
              clear HHQ HCQ
              obtain ⟨z1, z2⟩ := HH.out.fz
              obtain ⟨a1, a2, a3, a4, a5, -, a7⟩ := HH.out.proc hp'
              obtain ⟨-, -, b3, -, b5⟩ := HH.out.cell hd'
              obtain ⟨-, -, -, -, e5⟩ := HH.out.cell hs'
              obtain ⟨-, -, -, -, f5⟩ := HH.out.cell hc'
              rw [HXD.out] at a4
              rw [HXS.out] at a5
              rw [HXC.out] at a2
              rw [hg] at b5
              rw [hg2] at e5
              rw [hr] at b3
              go_upto_region 4 with fail
              go_quiet (fail)
              have hqb := below_drw (Below.refl V.heap.size V) nq
              have HHQ := Lib.hid (HH.out.below hqb)
              have HCQ := Lib.hid (HC0.out.add hqb)
              clear a1 a2 a3 a4 a5 a7 b3 b5 e5 f5 z1 z2 hqb HH HC0
              generalize V.drewN nq = U at *
              have HH := Lib.hid HHQ.out
              have HC0 := Lib.hid HCQ.out
              clear HHQ HCQ
              obtain ⟨z1, z2⟩ := HH.out.fz
              obtain ⟨a1, a2, a3, a4, a5, -, a7⟩ := HH.out.proc hp'
              obtain ⟨-, -, b3, -, b5⟩ := HH.out.cell hd'
              obtain ⟨-, -, -, -, e5⟩ := HH.out.cell hs'
              obtain ⟨-, -, -, -, f5⟩ := HH.out.cell hc'
              rw [HXD.out] at a4
              rw [HXS.out] at a5
              rw [HXC.out] at a2
              rw [hg] at b5
              rw [hg2] at e5
              rw [hr] at b3
              go_wp2_with fail
              clear a1 a2 a3 a4 a5 a7 b3 b5 e5 f5 z1 z2
              go_end0
              refine ⟨rfl, ?_, (HC0.out).set2 _ _⟩
              rw [hF.out]
              exact (HH.out.init hp').up hp' 2 (by decide) (.int .i64 6) { l.pr p with phase := 6 } rfl
            · have h1d : decide ((l.pr p).kind = 1) = false := decide_eq_false h1
              rw [if_neg (fun q => h1 q.1), if_neg (fun q => hsc q.2)] at hF
              replace hF := Lib.hid hF
              go_enter Tryd.func72, Tryd.ntmps72
              obtain ⟨z1, z2⟩ := HH.out.fz
              obtain ⟨a1, a2, a3, a4, a5, -, a7⟩ := HH.out.proc hp'
              obtain ⟨-, -, b3, -, b5⟩ := HH.out.cell hd'
              obtain ⟨-, -, -, -, e5⟩ := HH.out.cell hs'
              obtain ⟨-, -, -, -, f5⟩ := HH.out.cell hc'
              rw [HXD.out] at a4
              rw [HXS.out] at a5
              rw [HXC.out] at a2
              rw [hg] at b5
              rw [hg2] at e5
              rw [hr] at b3
              go_upto_region 0 with fail
              go_quiet (fail)
              have hqb := below_drw (Below.refl w.heap.size w) nq
              have HHQ := Lib.hid (HH.out.below hqb)
              have HCQ := Lib.hid (HC0.out.add hqb)
              clear a1 a2 a3 a4 a5 a7 b3 b5 e5 f5 z1 z2 hqb HH HC0
              generalize w.drewN nq = V at *
              have HH := Lib.hid HHQ.out
              have HC0 := Lib.hid HCQ.out
              clear HHQ HCQ
              obtain ⟨z1, z2⟩ := HH.out.fz
              obtain ⟨a1, a2, a3, a4, a5, -, a7⟩ := HH.out.proc hp'
              obtain ⟨-, -, b3, -, b5⟩ := HH.out.cell hd'
              obtain ⟨-, -, -, -, e5⟩ := HH.out.cell hs'
              obtain ⟨-, -, -, -, f5⟩ := HH.out.cell hc'
              rw [HXD.out] at a4
              rw [HXS.out] at a5
              rw [HXC.out] at a2
              rw [hg] at b5
              rw [hg2] at e5
              rw [hr] at b3
              go_upto_region 4 with fail
              go_quiet (fail)
              have hqb := below_drw (Below.refl V.heap.size V) nq
              have HHQ := Lib.hid (HH.out.below hqb)
              have HCQ := Lib.hid (HC0.out.add hqb)
              clear a1 a2 a3 a4 a5 a7 b3 b5 e5 f5 z1 z2 hqb HH HC0
              generalize V.drewN nq = U at *
              have HH := Lib.hid HHQ.out
              have HC0 := Lib.hid HCQ.out
              clear HHQ HCQ
              obtain ⟨z1, z2⟩ := HH.out.fz
              obtain ⟨a1, a2, a3, a4, a5, -, a7⟩ := HH.out.proc hp'
              obtain ⟨-, -, b3, -, b5⟩ := HH.out.cell hd'
              obtain ⟨-, -, -, -, e5⟩ := HH.out.cell hs'
              obtain ⟨-, -, -, -, f5⟩ := HH.out.cell hc'
              rw [HXD.out] at a4
              rw [HXS.out] at a5
              rw [HXC.out] at a2
              rw [hg] at b5
              rw [hg2] at e5
              rw [hr] at b3
              go_wp2_with fail
              clear a1 a2 a3 a4 a5 a7 b3 b5 e5 f5 z1 z2
              go_end0
              refine ⟨rfl, ?_, (HC0.out).set2 _ _⟩
              rw [hF.out]
              exact (HH.out.init hp').up hp' 2 (by decide) (.int .i64 13) { l.pr p with phase := 13 } rfl
        · have hrd : ((l.at_ d).right != (s : Int)) = true := by simpa using hr
          rw [if_pos (.inr (.inr hr))] at hF
          replace hF := Lib.hid hF
          go_enter Tryd.func72, Tryd.ntmps72
          obtain ⟨z1, z2⟩ := HH.out.fz
          obtain ⟨a1, a2, a3, a4, a5, -, a7⟩ := HH.out.proc hp'
          obtain ⟨-, -, b3, -, b5⟩ := HH.out.cell hd'
          obtain ⟨-, -, -, -, e5⟩ := HH.out.cell hs'
          obtain ⟨-, -, -, -, f5⟩ := HH.out.cell hc'
          rw [HXD.out] at a4
          rw [HXS.out] at a5
          rw [HXC.out] at a2
          rw [hg] at b5
          rw [hg2] at e5
          go_upto_region 0 with fail
          go_quiet (fail)
          have hqb := below_drw (Below.refl w.heap.size w) nq
          have HHQ := Lib.hid (HH.out.below hqb)
          have HCQ := Lib.hid (HC0.out.add hqb)
          clear a1 a2 a3 a4 a5 a7 b3 b5 e5 f5 z1 z2 hqb HH HC0
          generalize w.drewN nq = V at *
          have HH := Lib.hid HHQ.out
          have HC0 := Lib.hid HCQ.out
          clear HHQ HCQ
          obtain ⟨z1, z2⟩ := HH.out.fz
          obtain ⟨a1, a2, a3, a4, a5, -, a7⟩ := HH.out.proc hp'
          obtain ⟨-, -, b3, -, b5⟩ := HH.out.cell hd'
          obtain ⟨-, -, -, -, e5⟩ := HH.out.cell hs'
          obtain ⟨-, -, -, -, f5⟩ := HH.out.cell hc'
          rw [HXD.out] at a4
          rw [HXS.out] at a5
          rw [HXC.out] at a2
          rw [hg] at b5
          rw [hg2] at e5
          go_upto_region 4 with fail
          go_quiet (fail)
          have hqb := below_drw (Below.refl V.heap.size V) nq
          have HHQ := Lib.hid (HH.out.below hqb)
          have HCQ := Lib.hid (HC0.out.add hqb)
          clear a1 a2 a3 a4 a5 a7 b3 b5 e5 f5 z1 z2 hqb HH HC0
          generalize V.drewN nq = U at *
          have HH := Lib.hid HHQ.out
          have HC0 := Lib.hid HCQ.out
          clear HHQ HCQ
          obtain ⟨z1, z2⟩ := HH.out.fz
          obtain ⟨a1, a2, a3, a4, a5, -, a7⟩ := HH.out.proc hp'
          obtain ⟨-, -, b3, -, b5⟩ := HH.out.cell hd'
          obtain ⟨-, -, -, -, e5⟩ := HH.out.cell hs'
          obtain ⟨-, -, -, -, f5⟩ := HH.out.cell hc'
          rw [HXD.out] at a4
          rw [HXS.out] at a5
          rw [HXC.out] at a2
          rw [hg] at b5
          rw [hg2] at e5
          go_wp2_with fail
          clear a1 a2 a3 a4 a5 a7 b3 b5 e5 f5 z1 z2
          go_end0
          refine ⟨rfl, ?_, (HC0.out).set2 _ _⟩
          rw [hF.out]
          exact (HH.out.init hp').up hp' 2 (by decide) (.int .i64 5) { l.pr p with phase := 5 } rfl
end Lk
end Go.Proofs.YtgmffgdhijcfcaaDoor
