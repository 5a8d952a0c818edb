/-
  act of package locked, phase by phase, in place. Conditions: the list is valid and may be changed in place.
-/
import Derived.Test.YtgmffgdhijcfcaaDoorKzH
namespace Go.Proofs.YtgmffgdhijcfcaaDoor
open Go.RowKit Go.Maps
namespace Lk
theorem free_at0 (l : Ls) (p : Nat) : ((l.free p).at_ 0).right = (l.at_ 0).right := by
  rw [Ls.at_free]
  split <;> rfl
set_option maxRecDepth 100000 in
set_option maxHeartbeats 1600000 in
theorem act_1 (l : Ls) (n m p d s c x base G1 G2 c1 c2 : Nat) (w : World) (hn : l.cs.length = n) (hm : l.ps.length = m) (h : MemL w base G1 G2 c1 c2 l) (hp : p < m) (hd : d < n) (hs : s < n) (hc : c < n) (hx : x < n) (_m8 : m ≤ 8) (_n66 : n ≤ 66) (hxd : (l.pr p).pred = (d : Int)) (hxs : (l.pr p).succ = (s : Int)) (hxc : (l.pr p).cell = (c : Int)) (hxx : (l.pr p).next = (x : Int)) (hph : (l.pr p).phase = 1) :
    Calls Tryd.prog 49 #[.agg #[.slice (some ⟨G1, 0, none⟩) n c1, .slice (some ⟨G2, 0, none⟩) m c2], .int .i64 (p : Int)] w (OptP (stepV l p) l base G1 G2 c1 c2 w) := by
  have HE := Lib.hid (step_1 hph hxs hxc)
  have HK : Hid (Chg G1 G2 w _) := Lib.hid (Chg.of ((Below.refl w.heap.size w).alloc (Nat.le_refl _) (.cells #[.slice (some ⟨G1, 0, none⟩) n c1, .slice (some ⟨G2, 0, none⟩) m c2] 35)))
  have HH := Lib.hid (h.below ((Below.refl _ _).alloc (Nat.le_refl _) (.cells #[.slice (some ⟨G1, 0, none⟩) n c1, .slice (some ⟨G2, 0, none⟩) m c2] 35)))
  have HX := Lib.hid (Has.new w 35 #[.slice (some ⟨G1, 0, none⟩) n c1, .slice (some ⟨G2, 0, none⟩) m c2])
  have hbn : G1 < w.heap.size ∧ G2 < w.heap.size := ⟨h.cs.lt, h.ps.lt⟩
  have hne : ¬ G1 = G2 := h.ne
  have hne' : ¬ G2 = G1 := fun e => h.ne e.symm
  have HN := Lib.hid hn
  have HM := Lib.hid hm
  have hp' : p < l.ps.length := by rw [hm]; exact hp
  have hd' : d < l.cs.length := by rw [hn]; exact hd
  have hs' : s < l.cs.length := by rw [hn]; exact hs
  have hc' : c < l.cs.length := by rw [hn]; exact hc
  have hx' : x < l.cs.length := by rw [hn]; exact hx
  have p0 : (0 : Int) ≤ (p : Int) := by omega
  have p1 : (p : Int) < (m : Int) := by omega
  have r0 : (0 : Int) ≤ (d : Int) := by omega
  have r1 : (d : Int) < (n : Int) := by omega
  have q0 : (0 : Int) ≤ (s : Int) := by omega
  have q1 : (s : Int) < (n : Int) := by omega
  have t0 : (0 : Int) ≤ (c : Int) := by omega
  have t1 : (c : Int) < (n : Int) := by omega
  have u0 : (0 : Int) ≤ (x : Int) := by omega
  have u1 : (x : Int) < (n : Int) := by omega
  have HXD := Lib.hid hxd
  have HXS := Lib.hid hxs
  have HXC := Lib.hid hxc
  have HXX := Lib.hid hxx
  have HPH := Lib.hid hph
  obtain ⟨O, hO⟩ : ∃ O, O = stepV l p := ⟨_, rfl⟩
  rw [← hO] at HE ⊢
  clear h hn hm hxd hxs hxc hxx hph hO
  go_enter Tryd.func49, Tryd.ntmps49
  go_upto_region 1 with fail
  generalize w.alloc (.cells #[.slice (some ⟨G1, 0, none⟩) n c1, .slice (some ⟨G2, 0, none⟩) m c2] 35) = W at *
  obtain ⟨B, hB⟩ : ∃ B, B = w.heap.size := ⟨_, rfl⟩
  rw [← hB] at HX hbn ⊢
  clear hB
  have x0 := HX.out.cell 0
  have x1 := HX.out.cell 1
  go_quiet (fail)
  have hqb := below_drw (Below.refl W.heap.size W) nq
  have HHQ := Lib.hid (HH.out.below hqb)
  have HKQ := Lib.hid (HK.out.add hqb)
  have HXQ := Lib.hid (HX.out.below hqb)
  clear x0 x1 hqb HH HK HX
  generalize W.drewN nq = V at *
  have x0 := HXQ.out.cell 0
  have x1 := HXQ.out.cell 1
  obtain ⟨z1, z2⟩ := HHQ.out.fz
  obtain ⟨a1, a2, a3, a4, a5, a6, a7⟩ := HHQ.out.proc hp'
  rw [HPH.out] at a3
  rw [HXD.out] at a4
  rw [HXS.out] at a5
  rw [HXX.out] at a6
  rw [HXC.out] at a2
  obtain ⟨-, b2, b3, -, b5⟩ := HHQ.out.cell hd'
  obtain ⟨-, e2, e3, -, e5⟩ := HHQ.out.cell hs'
  obtain ⟨-, f2, f3, -, f5⟩ := HHQ.out.cell hc'
  obtain ⟨-, g2, g3, -, g5⟩ := HHQ.out.cell hx'
  have HL := Lib.hid (find_any l n m p s c base G1 G2 c1 c2 V HN.out HM.out HHQ.out hp hs hc HXS.out HXC.out)
  go_wp2_with fail
  refine (HL.out).mono ?_
  rintro e w2 ⟨rfl, hm2, hb2⟩
  clear x0 x1 z1 z2 a1 a2 a3 a4 a5 a6 a7 b2 b3 b5 e2 e3 e5 f2 f3 f5 g2 g3 g5
  have HM2 := Lib.hid hm2
  have HB2 := Lib.hid hb2
  clear hm2 hb2
  go_wp2_with fail
  go_ret
  exact ⟨by rw [HE.out]; rfl, by rw [HE.out]; exact HM2.out, HKQ.out.trans HB2.out⟩
set_option maxRecDepth 100000 in
set_option maxHeartbeats 1600000 in
theorem act_2 (l : Ls) (n m p d s c x base G1 G2 c1 c2 : Nat) (w : World) (hn : l.cs.length = n) (hm : l.ps.length = m) (h : MemL w base G1 G2 c1 c2 l) (hp : p < m) (hd : d < n) (hs : s < n) (hc : c < n) (hx : x < n) (m8 : m ≤ 8) (_n66 : n ≤ 66) (hxd : (l.pr p).pred = (d : Int)) (hxs : (l.pr p).succ = (s : Int)) (hxc : (l.pr p).cell = (c : Int)) (hxx : (l.pr p).next = (x : Int)) (hph : (l.pr p).phase = 2) :
    Calls Tryd.prog 49 #[.agg #[.slice (some ⟨G1, 0, none⟩) n c1, .slice (some ⟨G2, 0, none⟩) m c2], .int .i64 (p : Int)] w (OptP (stepV l p) l base G1 G2 c1 c2 w) := by
  have HE := Lib.hid (step_2 hph hxd)
  have HK : Hid (Chg G1 G2 w _) := Lib.hid (Chg.of ((Below.refl w.heap.size w).alloc (Nat.le_refl _) (.cells #[.slice (some ⟨G1, 0, none⟩) n c1, .slice (some ⟨G2, 0, none⟩) m c2] 35)))
  have HH := Lib.hid (h.below ((Below.refl _ _).alloc (Nat.le_refl _) (.cells #[.slice (some ⟨G1, 0, none⟩) n c1, .slice (some ⟨G2, 0, none⟩) m c2] 35)))
  have HX := Lib.hid (Has.new w 35 #[.slice (some ⟨G1, 0, none⟩) n c1, .slice (some ⟨G2, 0, none⟩) m c2])
  have hbn : G1 < w.heap.size ∧ G2 < w.heap.size := ⟨h.cs.lt, h.ps.lt⟩
  have hne : ¬ G1 = G2 := h.ne
  have hne' : ¬ G2 = G1 := fun e => h.ne e.symm
  have HN := Lib.hid hn
  have HM := Lib.hid hm
  have hp' : p < l.ps.length := by rw [hm]; exact hp
  have hd' : d < l.cs.length := by rw [hn]; exact hd
  have hs' : s < l.cs.length := by rw [hn]; exact hs
  have hc' : c < l.cs.length := by rw [hn]; exact hc
  have hx' : x < l.cs.length := by rw [hn]; exact hx
  have p0 : (0 : Int) ≤ (p : Int) := by omega
  have p1 : (p : Int) < (m : Int) := by omega
  have r0 : (0 : Int) ≤ (d : Int) := by omega
  have r1 : (d : Int) < (n : Int) := by omega
  have q0 : (0 : Int) ≤ (s : Int) := by omega
  have q1 : (s : Int) < (n : Int) := by omega
  have t0 : (0 : Int) ≤ (c : Int) := by omega
  have t1 : (c : Int) < (n : Int) := by omega
  have u0 : (0 : Int) ≤ (x : Int) := by omega
  have u1 : (x : Int) < (n : Int) := by omega
  have HXD := Lib.hid hxd
  have HXS := Lib.hid hxs
  have HXC := Lib.hid hxc
  have HXX := Lib.hid hxx
  have HPH := Lib.hid hph
  obtain ⟨O, hO⟩ : ∃ O, O = stepV l p := ⟨_, rfl⟩
  rw [← hO] at HE ⊢
  clear h hn hm hxd hxs hxc hxx hph hO
  go_enter Tryd.func49, Tryd.ntmps49
  go_upto_region 1 with fail
  generalize w.alloc (.cells #[.slice (some ⟨G1, 0, none⟩) n c1, .slice (some ⟨G2, 0, none⟩) m c2] 35) = W at *
  obtain ⟨B, hB⟩ : ∃ B, B = w.heap.size := ⟨_, rfl⟩
  rw [← hB] at HX hbn ⊢
  clear hB
  have x0 := HX.out.cell 0
  have x1 := HX.out.cell 1
  go_quiet (fail)
  have hqb := below_drw (Below.refl W.heap.size W) nq
  have HHQ := Lib.hid (HH.out.below hqb)
  have HKQ := Lib.hid (HK.out.add hqb)
  have HXQ := Lib.hid (HX.out.below hqb)
  clear x0 x1 hqb HH HK HX
  generalize W.drewN nq = V at *
  have x0 := HXQ.out.cell 0
  have x1 := HXQ.out.cell 1
  obtain ⟨z1, z2⟩ := HHQ.out.fz
  obtain ⟨a1, a2, a3, a4, a5, a6, a7⟩ := HHQ.out.proc hp'
  rw [HPH.out] at a3
  rw [HXD.out] at a4
  rw [HXS.out] at a5
  rw [HXX.out] at a6
  rw [HXC.out] at a2
  obtain ⟨-, b2, b3, -, b5⟩ := HHQ.out.cell hd'
  obtain ⟨-, e2, e3, -, e5⟩ := HHQ.out.cell hs'
  obtain ⟨-, f2, f3, -, f5⟩ := HHQ.out.cell hc'
  obtain ⟨-, g2, g3, -, g5⟩ := HHQ.out.cell hx'
  go_upto_region 7 with fail
  refine wp_region_still_tail 6 (by kernel_rfl) (by kernel_rfl) ?_
  simp only [List.take_succ_cons, List.take_zero, List.drop_succ_cons, List.drop_zero]
  change wpStill _ _ V.drew (fun a' => wpList _ _ _ _ a' V.drew) _ _
  have HHR := Lib.hid HHQ.out.drew
  have HKR := Lib.hid HKQ.out.drew
  have HXR := Lib.hid (HXQ.out.below (Below.refl _ _).drew)
  clear x0 x1 z1 z2 a1 a2 a3 a4 a5 a6 a7 b2 b3 b5 e2 e3 e5 f2 f3 f5 g2 g3 g5
  generalize V.drew = V1 at *
  have x0 := HXR.out.cell 0
  have x1 := HXR.out.cell 1
  obtain ⟨z1, z2⟩ := HHR.out.fz
  obtain ⟨a1, a2, a3, a4, a5, a6, a7⟩ := HHR.out.proc hp'
  rw [HPH.out] at a3
  rw [HXD.out] at a4
  rw [HXS.out] at a5
  rw [HXX.out] at a6
  rw [HXC.out] at a2
  obtain ⟨-, b2, b3, -, b5⟩ := HHR.out.cell hd'
  obtain ⟨-, e2, e3, -, e5⟩ := HHR.out.cell hs'
  obtain ⟨-, f2, f3, -, f5⟩ := HHR.out.cell hc'
  obtain ⟨-, g2, g3, -, g5⟩ := HHR.out.cell hx'
  repeat still_step
  refine wpStill_nil ?_
  have HL := Lib.hid (lock_any l n m p d base G1 G2 c1 c2 3 V1 HN.out HM.out HHR.out hp hd m8)
  go_wp2_with fail
  refine (HL.out).mono ?_
  rintro e w2 ⟨rfl, hm2, hb2⟩
  clear x0 x1 z1 z2 a1 a2 a3 a4 a5 a6 a7 b2 b3 b5 e2 e3 e5 f2 f3 f5 g2 g3 g5
  have HM2 := Lib.hid hm2
  have HB2 := Lib.hid hb2
  clear hm2 hb2
  go_wp2_with fail
  go_ret
  exact ⟨by rw [HE.out]; rfl, by rw [HE.out]; exact HM2.out, HKR.out.trans HB2.out⟩
set_option maxRecDepth 100000 in
set_option maxHeartbeats 1600000 in
theorem act_3 (l : Ls) (n m p d s c x base G1 G2 c1 c2 : Nat) (w : World) (hn : l.cs.length = n) (hm : l.ps.length = m) (h : MemL w base G1 G2 c1 c2 l) (hp : p < m) (hd : d < n) (hs : s < n) (hc : c < n) (hx : x < n) (m8 : m ≤ 8) (_n66 : n ≤ 66) (hxd : (l.pr p).pred = (d : Int)) (hxs : (l.pr p).succ = (s : Int)) (hxc : (l.pr p).cell = (c : Int)) (hxx : (l.pr p).next = (x : Int)) (hph : (l.pr p).phase = 3) :
    Calls Tryd.prog 49 #[.agg #[.slice (some ⟨G1, 0, none⟩) n c1, .slice (some ⟨G2, 0, none⟩) m c2], .int .i64 (p : Int)] w (OptP (stepV l p) l base G1 G2 c1 c2 w) := by
  have HE := Lib.hid (step_3 hph hxs)
  have HK : Hid (Chg G1 G2 w _) := Lib.hid (Chg.of ((Below.refl w.heap.size w).alloc (Nat.le_refl _) (.cells #[.slice (some ⟨G1, 0, none⟩) n c1, .slice (some ⟨G2, 0, none⟩) m c2] 35)))
  have HH := Lib.hid (h.below ((Below.refl _ _).alloc (Nat.le_refl _) (.cells #[.slice (some ⟨G1, 0, none⟩) n c1, .slice (some ⟨G2, 0, none⟩) m c2] 35)))
  have HX := Lib.hid (Has.new w 35 #[.slice (some ⟨G1, 0, none⟩) n c1, .slice (some ⟨G2, 0, none⟩) m c2])
  have hbn : G1 < w.heap.size ∧ G2 < w.heap.size := ⟨h.cs.lt, h.ps.lt⟩
  have hne : ¬ G1 = G2 := h.ne
  have hne' : ¬ G2 = G1 := fun e => h.ne e.symm
  have HN := Lib.hid hn
  have HM := Lib.hid hm
  have hp' : p < l.ps.length := by rw [hm]; exact hp
  have hd' : d < l.cs.length := by rw [hn]; exact hd
  have hs' : s < l.cs.length := by rw [hn]; exact hs
  have hc' : c < l.cs.length := by rw [hn]; exact hc
  have hx' : x < l.cs.length := by rw [hn]; exact hx
  have p0 : (0 : Int) ≤ (p : Int) := by omega
  have p1 : (p : Int) < (m : Int) := by omega
  have r0 : (0 : Int) ≤ (d : Int) := by omega
  have r1 : (d : Int) < (n : Int) := by omega
  have q0 : (0 : Int) ≤ (s : Int) := by omega
  have q1 : (s : Int) < (n : Int) := by omega
  have t0 : (0 : Int) ≤ (c : Int) := by omega
  have t1 : (c : Int) < (n : Int) := by omega
  have u0 : (0 : Int) ≤ (x : Int) := by omega
  have u1 : (x : Int) < (n : Int) := by omega
  have HXD := Lib.hid hxd
  have HXS := Lib.hid hxs
  have HXC := Lib.hid hxc
  have HXX := Lib.hid hxx
  have HPH := Lib.hid hph
  obtain ⟨O, hO⟩ : ∃ O, O = stepV l p := ⟨_, rfl⟩
  rw [← hO] at HE ⊢
  clear h hn hm hxd hxs hxc hxx hph hO
  go_enter Tryd.func49, Tryd.ntmps49
  go_upto_region 1 with fail
  generalize w.alloc (.cells #[.slice (some ⟨G1, 0, none⟩) n c1, .slice (some ⟨G2, 0, none⟩) m c2] 35) = W at *
  obtain ⟨B, hB⟩ : ∃ B, B = w.heap.size := ⟨_, rfl⟩
  rw [← hB] at HX hbn ⊢
  clear hB
  have x0 := HX.out.cell 0
  have x1 := HX.out.cell 1
  go_quiet (fail)
  have hqb := below_drw (Below.refl W.heap.size W) nq
  have HHQ := Lib.hid (HH.out.below hqb)
  have HKQ := Lib.hid (HK.out.add hqb)
  have HXQ := Lib.hid (HX.out.below hqb)
  clear x0 x1 hqb HH HK HX
  generalize W.drewN nq = V at *
  have x0 := HXQ.out.cell 0
  have x1 := HXQ.out.cell 1
  obtain ⟨z1, z2⟩ := HHQ.out.fz
  obtain ⟨a1, a2, a3, a4, a5, a6, a7⟩ := HHQ.out.proc hp'
  rw [HPH.out] at a3
  rw [HXD.out] at a4
  rw [HXS.out] at a5
  rw [HXX.out] at a6
  rw [HXC.out] at a2
  obtain ⟨-, b2, b3, -, b5⟩ := HHQ.out.cell hd'
  obtain ⟨-, e2, e3, -, e5⟩ := HHQ.out.cell hs'
  obtain ⟨-, f2, f3, -, f5⟩ := HHQ.out.cell hc'
  obtain ⟨-, g2, g3, -, g5⟩ := HHQ.out.cell hx'
  go_upto_region 9 with fail
  refine wp_region_still_tail 6 (by kernel_rfl) (by kernel_rfl) ?_
  simp only [List.take_succ_cons, List.take_zero, List.drop_succ_cons, List.drop_zero]
  change wpStill _ _ V.drew (fun a' => wpList _ _ _ _ a' V.drew) _ _
  have HHR := Lib.hid HHQ.out.drew
  have HKR := Lib.hid HKQ.out.drew
  have HXR := Lib.hid (HXQ.out.below (Below.refl _ _).drew)
  clear x0 x1 z1 z2 a1 a2 a3 a4 a5 a6 a7 b2 b3 b5 e2 e3 e5 f2 f3 f5 g2 g3 g5
  generalize V.drew = V1 at *
  have x0 := HXR.out.cell 0
  have x1 := HXR.out.cell 1
  obtain ⟨z1, z2⟩ := HHR.out.fz
  obtain ⟨a1, a2, a3, a4, a5, a6, a7⟩ := HHR.out.proc hp'
  rw [HPH.out] at a3
  rw [HXD.out] at a4
  rw [HXS.out] at a5
  rw [HXX.out] at a6
  rw [HXC.out] at a2
  obtain ⟨-, b2, b3, -, b5⟩ := HHR.out.cell hd'
  obtain ⟨-, e2, e3, -, e5⟩ := HHR.out.cell hs'
  obtain ⟨-, f2, f3, -, f5⟩ := HHR.out.cell hc'
  obtain ⟨-, g2, g3, -, g5⟩ := HHR.out.cell hx'
  repeat still_step
  refine wpStill_nil ?_
  have HL := Lib.hid (lock_any l n m p s base G1 G2 c1 c2 4 V1 HN.out HM.out HHR.out hp hs m8)
  go_wp2_with fail
  refine (HL.out).mono ?_
  rintro e w2 ⟨rfl, hm2, hb2⟩
  clear x0 x1 z1 z2 a1 a2 a3 a4 a5 a6 a7 b2 b3 b5 e2 e3 e5 f2 f3 f5 g2 g3 g5
  have HM2 := Lib.hid hm2
  have HB2 := Lib.hid hb2
  clear hm2 hb2
  go_wp2_with fail
  go_ret
  exact ⟨by rw [HE.out]; rfl, by rw [HE.out]; exact HM2.out, HKR.out.trans HB2.out⟩
set_option maxRecDepth 100000 in
set_option maxHeartbeats 1600000 in
theorem act_4 (l : Ls) (n m p d s c x base G1 G2 c1 c2 : Nat) (w : World) (hn : l.cs.length = n) (hm : l.ps.length = m) (h : MemL w base G1 G2 c1 c2 l) (hp : p < m) (hd : d < n) (hs : s < n) (hc : c < n) (hx : x < n) (_m8 : m ≤ 8) (_n66 : n ≤ 66) (hxd : (l.pr p).pred = (d : Int)) (hxs : (l.pr p).succ = (s : Int)) (hxc : (l.pr p).cell = (c : Int)) (hxx : (l.pr p).next = (x : Int)) (hph : (l.pr p).phase = 4) :
    Calls Tryd.prog 49 #[.agg #[.slice (some ⟨G1, 0, none⟩) n c1, .slice (some ⟨G2, 0, none⟩) m c2], .int .i64 (p : Int)] w (OptP (stepV l p) l base G1 G2 c1 c2 w) := by
  have HE := Lib.hid (step_4 hph hxd hxs hxc)
  have HK : Hid (Chg G1 G2 w _) := Lib.hid (Chg.of ((Below.refl w.heap.size w).alloc (Nat.le_refl _) (.cells #[.slice (some ⟨G1, 0, none⟩) n c1, .slice (some ⟨G2, 0, none⟩) m c2] 35)))
  have HH := Lib.hid (h.below ((Below.refl _ _).alloc (Nat.le_refl _) (.cells #[.slice (some ⟨G1, 0, none⟩) n c1, .slice (some ⟨G2, 0, none⟩) m c2] 35)))
  have HX := Lib.hid (Has.new w 35 #[.slice (some ⟨G1, 0, none⟩) n c1, .slice (some ⟨G2, 0, none⟩) m c2])
  have hbn : G1 < w.heap.size ∧ G2 < w.heap.size := ⟨h.cs.lt, h.ps.lt⟩
  have hne : ¬ G1 = G2 := h.ne
  have hne' : ¬ G2 = G1 := fun e => h.ne e.symm
  have HN := Lib.hid hn
  have HM := Lib.hid hm
  have hp' : p < l.ps.length := by rw [hm]; exact hp
  have hd' : d < l.cs.length := by rw [hn]; exact hd
  have hs' : s < l.cs.length := by rw [hn]; exact hs
  have hc' : c < l.cs.length := by rw [hn]; exact hc
  have hx' : x < l.cs.length := by rw [hn]; exact hx
  have p0 : (0 : Int) ≤ (p : Int) := by omega
  have p1 : (p : Int) < (m : Int) := by omega
  have r0 : (0 : Int) ≤ (d : Int) := by omega
  have r1 : (d : Int) < (n : Int) := by omega
  have q0 : (0 : Int) ≤ (s : Int) := by omega
  have q1 : (s : Int) < (n : Int) := by omega
  have t0 : (0 : Int) ≤ (c : Int) := by omega
  have t1 : (c : Int) < (n : Int) := by omega
  have u0 : (0 : Int) ≤ (x : Int) := by omega
  have u1 : (x : Int) < (n : Int) := by omega
  have HXD := Lib.hid hxd
  have HXS := Lib.hid hxs
  have HXC := Lib.hid hxc
  have HXX := Lib.hid hxx
  have HPH := Lib.hid hph
  obtain ⟨O, hO⟩ : ∃ O, O = stepV l p := ⟨_, rfl⟩
  rw [← hO] at HE ⊢
  clear h hn hm hxd hxs hxc hxx hph hO
  go_enter Tryd.func49, Tryd.ntmps49
  go_upto_region 1 with fail
  generalize w.alloc (.cells #[.slice (some ⟨G1, 0, none⟩) n c1, .slice (some ⟨G2, 0, none⟩) m c2] 35) = W at *
  obtain ⟨B, hB⟩ : ∃ B, B = w.heap.size := ⟨_, rfl⟩
  rw [← hB] at HX hbn ⊢
  clear hB
  have x0 := HX.out.cell 0
  have x1 := HX.out.cell 1
  go_quiet (fail)
  have hqb := below_drw (Below.refl W.heap.size W) nq
  have HHQ := Lib.hid (HH.out.below hqb)
  have HKQ := Lib.hid (HK.out.add hqb)
  have HXQ := Lib.hid (HX.out.below hqb)
  clear x0 x1 hqb HH HK HX
  generalize W.drewN nq = V at *
  have x0 := HXQ.out.cell 0
  have x1 := HXQ.out.cell 1
  obtain ⟨z1, z2⟩ := HHQ.out.fz
  obtain ⟨a1, a2, a3, a4, a5, a6, a7⟩ := HHQ.out.proc hp'
  rw [HPH.out] at a3
  rw [HXD.out] at a4
  rw [HXS.out] at a5
  rw [HXX.out] at a6
  rw [HXC.out] at a2
  obtain ⟨-, b2, b3, -, b5⟩ := HHQ.out.cell hd'
  obtain ⟨-, e2, e3, -, e5⟩ := HHQ.out.cell hs'
  obtain ⟨-, f2, f3, -, f5⟩ := HHQ.out.cell hc'
  obtain ⟨-, g2, g3, -, g5⟩ := HHQ.out.cell hx'
  have HL := Lib.hid (decide_any l n m p d s c base G1 G2 c1 c2 V HN.out HM.out HHQ.out hp hd hs hc HXD.out HXS.out HXC.out)
  go_wp2_with fail
  refine (HL.out).mono ?_
  rintro e w2 ⟨rfl, hm2, hb2⟩
  clear x0 x1 z1 z2 a1 a2 a3 a4 a5 a6 a7 b2 b3 b5 e2 e3 e5 f2 f3 f5 g2 g3 g5
  have HM2 := Lib.hid hm2
  have HB2 := Lib.hid hb2
  clear hm2 hb2
  go_wp2_with fail
  go_ret
  exact ⟨by rw [HE.out]; rfl, by rw [HE.out]; exact HM2.out, HKQ.out.trans HB2.out⟩
set_option maxRecDepth 100000 in
set_option maxHeartbeats 1600000 in
theorem act_5 (l : Ls) (n m p d s c x base G1 G2 c1 c2 : Nat) (n0 : 0 < n) (w : World) (hn : l.cs.length = n) (hm : l.ps.length = m) (h : MemL w base G1 G2 c1 c2 l) (hp : p < m) (hd : d < n) (hs : s < n) (hc : c < n) (hx : x < n) (m8 : m ≤ 8) (n66 : n ≤ 66) (hxd : (l.pr p).pred = (d : Int)) (hxs : (l.pr p).succ = (s : Int)) (hxc : (l.pr p).cell = (c : Int)) (hxx : (l.pr p).next = (x : Int)) (hph : (l.pr p).phase = 5) :
    Calls Tryd.prog 49 #[.agg #[.slice (some ⟨G1, 0, none⟩) n c1, .slice (some ⟨G2, 0, none⟩) m c2], .int .i64 (p : Int)] w (OptP (stepV l p) l base G1 G2 c1 c2 w) := by
  have HE := Lib.hid (step_5 hph)
  have HK : Hid (Chg G1 G2 w _) := Lib.hid (Chg.of ((Below.refl w.heap.size w).alloc (Nat.le_refl _) (.cells #[.slice (some ⟨G1, 0, none⟩) n c1, .slice (some ⟨G2, 0, none⟩) m c2] 35)))
  have HH := Lib.hid (h.below ((Below.refl _ _).alloc (Nat.le_refl _) (.cells #[.slice (some ⟨G1, 0, none⟩) n c1, .slice (some ⟨G2, 0, none⟩) m c2] 35)))
  have HX := Lib.hid (Has.new w 35 #[.slice (some ⟨G1, 0, none⟩) n c1, .slice (some ⟨G2, 0, none⟩) m c2])
  have hbn : G1 < w.heap.size ∧ G2 < w.heap.size := ⟨h.cs.lt, h.ps.lt⟩
  have hne : ¬ G1 = G2 := h.ne
  have hne' : ¬ G2 = G1 := fun e => h.ne e.symm
  have HN := Lib.hid hn
  have HM := Lib.hid hm
  have hp' : p < l.ps.length := by rw [hm]; exact hp
  have hd' : d < l.cs.length := by rw [hn]; exact hd
  have hs' : s < l.cs.length := by rw [hn]; exact hs
  have hc' : c < l.cs.length := by rw [hn]; exact hc
  have hx' : x < l.cs.length := by rw [hn]; exact hx
  have p0 : (0 : Int) ≤ (p : Int) := by omega
  have p1 : (p : Int) < (m : Int) := by omega
  have r0 : (0 : Int) ≤ (d : Int) := by omega
  have r1 : (d : Int) < (n : Int) := by omega
  have q0 : (0 : Int) ≤ (s : Int) := by omega
  have q1 : (s : Int) < (n : Int) := by omega
  have t0 : (0 : Int) ≤ (c : Int) := by omega
  have t1 : (c : Int) < (n : Int) := by omega
  have u0 : (0 : Int) ≤ (x : Int) := by omega
  have u1 : (x : Int) < (n : Int) := by omega
  have HXD := Lib.hid hxd
  have HXS := Lib.hid hxs
  have HXC := Lib.hid hxc
  have HXX := Lib.hid hxx
  have HPH := Lib.hid hph
  obtain ⟨O, hO⟩ : ∃ O, O = stepV l p := ⟨_, rfl⟩
  rw [← hO] at HE ⊢
  clear h hn hm hxd hxs hxc hxx hph hO
  go_enter Tryd.func49, Tryd.ntmps49
  go_upto_region 1 with fail
  generalize w.alloc (.cells #[.slice (some ⟨G1, 0, none⟩) n c1, .slice (some ⟨G2, 0, none⟩) m c2] 35) = W at *
  obtain ⟨B, hB⟩ : ∃ B, B = w.heap.size := ⟨_, rfl⟩
  rw [← hB] at HX hbn ⊢
  clear hB
  have x0 := HX.out.cell 0
  have x1 := HX.out.cell 1
  go_quiet (fail)
  have hqb := below_drw (Below.refl W.heap.size W) nq
  have HHQ := Lib.hid (HH.out.below hqb)
  have HKQ := Lib.hid (HK.out.add hqb)
  have HXQ := Lib.hid (HX.out.below hqb)
  clear x0 x1 hqb HH HK HX
  generalize W.drewN nq = V at *
  have x0 := HXQ.out.cell 0
  have x1 := HXQ.out.cell 1
  obtain ⟨z1, z2⟩ := HHQ.out.fz
  obtain ⟨a1, a2, a3, a4, a5, a6, a7⟩ := HHQ.out.proc hp'
  rw [HPH.out] at a3
  rw [HXD.out] at a4
  rw [HXS.out] at a5
  rw [HXX.out] at a6
  rw [HXC.out] at a2
  obtain ⟨-, b2, b3, -, b5⟩ := HHQ.out.cell hd'
  obtain ⟨-, e2, e3, -, e5⟩ := HHQ.out.cell hs'
  obtain ⟨-, f2, f3, -, f5⟩ := HHQ.out.cell hc'
  obtain ⟨-, g2, g3, -, g5⟩ := HHQ.out.cell hx'
  have HL := Lib.hid (unlock_any l n m p base G1 G2 c1 c2 V HN.out HM.out HHQ.out hp m8 n66)
  go_wp2_with fail
  refine (HL.out).mono ?_
  rintro e w2 ⟨rfl, hm2, hb2⟩
  clear x0 x1 z1 z2 a1 a2 a3 a4 a5 a6 a7 b2 b3 b5 e2 e3 e5 f2 f3 f5 g2 g3 g5
  have HM2 := Lib.hid hm2
  have HB2 := Lib.hid hb2
  have HX2 := Lib.hid (hb2.has HXQ.out (by omega) (by omega))
  have HL2 := Lib.hid (begin_any (l.free p) n m p base G1 G2 c1 c2 w2 (by rw [Ls.len_free]; exact HN.out) HM.out hm2 hp n0)
  clear hm2 hb2 HL
  have x0 := HX2.out.cell 0
  have x1 := HX2.out.cell 1
  go_wp2_with fail
  refine (HL2.out).mono ?_
  rintro e w3 ⟨rfl, hm3, hb3⟩
  have HM3 := Lib.hid hm3
  have HB3 := Lib.hid hb3
  clear hm3 hb3 x0 x1
  go_wp2_with fail
  go_ret
  refine ⟨by rw [HE.out]; rfl, ?_, (HKQ.out.trans HB2.out).trans HB3.out⟩
  rw [HE.out]
  have := HM3.out
  rw [free_at0] at this
  exact this
set_option maxRecDepth 100000 in
set_option maxHeartbeats 3200000 in
theorem act_6 (l : Ls) (n m p d s c x base G1 G2 c1 c2 : Nat) (w : World) (hn : l.cs.length = n) (hm : l.ps.length = m) (h : MemL w base G1 G2 c1 c2 l) (hp : p < m) (hd : d < n) (hs : s < n) (hc : c < n) (hx : x < n) (_m8 : m ≤ 8) (_n66 : n ≤ 66) (hxd : (l.pr p).pred = (d : Int)) (hxs : (l.pr p).succ = (s : Int)) (hxc : (l.pr p).cell = (c : Int)) (hxx : (l.pr p).next = (x : Int)) (hph : (l.pr p).phase = 6) :
    Calls Tryd.prog 49 #[.agg #[.slice (some ⟨G1, 0, none⟩) n c1, .slice (some ⟨G2, 0, none⟩) m c2], .int .i64 (p : Int)] w (OptP (stepV l p) l base G1 G2 c1 c2 w) := by
  have HE := Lib.hid (step_6 hph hxd hxs hxc)
  have HK : Hid (Chg G1 G2 w _) := Lib.hid (Chg.of ((Below.refl w.heap.size w).alloc (Nat.le_refl _) (.cells #[.slice (some ⟨G1, 0, none⟩) n c1, .slice (some ⟨G2, 0, none⟩) m c2] 35)))
  have HH := Lib.hid (h.below ((Below.refl _ _).alloc (Nat.le_refl _) (.cells #[.slice (some ⟨G1, 0, none⟩) n c1, .slice (some ⟨G2, 0, none⟩) m c2] 35)))
  have HX := Lib.hid (Has.new w 35 #[.slice (some ⟨G1, 0, none⟩) n c1, .slice (some ⟨G2, 0, none⟩) m c2])
  have hbn : G1 < w.heap.size ∧ G2 < w.heap.size := ⟨h.cs.lt, h.ps.lt⟩
  have hne : ¬ G1 = G2 := h.ne
  have hne' : ¬ G2 = G1 := fun e => h.ne e.symm
  have HN := Lib.hid hn
  have HM := Lib.hid hm
  have hp' : p < l.ps.length := by rw [hm]; exact hp
  have hd' : d < l.cs.length := by rw [hn]; exact hd
  have hs' : s < l.cs.length := by rw [hn]; exact hs
  have hc' : c < l.cs.length := by rw [hn]; exact hc
  have hx' : x < l.cs.length := by rw [hn]; exact hx
  have p0 : (0 : Int) ≤ (p : Int) := by omega
  have p1 : (p : Int) < (m : Int) := by omega
  have r0 : (0 : Int) ≤ (d : Int) := by omega
  have r1 : (d : Int) < (n : Int) := by omega
  have q0 : (0 : Int) ≤ (s : Int) := by omega
  have q1 : (s : Int) < (n : Int) := by omega
  have t0 : (0 : Int) ≤ (c : Int) := by omega
  have t1 : (c : Int) < (n : Int) := by omega
  have u0 : (0 : Int) ≤ (x : Int) := by omega
  have u1 : (x : Int) < (n : Int) := by omega
  have HXD := Lib.hid hxd
  have HXS := Lib.hid hxs
  have HXC := Lib.hid hxc
  have HXX := Lib.hid hxx
  have HPH := Lib.hid hph
  obtain ⟨O, hO⟩ : ∃ O, O = stepV l p := ⟨_, rfl⟩
  rw [← hO] at HE ⊢
  clear h hn hm hxd hxs hxc hxx hph hO
  go_enter Tryd.func49, Tryd.ntmps49
  go_upto_region 1 with fail
  generalize w.alloc (.cells #[.slice (some ⟨G1, 0, none⟩) n c1, .slice (some ⟨G2, 0, none⟩) m c2] 35) = W at *
  obtain ⟨B, hB⟩ : ∃ B, B = w.heap.size := ⟨_, rfl⟩
  rw [← hB] at HX hbn ⊢
  clear hB
  have x0 := HX.out.cell 0
  have x1 := HX.out.cell 1
  go_quiet (fail)
  have hqb := below_drw (Below.refl W.heap.size W) nq
  have HHQ := Lib.hid (HH.out.below hqb)
  have HKQ := Lib.hid (HK.out.add hqb)
  have HXQ := Lib.hid (HX.out.below hqb)
  clear x0 x1 hqb HH HK HX
  generalize W.drewN nq = V at *
  have x0 := HXQ.out.cell 0
  have x1 := HXQ.out.cell 1
  obtain ⟨z1, z2⟩ := HHQ.out.fz
  obtain ⟨a1, a2, a3, a4, a5, a6, a7⟩ := HHQ.out.proc hp'
  rw [HPH.out] at a3
  rw [HXD.out] at a4
  rw [HXS.out] at a5
  rw [HXX.out] at a6
  rw [HXC.out] at a2
  obtain ⟨-, b2, b3, -, b5⟩ := HHQ.out.cell hd'
  obtain ⟨-, e2, e3, -, e5⟩ := HHQ.out.cell hs'
  obtain ⟨-, f2, f3, -, f5⟩ := HHQ.out.cell hc'
  obtain ⟨-, g2, g3, -, g5⟩ := HHQ.out.cell hx'
  go_upto_region 16 with fail
  go_region
  clear x0 x1 z1 z2 a1 a2 a3 a4 a5 a6 a7 b2 b3 b5 e2 e3 e5 f2 f3 f5 g2 g3 g5
  have HHR := Lib.hid (MemL.drew (((HHQ.out.initC hc').upC hc' 1 (by decide) (.int .i64 (d : Int)) { l.at_ c with left := (d : Int) } rfl).upC hc' 2 (by decide) (.int .i64 (s : Int)) { l.at_ c with left := (d : Int), right := (s : Int) } rfl))
  have HKR := Lib.hid (Chg.drew ((HKQ.out.set1 (c * 5 + 1) (.int .i64 (d : Int))).set1 (c * 5 + 2) (.int .i64 (s : Int))))
  generalize World.drew _ = V2 at *
  obtain ⟨z1, z2⟩ := HHR.out.fz
  obtain ⟨a1, a2, a3, a4, a5, a6, a7⟩ := HHR.out.proc hp'
  go_wp2_with fail
  clear z1 z2 a1 a2 a3 a4 a5 a6 a7
  go_ret
  refine ⟨by rw [HE.out]; rfl, ?_, HKR.out.set2 _ _⟩
  rw [HE.out]
  exact HHR.out.setP hp' 2 (by decide) (.int .i64 7) { l.pr p with phase := 7 } rfl
set_option maxRecDepth 100000 in
set_option maxHeartbeats 3200000 in
theorem act_7 (l : Ls) (n m p d s c x base G1 G2 c1 c2 : Nat) (w : World) (hn : l.cs.length = n) (hm : l.ps.length = m) (h : MemL w base G1 G2 c1 c2 l) (hp : p < m) (hd : d < n) (hs : s < n) (hc : c < n) (hx : x < n) (_m8 : m ≤ 8) (_n66 : n ≤ 66) (hxd : (l.pr p).pred = (d : Int)) (hxs : (l.pr p).succ = (s : Int)) (hxc : (l.pr p).cell = (c : Int)) (hxx : (l.pr p).next = (x : Int)) (hph : (l.pr p).phase = 7) :
    Calls Tryd.prog 49 #[.agg #[.slice (some ⟨G1, 0, none⟩) n c1, .slice (some ⟨G2, 0, none⟩) m c2], .int .i64 (p : Int)] w (OptP (stepV l p) l base G1 G2 c1 c2 w) := by
  have HE := Lib.hid (step_7 hph hxd hxc)
  have HK : Hid (Chg G1 G2 w _) := Lib.hid (Chg.of ((Below.refl w.heap.size w).alloc (Nat.le_refl _) (.cells #[.slice (some ⟨G1, 0, none⟩) n c1, .slice (some ⟨G2, 0, none⟩) m c2] 35)))
  have HH := Lib.hid (h.below ((Below.refl _ _).alloc (Nat.le_refl _) (.cells #[.slice (some ⟨G1, 0, none⟩) n c1, .slice (some ⟨G2, 0, none⟩) m c2] 35)))
  have HX := Lib.hid (Has.new w 35 #[.slice (some ⟨G1, 0, none⟩) n c1, .slice (some ⟨G2, 0, none⟩) m c2])
  have hbn : G1 < w.heap.size ∧ G2 < w.heap.size := ⟨h.cs.lt, h.ps.lt⟩
  have hne : ¬ G1 = G2 := h.ne
  have hne' : ¬ G2 = G1 := fun e => h.ne e.symm
  have HN := Lib.hid hn
  have HM := Lib.hid hm
  have hp' : p < l.ps.length := by rw [hm]; exact hp
  have hd' : d < l.cs.length := by rw [hn]; exact hd
  have hs' : s < l.cs.length := by rw [hn]; exact hs
  have hc' : c < l.cs.length := by rw [hn]; exact hc
  have hx' : x < l.cs.length := by rw [hn]; exact hx
  have p0 : (0 : Int) ≤ (p : Int) := by omega
  have p1 : (p : Int) < (m : Int) := by omega
  have r0 : (0 : Int) ≤ (d : Int) := by omega
  have r1 : (d : Int) < (n : Int) := by omega
  have q0 : (0 : Int) ≤ (s : Int) := by omega
  have q1 : (s : Int) < (n : Int) := by omega
  have t0 : (0 : Int) ≤ (c : Int) := by omega
  have t1 : (c : Int) < (n : Int) := by omega
  have u0 : (0 : Int) ≤ (x : Int) := by omega
  have u1 : (x : Int) < (n : Int) := by omega
  have HXD := Lib.hid hxd
  have HXS := Lib.hid hxs
  have HXC := Lib.hid hxc
  have HXX := Lib.hid hxx
  have HPH := Lib.hid hph
  obtain ⟨O, hO⟩ : ∃ O, O = stepV l p := ⟨_, rfl⟩
  rw [← hO] at HE ⊢
  clear h hn hm hxd hxs hxc hxx hph hO
  go_enter Tryd.func49, Tryd.ntmps49
  go_upto_region 1 with fail
  generalize w.alloc (.cells #[.slice (some ⟨G1, 0, none⟩) n c1, .slice (some ⟨G2, 0, none⟩) m c2] 35) = W at *
  obtain ⟨B, hB⟩ : ∃ B, B = w.heap.size := ⟨_, rfl⟩
  rw [← hB] at HX hbn ⊢
  clear hB
  have x0 := HX.out.cell 0
  have x1 := HX.out.cell 1
  go_quiet (fail)
  have hqb := below_drw (Below.refl W.heap.size W) nq
  have HHQ := Lib.hid (HH.out.below hqb)
  have HKQ := Lib.hid (HK.out.add hqb)
  have HXQ := Lib.hid (HX.out.below hqb)
  clear x0 x1 hqb HH HK HX
  generalize W.drewN nq = V at *
  have x0 := HXQ.out.cell 0
  have x1 := HXQ.out.cell 1
  obtain ⟨z1, z2⟩ := HHQ.out.fz
  obtain ⟨a1, a2, a3, a4, a5, a6, a7⟩ := HHQ.out.proc hp'
  rw [HPH.out] at a3
  rw [HXD.out] at a4
  rw [HXS.out] at a5
  rw [HXX.out] at a6
  rw [HXC.out] at a2
  obtain ⟨-, b2, b3, -, b5⟩ := HHQ.out.cell hd'
  obtain ⟨-, e2, e3, -, e5⟩ := HHQ.out.cell hs'
  obtain ⟨-, f2, f3, -, f5⟩ := HHQ.out.cell hc'
  obtain ⟨-, g2, g3, -, g5⟩ := HHQ.out.cell hx'
  go_upto_region 19 with fail
  go_region
  clear x0 x1 z1 z2 a1 a2 a3 a4 a5 a6 a7 b2 b3 b5 e2 e3 e5 f2 f3 f5 g2 g3 g5
  have HHR := Lib.hid (MemL.drew ((HHQ.out.initC hd').upC hd' 2 (by decide) (.int .i64 (c : Int)) { l.at_ d with right := (c : Int) } rfl))
  have HKR := Lib.hid (Chg.drew (HKQ.out.set1 (d * 5 + 2) (.int .i64 (c : Int))))
  generalize World.drew _ = V2 at *
  obtain ⟨z1, z2⟩ := HHR.out.fz
  obtain ⟨a1, a2, a3, a4, a5, a6, a7⟩ := HHR.out.proc hp'
  rw [show (Ls.pr (l.setC d { l.at_ d with right := (c : Int) }) p).cell = (c : Int) from HXC.out] at a2
  have hc2 : c < ((l.setC d { l.at_ d with right := (c : Int) })).cs.length := by rw [Ls.len_setC]; exact hc'
  obtain ⟨-, -, -, -, f5⟩ := HHR.out.cell hc2
  go_wp2_with fail
  clear z1 z2 a1 a2 a3 a4 a5 a6 a7 f5
  go_ret
  refine ⟨by rw [HE.out]; rfl, ?_, (HKR.out.set1 _ _).set2 _ _⟩
  rw [HE.out]
  exact (HHR.out.setC hc2 4 (by decide) (.bool false) { ((l.setC d { l.at_ d with right := (c : Int) })).at_ c with gone := false } rfl).setP hp' 2 (by decide) (.int .i64 8) { l.pr p with phase := 8 } rfl
set_option maxRecDepth 100000 in
set_option maxHeartbeats 3200000 in
theorem act_8 (l : Ls) (n m p d s c x base G1 G2 c1 c2 : Nat) (w : World) (hn : l.cs.length = n) (hm : l.ps.length = m) (h : MemL w base G1 G2 c1 c2 l) (hp : p < m) (hd : d < n) (hs : s < n) (hc : c < n) (hx : x < n) (_m8 : m ≤ 8) (_n66 : n ≤ 66) (hxd : (l.pr p).pred = (d : Int)) (hxs : (l.pr p).succ = (s : Int)) (hxc : (l.pr p).cell = (c : Int)) (hxx : (l.pr p).next = (x : Int)) (hph : (l.pr p).phase = 8) :
    Calls Tryd.prog 49 #[.agg #[.slice (some ⟨G1, 0, none⟩) n c1, .slice (some ⟨G2, 0, none⟩) m c2], .int .i64 (p : Int)] w (OptP (stepV l p) l base G1 G2 c1 c2 w) := by
  have HE := Lib.hid (step_8 hph hxs hxc)
  have HK : Hid (Chg G1 G2 w _) := Lib.hid (Chg.of ((Below.refl w.heap.size w).alloc (Nat.le_refl _) (.cells #[.slice (some ⟨G1, 0, none⟩) n c1, .slice (some ⟨G2, 0, none⟩) m c2] 35)))
  have HH := Lib.hid (h.below ((Below.refl _ _).alloc (Nat.le_refl _) (.cells #[.slice (some ⟨G1, 0, none⟩) n c1, .slice (some ⟨G2, 0, none⟩) m c2] 35)))
  have HX := Lib.hid (Has.new w 35 #[.slice (some ⟨G1, 0, none⟩) n c1, .slice (some ⟨G2, 0, none⟩) m c2])
  have hbn : G1 < w.heap.size ∧ G2 < w.heap.size := ⟨h.cs.lt, h.ps.lt⟩
  have hne : ¬ G1 = G2 := h.ne
  have hne' : ¬ G2 = G1 := fun e => h.ne e.symm
  have HN := Lib.hid hn
  have HM := Lib.hid hm
  have hp' : p < l.ps.length := by rw [hm]; exact hp
  have hd' : d < l.cs.length := by rw [hn]; exact hd
  have hs' : s < l.cs.length := by rw [hn]; exact hs
  have hc' : c < l.cs.length := by rw [hn]; exact hc
  have hx' : x < l.cs.length := by rw [hn]; exact hx
  have p0 : (0 : Int) ≤ (p : Int) := by omega
  have p1 : (p : Int) < (m : Int) := by omega
  have r0 : (0 : Int) ≤ (d : Int) := by omega
  have r1 : (d : Int) < (n : Int) := by omega
  have q0 : (0 : Int) ≤ (s : Int) := by omega
  have q1 : (s : Int) < (n : Int) := by omega
  have t0 : (0 : Int) ≤ (c : Int) := by omega
  have t1 : (c : Int) < (n : Int) := by omega
  have u0 : (0 : Int) ≤ (x : Int) := by omega
  have u1 : (x : Int) < (n : Int) := by omega
  have HXD := Lib.hid hxd
  have HXS := Lib.hid hxs
  have HXC := Lib.hid hxc
  have HXX := Lib.hid hxx
  have HPH := Lib.hid hph
  obtain ⟨O, hO⟩ : ∃ O, O = stepV l p := ⟨_, rfl⟩
  rw [← hO] at HE ⊢
  clear h hn hm hxd hxs hxc hxx hph hO
  go_enter Tryd.func49, Tryd.ntmps49
  go_upto_region 1 with fail
  generalize w.alloc (.cells #[.slice (some ⟨G1, 0, none⟩) n c1, .slice (some ⟨G2, 0, none⟩) m c2] 35) = W at *
  obtain ⟨B, hB⟩ : ∃ B, B = w.heap.size := ⟨_, rfl⟩
  rw [← hB] at HX hbn ⊢
  clear hB
  have x0 := HX.out.cell 0
  have x1 := HX.out.cell 1
  go_quiet (fail)
  have hqb := below_drw (Below.refl W.heap.size W) nq
  have HHQ := Lib.hid (HH.out.below hqb)
  have HKQ := Lib.hid (HK.out.add hqb)
  have HXQ := Lib.hid (HX.out.below hqb)
  clear x0 x1 hqb HH HK HX
  generalize W.drewN nq = V at *
  have x0 := HXQ.out.cell 0
  have x1 := HXQ.out.cell 1
  obtain ⟨z1, z2⟩ := HHQ.out.fz
  obtain ⟨a1, a2, a3, a4, a5, a6, a7⟩ := HHQ.out.proc hp'
  rw [HPH.out] at a3
  rw [HXD.out] at a4
  rw [HXS.out] at a5
  rw [HXX.out] at a6
  rw [HXC.out] at a2
  obtain ⟨-, b2, b3, -, b5⟩ := HHQ.out.cell hd'
  obtain ⟨-, e2, e3, -, e5⟩ := HHQ.out.cell hs'
  obtain ⟨-, f2, f3, -, f5⟩ := HHQ.out.cell hc'
  obtain ⟨-, g2, g3, -, g5⟩ := HHQ.out.cell hx'
  go_upto_region 23 with fail
  go_region
  clear x0 x1 z1 z2 a1 a2 a3 a4 a5 a6 a7 b2 b3 b5 e2 e3 e5 f2 f3 f5 g2 g3 g5
  have HHR := Lib.hid (MemL.drew ((HHQ.out.initC hs').upC hs' 1 (by decide) (.int .i64 (c : Int)) { l.at_ s with left := (c : Int) } rfl))
  have HKR := Lib.hid (Chg.drew (HKQ.out.set1 (s * 5 + 1) (.int .i64 (c : Int))))
  generalize World.drew _ = V2 at *
  obtain ⟨z1, z2⟩ := HHR.out.fz
  obtain ⟨a1, a2, a3, a4, a5, a6, a7⟩ := HHR.out.proc hp'
  go_wp2_with fail
  clear z1 z2 a1 a2 a3 a4 a5 a6 a7
  go_ret
  refine ⟨by rw [HE.out]; rfl, ?_, (HKR.out.set2 _ _).set2 _ _⟩
  rw [HE.out]
  exact MemL.up (HHR.out.setP hp' 6 (by decide) (.bool true) { l.pr p with res := true } rfl) hp' 2 (by decide) (.int .i64 13) { l.pr p with res := true, phase := 13 } rfl
set_option maxRecDepth 100000 in
set_option maxHeartbeats 1600000 in
theorem act_9 (l : Ls) (n m p d s c x base G1 G2 c1 c2 : Nat) (r : Nat) (hr : r < n) (hcr : (l.at_ c).right = (r : Int)) (w : World) (hn : l.cs.length = n) (hm : l.ps.length = m) (h : MemL w base G1 G2 c1 c2 l) (hp : p < m) (hd : d < n) (hs : s < n) (hc : c < n) (hx : x < n) (m8 : m ≤ 8) (_n66 : n ≤ 66) (hxd : (l.pr p).pred = (d : Int)) (hxs : (l.pr p).succ = (s : Int)) (hxc : (l.pr p).cell = (c : Int)) (hxx : (l.pr p).next = (x : Int)) (hph : (l.pr p).phase = 9) :
    Calls Tryd.prog 49 #[.agg #[.slice (some ⟨G1, 0, none⟩) n c1, .slice (some ⟨G2, 0, none⟩) m c2], .int .i64 (p : Int)] w (OptP (stepV l p) l base G1 G2 c1 c2 w) := by
  have HE := Lib.hid (step_9 hph hxc hcr)
  have HK : Hid (Chg G1 G2 w _) := Lib.hid (Chg.of ((Below.refl w.heap.size w).alloc (Nat.le_refl _) (.cells #[.slice (some ⟨G1, 0, none⟩) n c1, .slice (some ⟨G2, 0, none⟩) m c2] 35)))
  have HH := Lib.hid (h.below ((Below.refl _ _).alloc (Nat.le_refl _) (.cells #[.slice (some ⟨G1, 0, none⟩) n c1, .slice (some ⟨G2, 0, none⟩) m c2] 35)))
  have HX := Lib.hid (Has.new w 35 #[.slice (some ⟨G1, 0, none⟩) n c1, .slice (some ⟨G2, 0, none⟩) m c2])
  have hbn : G1 < w.heap.size ∧ G2 < w.heap.size := ⟨h.cs.lt, h.ps.lt⟩
  have hne : ¬ G1 = G2 := h.ne
  have hne' : ¬ G2 = G1 := fun e => h.ne e.symm
  have HN := Lib.hid hn
  have HM := Lib.hid hm
  have hp' : p < l.ps.length := by rw [hm]; exact hp
  have hd' : d < l.cs.length := by rw [hn]; exact hd
  have hs' : s < l.cs.length := by rw [hn]; exact hs
  have hc' : c < l.cs.length := by rw [hn]; exact hc
  have hx' : x < l.cs.length := by rw [hn]; exact hx
  have p0 : (0 : Int) ≤ (p : Int) := by omega
  have p1 : (p : Int) < (m : Int) := by omega
  have r0 : (0 : Int) ≤ (d : Int) := by omega
  have r1 : (d : Int) < (n : Int) := by omega
  have q0 : (0 : Int) ≤ (s : Int) := by omega
  have q1 : (s : Int) < (n : Int) := by omega
  have t0 : (0 : Int) ≤ (c : Int) := by omega
  have t1 : (c : Int) < (n : Int) := by omega
  have u0 : (0 : Int) ≤ (x : Int) := by omega
  have u1 : (x : Int) < (n : Int) := by omega
  have HXD := Lib.hid hxd
  have HXS := Lib.hid hxs
  have HXC := Lib.hid hxc
  have HXX := Lib.hid hxx
  have HPH := Lib.hid hph
  obtain ⟨O, hO⟩ : ∃ O, O = stepV l p := ⟨_, rfl⟩
  rw [← hO] at HE ⊢
  clear h hn hm hxd hxs hxc hxx hph hO
  go_enter Tryd.func49, Tryd.ntmps49
  go_upto_region 1 with fail
  generalize w.alloc (.cells #[.slice (some ⟨G1, 0, none⟩) n c1, .slice (some ⟨G2, 0, none⟩) m c2] 35) = W at *
  obtain ⟨B, hB⟩ : ∃ B, B = w.heap.size := ⟨_, rfl⟩
  rw [← hB] at HX hbn ⊢
  clear hB
  have x0 := HX.out.cell 0
  have x1 := HX.out.cell 1
  go_quiet (fail)
  have hqb := below_drw (Below.refl W.heap.size W) nq
  have HHQ := Lib.hid (HH.out.below hqb)
  have HKQ := Lib.hid (HK.out.add hqb)
  have HXQ := Lib.hid (HX.out.below hqb)
  clear x0 x1 hqb HH HK HX
  generalize W.drewN nq = V at *
  have x0 := HXQ.out.cell 0
  have x1 := HXQ.out.cell 1
  obtain ⟨z1, z2⟩ := HHQ.out.fz
  obtain ⟨a1, a2, a3, a4, a5, a6, a7⟩ := HHQ.out.proc hp'
  rw [HPH.out] at a3
  rw [HXD.out] at a4
  rw [HXS.out] at a5
  rw [HXX.out] at a6
  rw [HXC.out] at a2
  obtain ⟨-, b2, b3, -, b5⟩ := HHQ.out.cell hd'
  obtain ⟨-, e2, e3, -, e5⟩ := HHQ.out.cell hs'
  obtain ⟨-, f2, f3, -, f5⟩ := HHQ.out.cell hc'
  obtain ⟨-, g2, g3, -, g5⟩ := HHQ.out.cell hx'
  have HL := Lib.hid (lockNext_any l n m p c r base G1 G2 c1 c2 V HN.out HM.out HHQ.out hp hc hr m8 HXC.out hcr)
  go_wp2_with fail
  refine (HL.out).mono ?_
  rintro e w2 ⟨rfl, hm2, hb2⟩
  clear x0 x1 z1 z2 a1 a2 a3 a4 a5 a6 a7 b2 b3 b5 e2 e3 e5 f2 f3 f5 g2 g3 g5
  have HM2 := Lib.hid hm2
  have HB2 := Lib.hid hb2
  clear hm2 hb2
  go_wp2_with fail
  go_ret
  exact ⟨by rw [HE.out]; rfl, by rw [HE.out]; exact HM2.out, HKQ.out.trans HB2.out⟩
set_option maxRecDepth 100000 in
set_option maxHeartbeats 1600000 in
theorem act_10 (l : Ls) (n m p d s c x base G1 G2 c1 c2 : Nat) (w : World) (hn : l.cs.length = n) (hm : l.ps.length = m) (h : MemL w base G1 G2 c1 c2 l) (hp : p < m) (hd : d < n) (hs : s < n) (hc : c < n) (hx : x < n) (_m8 : m ≤ 8) (_n66 : n ≤ 66) (hxd : (l.pr p).pred = (d : Int)) (hxs : (l.pr p).succ = (s : Int)) (hxc : (l.pr p).cell = (c : Int)) (hxx : (l.pr p).next = (x : Int)) (hph : (l.pr p).phase = 10) :
    Calls Tryd.prog 49 #[.agg #[.slice (some ⟨G1, 0, none⟩) n c1, .slice (some ⟨G2, 0, none⟩) m c2], .int .i64 (p : Int)] w (OptP (stepV l p) l base G1 G2 c1 c2 w) := by
  have HE := Lib.hid (step_10 hph hxc)
  have HK : Hid (Chg G1 G2 w _) := Lib.hid (Chg.of ((Below.refl w.heap.size w).alloc (Nat.le_refl _) (.cells #[.slice (some ⟨G1, 0, none⟩) n c1, .slice (some ⟨G2, 0, none⟩) m c2] 35)))
  have HH := Lib.hid (h.below ((Below.refl _ _).alloc (Nat.le_refl _) (.cells #[.slice (some ⟨G1, 0, none⟩) n c1, .slice (some ⟨G2, 0, none⟩) m c2] 35)))
  have HX := Lib.hid (Has.new w 35 #[.slice (some ⟨G1, 0, none⟩) n c1, .slice (some ⟨G2, 0, none⟩) m c2])
  have hbn : G1 < w.heap.size ∧ G2 < w.heap.size := ⟨h.cs.lt, h.ps.lt⟩
  have hne : ¬ G1 = G2 := h.ne
  have hne' : ¬ G2 = G1 := fun e => h.ne e.symm
  have HN := Lib.hid hn
  have HM := Lib.hid hm
  have hp' : p < l.ps.length := by rw [hm]; exact hp
  have hd' : d < l.cs.length := by rw [hn]; exact hd
  have hs' : s < l.cs.length := by rw [hn]; exact hs
  have hc' : c < l.cs.length := by rw [hn]; exact hc
  have hx' : x < l.cs.length := by rw [hn]; exact hx
  have p0 : (0 : Int) ≤ (p : Int) := by omega
  have p1 : (p : Int) < (m : Int) := by omega
  have r0 : (0 : Int) ≤ (d : Int) := by omega
  have r1 : (d : Int) < (n : Int) := by omega
  have q0 : (0 : Int) ≤ (s : Int) := by omega
  have q1 : (s : Int) < (n : Int) := by omega
  have t0 : (0 : Int) ≤ (c : Int) := by omega
  have t1 : (c : Int) < (n : Int) := by omega
  have u0 : (0 : Int) ≤ (x : Int) := by omega
  have u1 : (x : Int) < (n : Int) := by omega
  have HXD := Lib.hid hxd
  have HXS := Lib.hid hxs
  have HXC := Lib.hid hxc
  have HXX := Lib.hid hxx
  have HPH := Lib.hid hph
  obtain ⟨O, hO⟩ : ∃ O, O = stepV l p := ⟨_, rfl⟩
  rw [← hO] at HE ⊢
  clear h hn hm hxd hxs hxc hxx hph hO
  go_enter Tryd.func49, Tryd.ntmps49
  go_upto_region 1 with fail
  generalize w.alloc (.cells #[.slice (some ⟨G1, 0, none⟩) n c1, .slice (some ⟨G2, 0, none⟩) m c2] 35) = W at *
  obtain ⟨B, hB⟩ : ∃ B, B = w.heap.size := ⟨_, rfl⟩
  rw [← hB] at HX hbn ⊢
  clear hB
  have x0 := HX.out.cell 0
  have x1 := HX.out.cell 1
  go_quiet (fail)
  have hqb := below_drw (Below.refl W.heap.size W) nq
  have HHQ := Lib.hid (HH.out.below hqb)
  have HKQ := Lib.hid (HK.out.add hqb)
  have HXQ := Lib.hid (HX.out.below hqb)
  clear x0 x1 hqb HH HK HX
  generalize W.drewN nq = V at *
  have x0 := HXQ.out.cell 0
  have x1 := HXQ.out.cell 1
  obtain ⟨z1, z2⟩ := HHQ.out.fz
  obtain ⟨a1, a2, a3, a4, a5, a6, a7⟩ := HHQ.out.proc hp'
  rw [HPH.out] at a3
  rw [HXD.out] at a4
  rw [HXS.out] at a5
  rw [HXX.out] at a6
  rw [HXC.out] at a2
  obtain ⟨-, b2, b3, -, b5⟩ := HHQ.out.cell hd'
  obtain ⟨-, e2, e3, -, e5⟩ := HHQ.out.cell hs'
  obtain ⟨-, f2, f3, -, f5⟩ := HHQ.out.cell hc'
  obtain ⟨-, g2, g3, -, g5⟩ := HHQ.out.cell hx'
  go_wp2_with fail
  clear x0 x1 z1 z2 a1 a2 a3 a4 a5 a6 a7 b2 b3 b5 e2 e3 e5 f2 f3 f5 g2 g3 g5
  go_ret
  refine ⟨by rw [HE.out]; rfl, ?_, (HKQ.out.set1 _ _).set2 _ _⟩
  rw [HE.out]
  exact ((HHQ.out.initC hc').upC hc' 4 (by decide) (.bool true) { l.at_ c with gone := true } rfl).setP hp' 2 (by decide) (.int .i64 11) { l.pr p with phase := 11 } rfl
set_option maxRecDepth 100000 in
set_option maxHeartbeats 3200000 in
theorem act_11 (l : Ls) (n m p d s c x base G1 G2 c1 c2 : Nat) (w : World) (hn : l.cs.length = n) (hm : l.ps.length = m) (h : MemL w base G1 G2 c1 c2 l) (hp : p < m) (hd : d < n) (hs : s < n) (hc : c < n) (hx : x < n) (_m8 : m ≤ 8) (_n66 : n ≤ 66) (hxd : (l.pr p).pred = (d : Int)) (hxs : (l.pr p).succ = (s : Int)) (hxc : (l.pr p).cell = (c : Int)) (hxx : (l.pr p).next = (x : Int)) (hph : (l.pr p).phase = 11) :
    Calls Tryd.prog 49 #[.agg #[.slice (some ⟨G1, 0, none⟩) n c1, .slice (some ⟨G2, 0, none⟩) m c2], .int .i64 (p : Int)] w (OptP (stepV l p) l base G1 G2 c1 c2 w) := by
  have HE := Lib.hid (step_11 hph hxd hxx)
  have HK : Hid (Chg G1 G2 w _) := Lib.hid (Chg.of ((Below.refl w.heap.size w).alloc (Nat.le_refl _) (.cells #[.slice (some ⟨G1, 0, none⟩) n c1, .slice (some ⟨G2, 0, none⟩) m c2] 35)))
  have HH := Lib.hid (h.below ((Below.refl _ _).alloc (Nat.le_refl _) (.cells #[.slice (some ⟨G1, 0, none⟩) n c1, .slice (some ⟨G2, 0, none⟩) m c2] 35)))
  have HX := Lib.hid (Has.new w 35 #[.slice (some ⟨G1, 0, none⟩) n c1, .slice (some ⟨G2, 0, none⟩) m c2])
  have hbn : G1 < w.heap.size ∧ G2 < w.heap.size := ⟨h.cs.lt, h.ps.lt⟩
  have hne : ¬ G1 = G2 := h.ne
  have hne' : ¬ G2 = G1 := fun e => h.ne e.symm
  have HN := Lib.hid hn
  have HM := Lib.hid hm
  have hp' : p < l.ps.length := by rw [hm]; exact hp
  have hd' : d < l.cs.length := by rw [hn]; exact hd
  have hs' : s < l.cs.length := by rw [hn]; exact hs
  have hc' : c < l.cs.length := by rw [hn]; exact hc
  have hx' : x < l.cs.length := by rw [hn]; exact hx
  have p0 : (0 : Int) ≤ (p : Int) := by omega
  have p1 : (p : Int) < (m : Int) := by omega
  have r0 : (0 : Int) ≤ (d : Int) := by omega
  have r1 : (d : Int) < (n : Int) := by omega
  have q0 : (0 : Int) ≤ (s : Int) := by omega
  have q1 : (s : Int) < (n : Int) := by omega
  have t0 : (0 : Int) ≤ (c : Int) := by omega
  have t1 : (c : Int) < (n : Int) := by omega
  have u0 : (0 : Int) ≤ (x : Int) := by omega
  have u1 : (x : Int) < (n : Int) := by omega
  have HXD := Lib.hid hxd
  have HXS := Lib.hid hxs
  have HXC := Lib.hid hxc
  have HXX := Lib.hid hxx
  have HPH := Lib.hid hph
  obtain ⟨O, hO⟩ : ∃ O, O = stepV l p := ⟨_, rfl⟩
  rw [← hO] at HE ⊢
  clear h hn hm hxd hxs hxc hxx hph hO
  go_enter Tryd.func49, Tryd.ntmps49
  go_upto_region 1 with fail
  generalize w.alloc (.cells #[.slice (some ⟨G1, 0, none⟩) n c1, .slice (some ⟨G2, 0, none⟩) m c2] 35) = W at *
  obtain ⟨B, hB⟩ : ∃ B, B = w.heap.size := ⟨_, rfl⟩
  rw [← hB] at HX hbn ⊢
  clear hB
  have x0 := HX.out.cell 0
  have x1 := HX.out.cell 1
  go_quiet (fail)
  have hqb := below_drw (Below.refl W.heap.size W) nq
  have HHQ := Lib.hid (HH.out.below hqb)
  have HKQ := Lib.hid (HK.out.add hqb)
  have HXQ := Lib.hid (HX.out.below hqb)
  clear x0 x1 hqb HH HK HX
  generalize W.drewN nq = V at *
  have x0 := HXQ.out.cell 0
  have x1 := HXQ.out.cell 1
  obtain ⟨z1, z2⟩ := HHQ.out.fz
  obtain ⟨a1, a2, a3, a4, a5, a6, a7⟩ := HHQ.out.proc hp'
  rw [HPH.out] at a3
  rw [HXD.out] at a4
  rw [HXS.out] at a5
  rw [HXX.out] at a6
  rw [HXC.out] at a2
  obtain ⟨-, b2, b3, -, b5⟩ := HHQ.out.cell hd'
  obtain ⟨-, e2, e3, -, e5⟩ := HHQ.out.cell hs'
  obtain ⟨-, f2, f3, -, f5⟩ := HHQ.out.cell hc'
  obtain ⟨-, g2, g3, -, g5⟩ := HHQ.out.cell hx'
  go_upto_region 31 with fail
  go_region
  clear x0 x1 z1 z2 a1 a2 a3 a4 a5 a6 a7 b2 b3 b5 e2 e3 e5 f2 f3 f5 g2 g3 g5
  have HHR := Lib.hid (MemL.drew ((HHQ.out.initC hd').upC hd' 2 (by decide) (.int .i64 (x : Int)) { l.at_ d with right := (x : Int) } rfl))
  have HKR := Lib.hid (Chg.drew (HKQ.out.set1 (d * 5 + 2) (.int .i64 (x : Int))))
  generalize World.drew _ = V2 at *
  obtain ⟨z1, z2⟩ := HHR.out.fz
  obtain ⟨a1, a2, a3, a4, a5, a6, a7⟩ := HHR.out.proc hp'
  go_wp2_with fail
  clear z1 z2 a1 a2 a3 a4 a5 a6 a7
  go_ret
  refine ⟨by rw [HE.out]; rfl, ?_, HKR.out.set2 _ _⟩
  rw [HE.out]
  exact HHR.out.setP hp' 2 (by decide) (.int .i64 12) { l.pr p with phase := 12 } rfl
set_option maxRecDepth 100000 in
set_option maxHeartbeats 3200000 in
theorem act_12 (l : Ls) (n m p d s c x base G1 G2 c1 c2 : Nat) (w : World) (hn : l.cs.length = n) (hm : l.ps.length = m) (h : MemL w base G1 G2 c1 c2 l) (hp : p < m) (hd : d < n) (hs : s < n) (hc : c < n) (hx : x < n) (_m8 : m ≤ 8) (_n66 : n ≤ 66) (hxd : (l.pr p).pred = (d : Int)) (hxs : (l.pr p).succ = (s : Int)) (hxc : (l.pr p).cell = (c : Int)) (hxx : (l.pr p).next = (x : Int)) (hph : (l.pr p).phase = 12) :
    Calls Tryd.prog 49 #[.agg #[.slice (some ⟨G1, 0, none⟩) n c1, .slice (some ⟨G2, 0, none⟩) m c2], .int .i64 (p : Int)] w (OptP (stepV l p) l base G1 G2 c1 c2 w) := by
  have HE := Lib.hid (step_12 hph hxd hxx)
  have HK : Hid (Chg G1 G2 w _) := Lib.hid (Chg.of ((Below.refl w.heap.size w).alloc (Nat.le_refl _) (.cells #[.slice (some ⟨G1, 0, none⟩) n c1, .slice (some ⟨G2, 0, none⟩) m c2] 35)))
  have HH := Lib.hid (h.below ((Below.refl _ _).alloc (Nat.le_refl _) (.cells #[.slice (some ⟨G1, 0, none⟩) n c1, .slice (some ⟨G2, 0, none⟩) m c2] 35)))
  have HX := Lib.hid (Has.new w 35 #[.slice (some ⟨G1, 0, none⟩) n c1, .slice (some ⟨G2, 0, none⟩) m c2])
  have hbn : G1 < w.heap.size ∧ G2 < w.heap.size := ⟨h.cs.lt, h.ps.lt⟩
  have hne : ¬ G1 = G2 := h.ne
  have hne' : ¬ G2 = G1 := fun e => h.ne e.symm
  have HN := Lib.hid hn
  have HM := Lib.hid hm
  have hp' : p < l.ps.length := by rw [hm]; exact hp
  have hd' : d < l.cs.length := by rw [hn]; exact hd
  have hs' : s < l.cs.length := by rw [hn]; exact hs
  have hc' : c < l.cs.length := by rw [hn]; exact hc
  have hx' : x < l.cs.length := by rw [hn]; exact hx
  have p0 : (0 : Int) ≤ (p : Int) := by omega
  have p1 : (p : Int) < (m : Int) := by omega
  have r0 : (0 : Int) ≤ (d : Int) := by omega
  have r1 : (d : Int) < (n : Int) := by omega
  have q0 : (0 : Int) ≤ (s : Int) := by omega
  have q1 : (s : Int) < (n : Int) := by omega
  have t0 : (0 : Int) ≤ (c : Int) := by omega
  have t1 : (c : Int) < (n : Int) := by omega
  have u0 : (0 : Int) ≤ (x : Int) := by omega
  have u1 : (x : Int) < (n : Int) := by omega
  have HXD := Lib.hid hxd
  have HXS := Lib.hid hxs
  have HXC := Lib.hid hxc
  have HXX := Lib.hid hxx
  have HPH := Lib.hid hph
  obtain ⟨O, hO⟩ : ∃ O, O = stepV l p := ⟨_, rfl⟩
  rw [← hO] at HE ⊢
  clear h hn hm hxd hxs hxc hxx hph hO
  go_enter Tryd.func49, Tryd.ntmps49
  go_upto_region 1 with fail
  generalize w.alloc (.cells #[.slice (some ⟨G1, 0, none⟩) n c1, .slice (some ⟨G2, 0, none⟩) m c2] 35) = W at *
  obtain ⟨B, hB⟩ : ∃ B, B = w.heap.size := ⟨_, rfl⟩
  rw [← hB] at HX hbn ⊢
  clear hB
  have x0 := HX.out.cell 0
  have x1 := HX.out.cell 1
  go_quiet (fail)
  have hqb := below_drw (Below.refl W.heap.size W) nq
  have HHQ := Lib.hid (HH.out.below hqb)
  have HKQ := Lib.hid (HK.out.add hqb)
  have HXQ := Lib.hid (HX.out.below hqb)
  clear x0 x1 hqb HH HK HX
  generalize W.drewN nq = V at *
  have x0 := HXQ.out.cell 0
  have x1 := HXQ.out.cell 1
  obtain ⟨z1, z2⟩ := HHQ.out.fz
  obtain ⟨a1, a2, a3, a4, a5, a6, a7⟩ := HHQ.out.proc hp'
  rw [HPH.out] at a3
  rw [HXD.out] at a4
  rw [HXS.out] at a5
  rw [HXX.out] at a6
  rw [HXC.out] at a2
  obtain ⟨-, b2, b3, -, b5⟩ := HHQ.out.cell hd'
  obtain ⟨-, e2, e3, -, e5⟩ := HHQ.out.cell hs'
  obtain ⟨-, f2, f3, -, f5⟩ := HHQ.out.cell hc'
  obtain ⟨-, g2, g3, -, g5⟩ := HHQ.out.cell hx'
  go_upto_region 34 with fail
  go_region
  clear x0 x1 z1 z2 a1 a2 a3 a4 a5 a6 a7 b2 b3 b5 e2 e3 e5 f2 f3 f5 g2 g3 g5
  have HHR := Lib.hid (MemL.drew ((HHQ.out.initC hx').upC hx' 1 (by decide) (.int .i64 (d : Int)) { l.at_ x with left := (d : Int) } rfl))
  have HKR := Lib.hid (Chg.drew (HKQ.out.set1 (x * 5 + 1) (.int .i64 (d : Int))))
  generalize World.drew _ = V2 at *
  obtain ⟨z1, z2⟩ := HHR.out.fz
  obtain ⟨a1, a2, a3, a4, a5, a6, a7⟩ := HHR.out.proc hp'
  go_wp2_with fail
  clear z1 z2 a1 a2 a3 a4 a5 a6 a7
  go_ret
  refine ⟨by rw [HE.out]; rfl, ?_, (HKR.out.set2 _ _).set2 _ _⟩
  rw [HE.out]
  exact MemL.up (HHR.out.setP hp' 6 (by decide) (.bool true) { l.pr p with res := true } rfl) hp' 2 (by decide) (.int .i64 13) { l.pr p with res := true, phase := 13 } rfl
set_option maxRecDepth 100000 in
set_option maxHeartbeats 1600000 in
theorem act_13 (l : Ls) (n m p d s c x base G1 G2 c1 c2 : Nat) (w : World) (hn : l.cs.length = n) (hm : l.ps.length = m) (h : MemL w base G1 G2 c1 c2 l) (hp : p < m) (hd : d < n) (hs : s < n) (hc : c < n) (hx : x < n) (m8 : m ≤ 8) (n66 : n ≤ 66) (hxd : (l.pr p).pred = (d : Int)) (hxs : (l.pr p).succ = (s : Int)) (hxc : (l.pr p).cell = (c : Int)) (hxx : (l.pr p).next = (x : Int)) (hph : (l.pr p).phase = 13) :
    Calls Tryd.prog 49 #[.agg #[.slice (some ⟨G1, 0, none⟩) n c1, .slice (some ⟨G2, 0, none⟩) m c2], .int .i64 (p : Int)] w (OptP (stepV l p) l base G1 G2 c1 c2 w) := by
  have HE := Lib.hid (step_13 hph)
  have HK : Hid (Chg G1 G2 w _) := Lib.hid (Chg.of ((Below.refl w.heap.size w).alloc (Nat.le_refl _) (.cells #[.slice (some ⟨G1, 0, none⟩) n c1, .slice (some ⟨G2, 0, none⟩) m c2] 35)))
  have HH := Lib.hid (h.below ((Below.refl _ _).alloc (Nat.le_refl _) (.cells #[.slice (some ⟨G1, 0, none⟩) n c1, .slice (some ⟨G2, 0, none⟩) m c2] 35)))
  have HX := Lib.hid (Has.new w 35 #[.slice (some ⟨G1, 0, none⟩) n c1, .slice (some ⟨G2, 0, none⟩) m c2])
  have hbn : G1 < w.heap.size ∧ G2 < w.heap.size := ⟨h.cs.lt, h.ps.lt⟩
  have hne : ¬ G1 = G2 := h.ne
  have hne' : ¬ G2 = G1 := fun e => h.ne e.symm
  have HN := Lib.hid hn
  have HM := Lib.hid hm
  have hp' : p < l.ps.length := by rw [hm]; exact hp
  have hd' : d < l.cs.length := by rw [hn]; exact hd
  have hs' : s < l.cs.length := by rw [hn]; exact hs
  have hc' : c < l.cs.length := by rw [hn]; exact hc
  have hx' : x < l.cs.length := by rw [hn]; exact hx
  have p0 : (0 : Int) ≤ (p : Int) := by omega
  have p1 : (p : Int) < (m : Int) := by omega
  have r0 : (0 : Int) ≤ (d : Int) := by omega
  have r1 : (d : Int) < (n : Int) := by omega
  have q0 : (0 : Int) ≤ (s : Int) := by omega
  have q1 : (s : Int) < (n : Int) := by omega
  have t0 : (0 : Int) ≤ (c : Int) := by omega
  have t1 : (c : Int) < (n : Int) := by omega
  have u0 : (0 : Int) ≤ (x : Int) := by omega
  have u1 : (x : Int) < (n : Int) := by omega
  have HXD := Lib.hid hxd
  have HXS := Lib.hid hxs
  have HXC := Lib.hid hxc
  have HXX := Lib.hid hxx
  have HPH := Lib.hid hph
  obtain ⟨O, hO⟩ : ∃ O, O = stepV l p := ⟨_, rfl⟩
  rw [← hO] at HE ⊢
  clear h hn hm hxd hxs hxc hxx hph hO
  go_enter Tryd.func49, Tryd.ntmps49
  go_upto_region 1 with fail
  generalize w.alloc (.cells #[.slice (some ⟨G1, 0, none⟩) n c1, .slice (some ⟨G2, 0, none⟩) m c2] 35) = W at *
  obtain ⟨B, hB⟩ : ∃ B, B = w.heap.size := ⟨_, rfl⟩
  rw [← hB] at HX hbn ⊢
  clear hB
  have x0 := HX.out.cell 0
  have x1 := HX.out.cell 1
  go_quiet (fail)
  have hqb := below_drw (Below.refl W.heap.size W) nq
  have HHQ := Lib.hid (HH.out.below hqb)
  have HKQ := Lib.hid (HK.out.add hqb)
  have HXQ := Lib.hid (HX.out.below hqb)
  clear x0 x1 hqb HH HK HX
  generalize W.drewN nq = V at *
  have x0 := HXQ.out.cell 0
  have x1 := HXQ.out.cell 1
  obtain ⟨z1, z2⟩ := HHQ.out.fz
  obtain ⟨a1, a2, a3, a4, a5, a6, a7⟩ := HHQ.out.proc hp'
  rw [HPH.out] at a3
  rw [HXD.out] at a4
  rw [HXS.out] at a5
  rw [HXX.out] at a6
  rw [HXC.out] at a2
  obtain ⟨-, b2, b3, -, b5⟩ := HHQ.out.cell hd'
  obtain ⟨-, e2, e3, -, e5⟩ := HHQ.out.cell hs'
  obtain ⟨-, f2, f3, -, f5⟩ := HHQ.out.cell hc'
  obtain ⟨-, g2, g3, -, g5⟩ := HHQ.out.cell hx'
  have HL := Lib.hid (unlock_any l n m p base G1 G2 c1 c2 V HN.out HM.out HHQ.out hp m8 n66)
  go_wp2_with fail
  refine (HL.out).mono ?_
  rintro e w2 ⟨rfl, hm2, hb2⟩
  clear x0 x1 z1 z2 a1 a2 a3 a4 a5 a6 a7 b2 b3 b5 e2 e3 e5 f2 f3 f5 g2 g3 g5
  have HM2 := Lib.hid hm2
  have HB2 := Lib.hid hb2
  clear hm2 hb2 HL
  obtain ⟨z1, z2⟩ := HM2.out.fz
  obtain ⟨a1, a2, a3, a4, a5, a6, a7⟩ := HM2.out.proc (i := p) hp'
  go_wp2_with fail
  clear z1 z2 a1 a2 a3 a4 a5 a6 a7
  go_ret
  refine ⟨by rw [HE.out]; rfl, ?_, (HKQ.out.trans HB2.out).set2 _ _⟩
  rw [HE.out]
  exact HM2.out.setP (l := l.free p) hp' 2 (by decide) (.int .i64 18) { l.pr p with phase := 18 } rfl
set_option maxRecDepth 100000 in
set_option maxHeartbeats 1600000 in
theorem act_0 (l : Ls) (n m p d s c x base G1 G2 c1 c2 : Nat) (w : World) (hn : l.cs.length = n) (hm : l.ps.length = m) (h : MemL w base G1 G2 c1 c2 l) (hp : p < m) (hd : d < n) (hs : s < n) (hc : c < n) (hx : x < n) (_m8 : m ≤ 8) (_n66 : n ≤ 66) (hxd : (l.pr p).pred = (d : Int)) (hxs : (l.pr p).succ = (s : Int)) (hxc : (l.pr p).cell = (c : Int)) (hxx : (l.pr p).next = (x : Int)) (hph : (l.pr p).phase = 0) :
    Calls Tryd.prog 49 #[.agg #[.slice (some ⟨G1, 0, none⟩) n c1, .slice (some ⟨G2, 0, none⟩) m c2], .int .i64 (p : Int)] w (OptP (stepV l p) l base G1 G2 c1 c2 w) := by
  have HE := Lib.hid (step_0 (p := p) (l := l) (.inl hph))
  have HK : Hid (Chg G1 G2 w _) := Lib.hid (Chg.of ((Below.refl w.heap.size w).alloc (Nat.le_refl _) (.cells #[.slice (some ⟨G1, 0, none⟩) n c1, .slice (some ⟨G2, 0, none⟩) m c2] 35)))
  have HH := Lib.hid (h.below ((Below.refl _ _).alloc (Nat.le_refl _) (.cells #[.slice (some ⟨G1, 0, none⟩) n c1, .slice (some ⟨G2, 0, none⟩) m c2] 35)))
  have HX := Lib.hid (Has.new w 35 #[.slice (some ⟨G1, 0, none⟩) n c1, .slice (some ⟨G2, 0, none⟩) m c2])
  have hbn : G1 < w.heap.size ∧ G2 < w.heap.size := ⟨h.cs.lt, h.ps.lt⟩
  have hne : ¬ G1 = G2 := h.ne
  have hne' : ¬ G2 = G1 := fun e => h.ne e.symm
  have HN := Lib.hid hn
  have HM := Lib.hid hm
  have hp' : p < l.ps.length := by rw [hm]; exact hp
  have hd' : d < l.cs.length := by rw [hn]; exact hd
  have hs' : s < l.cs.length := by rw [hn]; exact hs
  have hc' : c < l.cs.length := by rw [hn]; exact hc
  have hx' : x < l.cs.length := by rw [hn]; exact hx
  have p0 : (0 : Int) ≤ (p : Int) := by omega
  have p1 : (p : Int) < (m : Int) := by omega
  have r0 : (0 : Int) ≤ (d : Int) := by omega
  have r1 : (d : Int) < (n : Int) := by omega
  have q0 : (0 : Int) ≤ (s : Int) := by omega
  have q1 : (s : Int) < (n : Int) := by omega
  have t0 : (0 : Int) ≤ (c : Int) := by omega
  have t1 : (c : Int) < (n : Int) := by omega
  have u0 : (0 : Int) ≤ (x : Int) := by omega
  have u1 : (x : Int) < (n : Int) := by omega
  have HXD := Lib.hid hxd
  have HXS := Lib.hid hxs
  have HXC := Lib.hid hxc
  have HXX := Lib.hid hxx
  have HPH := Lib.hid hph
  obtain ⟨O, hO⟩ : ∃ O, O = stepV l p := ⟨_, rfl⟩
  rw [← hO] at HE ⊢
  clear h hn hm hxd hxs hxc hxx hph hO
  go_enter Tryd.func49, Tryd.ntmps49
  go_upto_region 1 with fail
  generalize w.alloc (.cells #[.slice (some ⟨G1, 0, none⟩) n c1, .slice (some ⟨G2, 0, none⟩) m c2] 35) = W at *
  obtain ⟨B, hB⟩ : ∃ B, B = w.heap.size := ⟨_, rfl⟩
  rw [← hB] at HX hbn ⊢
  clear hB
  have x0 := HX.out.cell 0
  have x1 := HX.out.cell 1
  go_quiet (fail)
  have hqb := below_drw (Below.refl W.heap.size W) nq
  have HHQ := Lib.hid (HH.out.below hqb)
  have HKQ := Lib.hid (HK.out.add hqb)
  have HXQ := Lib.hid (HX.out.below hqb)
  clear x0 x1 hqb HH HK HX
  generalize W.drewN nq = V at *
  have x0 := HXQ.out.cell 0
  have x1 := HXQ.out.cell 1
  obtain ⟨z1, z2⟩ := HHQ.out.fz
  obtain ⟨a1, a2, a3, a4, a5, a6, a7⟩ := HHQ.out.proc hp'
  rw [HPH.out] at a3
  rw [HXD.out] at a4
  rw [HXS.out] at a5
  rw [HXX.out] at a6
  rw [HXC.out] at a2
  obtain ⟨-, b2, b3, -, b5⟩ := HHQ.out.cell hd'
  obtain ⟨-, e2, e3, -, e5⟩ := HHQ.out.cell hs'
  obtain ⟨-, f2, f3, -, f5⟩ := HHQ.out.cell hc'
  obtain ⟨-, g2, g3, -, g5⟩ := HHQ.out.cell hx'
  go_wp2_with fail
  clear x0 x1 z1 z2 a1 a2 a3 a4 a5 a6 a7 b2 b3 b5 e2 e3 e5 f2 f3 f5 g2 g3 g5
  go_ret
  exact ⟨by rw [HE.out]; rfl, by rw [HE.out]; exact HHQ.out, HKQ.out⟩
set_option maxRecDepth 100000 in
set_option maxHeartbeats 1600000 in
theorem act_18 (l : Ls) (n m p d s c x base G1 G2 c1 c2 : Nat) (w : World) (hn : l.cs.length = n) (hm : l.ps.length = m) (h : MemL w base G1 G2 c1 c2 l) (hp : p < m) (hd : d < n) (hs : s < n) (hc : c < n) (hx : x < n) (_m8 : m ≤ 8) (_n66 : n ≤ 66) (hxd : (l.pr p).pred = (d : Int)) (hxs : (l.pr p).succ = (s : Int)) (hxc : (l.pr p).cell = (c : Int)) (hxx : (l.pr p).next = (x : Int)) (hph : (l.pr p).phase = 18) :
    Calls Tryd.prog 49 #[.agg #[.slice (some ⟨G1, 0, none⟩) n c1, .slice (some ⟨G2, 0, none⟩) m c2], .int .i64 (p : Int)] w (OptP (stepV l p) l base G1 G2 c1 c2 w) := by
  have HE := Lib.hid (step_0 (p := p) (l := l) (.inr hph))
  have HK : Hid (Chg G1 G2 w _) := Lib.hid (Chg.of ((Below.refl w.heap.size w).alloc (Nat.le_refl _) (.cells #[.slice (some ⟨G1, 0, none⟩) n c1, .slice (some ⟨G2, 0, none⟩) m c2] 35)))
  have HH := Lib.hid (h.below ((Below.refl _ _).alloc (Nat.le_refl _) (.cells #[.slice (some ⟨G1, 0, none⟩) n c1, .slice (some ⟨G2, 0, none⟩) m c2] 35)))
  have HX := Lib.hid (Has.new w 35 #[.slice (some ⟨G1, 0, none⟩) n c1, .slice (some ⟨G2, 0, none⟩) m c2])
  have hbn : G1 < w.heap.size ∧ G2 < w.heap.size := ⟨h.cs.lt, h.ps.lt⟩
  have hne : ¬ G1 = G2 := h.ne
  have hne' : ¬ G2 = G1 := fun e => h.ne e.symm
  have HN := Lib.hid hn
  have HM := Lib.hid hm
  have hp' : p < l.ps.length := by rw [hm]; exact hp
  have hd' : d < l.cs.length := by rw [hn]; exact hd
  have hs' : s < l.cs.length := by rw [hn]; exact hs
  have hc' : c < l.cs.length := by rw [hn]; exact hc
  have hx' : x < l.cs.length := by rw [hn]; exact hx
  have p0 : (0 : Int) ≤ (p : Int) := by omega
  have p1 : (p : Int) < (m : Int) := by omega
  have r0 : (0 : Int) ≤ (d : Int) := by omega
  have r1 : (d : Int) < (n : Int) := by omega
  have q0 : (0 : Int) ≤ (s : Int) := by omega
  have q1 : (s : Int) < (n : Int) := by omega
  have t0 : (0 : Int) ≤ (c : Int) := by omega
  have t1 : (c : Int) < (n : Int) := by omega
  have u0 : (0 : Int) ≤ (x : Int) := by omega
  have u1 : (x : Int) < (n : Int) := by omega
  have HXD := Lib.hid hxd
  have HXS := Lib.hid hxs
  have HXC := Lib.hid hxc
  have HXX := Lib.hid hxx
  have HPH := Lib.hid hph
  obtain ⟨O, hO⟩ : ∃ O, O = stepV l p := ⟨_, rfl⟩
  rw [← hO] at HE ⊢
  clear h hn hm hxd hxs hxc hxx hph hO
  go_enter Tryd.func49, Tryd.ntmps49
  go_upto_region 1 with fail
  generalize w.alloc (.cells #[.slice (some ⟨G1, 0, none⟩) n c1, .slice (some ⟨G2, 0, none⟩) m c2] 35) = W at *
  obtain ⟨B, hB⟩ : ∃ B, B = w.heap.size := ⟨_, rfl⟩
  rw [← hB] at HX hbn ⊢
  clear hB
  have x0 := HX.out.cell 0
  have x1 := HX.out.cell 1
  go_quiet (fail)
  have hqb := below_drw (Below.refl W.heap.size W) nq
  have HHQ := Lib.hid (HH.out.below hqb)
  have HKQ := Lib.hid (HK.out.add hqb)
  have HXQ := Lib.hid (HX.out.below hqb)
  clear x0 x1 hqb HH HK HX
  generalize W.drewN nq = V at *
  have x0 := HXQ.out.cell 0
  have x1 := HXQ.out.cell 1
  obtain ⟨z1, z2⟩ := HHQ.out.fz
  obtain ⟨a1, a2, a3, a4, a5, a6, a7⟩ := HHQ.out.proc hp'
  rw [HPH.out] at a3
  rw [HXD.out] at a4
  rw [HXS.out] at a5
  rw [HXX.out] at a6
  rw [HXC.out] at a2
  obtain ⟨-, b2, b3, -, b5⟩ := HHQ.out.cell hd'
  obtain ⟨-, e2, e3, -, e5⟩ := HHQ.out.cell hs'
  obtain ⟨-, f2, f3, -, f5⟩ := HHQ.out.cell hc'
  obtain ⟨-, g2, g3, -, g5⟩ := HHQ.out.cell hx'
  go_wp2_with fail
  clear x0 x1 z1 z2 a1 a2 a3 a4 a5 a6 a7 b2 b3 b5 e2 e3 e5 f2 f3 f5 g2 g3 g5
  go_ret
  exact ⟨by rw [HE.out]; rfl, by rw [HE.out]; exact HHQ.out, HKQ.out⟩
end Lk
end Go.Proofs.YtgmffgdhijcfcaaDoor
