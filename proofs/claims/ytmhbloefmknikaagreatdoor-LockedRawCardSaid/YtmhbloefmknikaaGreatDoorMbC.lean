/-
  change of the reference of chapter 11, in place. Conditions: the list is valid and may be changed in place.
-/
import Derived.Test.YtmhbloefmknikaaGreatDoorLzJ
namespace Go.Proofs.YtmhbloefmknikaaGreatDoor
open Go.RowKit Go.Maps
namespace Lk
set_option maxRecDepth 100000 in
set_option maxHeartbeats 3200000 in
theorem rchg_6 (l : Ls) (n m p d s c x base G1 G2 c1 c2 : Nat) (w : World) (hn : l.cs.length = n) (hm : l.ps.length = m) (h : MemL w base G1 G2 c1 c2 l) (hp : p < m) (hd : d < n) (hs : s < n) (hc : c < n) (hx : x < n) (_m8 : m ≤ 8) (_n66 : n ≤ 66) (hxd : (l.pr p).pred = (d : Int)) (hxs : (l.pr p).succ = (s : Int)) (hxc : (l.pr p).cell = (c : Int)) (hxx : (l.pr p).next = (x : Int)) (hph : (l.pr p).phase = 6) :
    Calls Tryz.prog 107 #[.agg #[.slice (some ⟨G1, 0, none⟩) n c1, .slice (some ⟨G2, 0, none⟩) m c2], .pointer (some ⟨G2, p * 7, none⟩)] w (StP ((stepV l p).getD l) base G1 G2 c1 c2 (.tuple #[]) w) := by
  have HE := Lib.hid (step_6 hph hxd hxs hxc)
  have HK : Hid (Chg G1 G2 w _) := Lib.hid (Chg.of ((Below.refl w.heap.size w).alloc (Nat.le_refl _) (.cells #[.slice (some ⟨G1, 0, none⟩) n c1, .slice (some ⟨G2, 0, none⟩) m c2] 28)))
  have HH := Lib.hid (h.below ((Below.refl _ _).alloc (Nat.le_refl _) (.cells #[.slice (some ⟨G1, 0, none⟩) n c1, .slice (some ⟨G2, 0, none⟩) m c2] 28)))
  have HX := Lib.hid (Has.new w 28 #[.slice (some ⟨G1, 0, none⟩) n c1, .slice (some ⟨G2, 0, none⟩) m c2])
  have hbn : G1 < w.heap.size ∧ G2 < w.heap.size := ⟨h.cs.lt, h.ps.lt⟩
  have hne : ¬ G1 = G2 := h.ne
  have hne' : ¬ G2 = G1 := fun e => h.ne e.symm
  have HN := Lib.hid hn
  have HM := Lib.hid hm
  have hp' : p < l.ps.length := by rw [hm]; exact hp
  have hd' : d < l.cs.length := by rw [hn]; exact hd
  have hs' : s < l.cs.length := by rw [hn]; exact hs
  have hc' : c < l.cs.length := by rw [hn]; exact hc
  have hx' : x < l.cs.length := by rw [hn]; exact hx
  have p0 : (0 : Int) ≤ (p : Int) := by omega
  have p1 : (p : Int) < (m : Int) := by omega
  have r0 : (0 : Int) ≤ (d : Int) := by omega
  have r1 : (d : Int) < (n : Int) := by omega
  have q0 : (0 : Int) ≤ (s : Int) := by omega
  have q1 : (s : Int) < (n : Int) := by omega
  have t0 : (0 : Int) ≤ (c : Int) := by omega
  have t1 : (c : Int) < (n : Int) := by omega
  have u0 : (0 : Int) ≤ (x : Int) := by omega
  have u1 : (x : Int) < (n : Int) := by omega
  have HXD := Lib.hid hxd
  have HXS := Lib.hid hxs
  have HXC := Lib.hid hxc
  have HXX := Lib.hid hxx
  have HPH := Lib.hid hph
  obtain ⟨O, hO⟩ : ∃ O, O = stepV l p := ⟨_, rfl⟩
  rw [← hO] at HE ⊢
  clear h hn hm hxd hxs hxc hxx hph hO
  go_enter Tryz.func107, Tryz.ntmps107
  go_upto_region 1 with fail
  generalize w.alloc (.cells #[.slice (some ⟨G1, 0, none⟩) n c1, .slice (some ⟨G2, 0, none⟩) m c2] 28) = W at *
  obtain ⟨B, hB⟩ : ∃ B, B = w.heap.size := ⟨_, rfl⟩
  rw [← hB] at HX hbn ⊢
  clear hB
  have x0 := HX.out.cell 0
  have x1 := HX.out.cell 1
  obtain ⟨z1, z2⟩ := HH.out.fz
  obtain ⟨a1, a2, a3, a4, a5, a6, a7⟩ := HH.out.proc hp'
  rw [HXC.out] at a2
  go_quiet (fail)
  clear z1 z2 a1 a2 a3 a4 a5 a6 a7
  have hqb := below_drw (Below.refl W.heap.size W) nq
  have HHQ := Lib.hid (HH.out.below hqb)
  have HKQ := Lib.hid (HK.out.add hqb)
  have HXQ := Lib.hid (HX.out.below hqb)
  clear x0 x1 hqb HH HK HX
  generalize W.drewN nq = V at *
  have x0 := HXQ.out.cell 0
  have x1 := HXQ.out.cell 1
  obtain ⟨z1, z2⟩ := HHQ.out.fz
  obtain ⟨a1, a2, a3, a4, a5, a6, a7⟩ := HHQ.out.proc hp'
  rw [HPH.out] at a3
  rw [HXD.out] at a4
  rw [HXS.out] at a5
  rw [HXX.out] at a6
  rw [HXC.out] at a2
  obtain ⟨-, b2, b3, -, b5⟩ := HHQ.out.cell hd'
  obtain ⟨-, e2, e3, -, e5⟩ := HHQ.out.cell hs'
  obtain ⟨-, f2, f3, -, f5⟩ := HHQ.out.cell hc'
  obtain ⟨-, g2, g3, -, g5⟩ := HHQ.out.cell hx'
  go_upto_region 6 with fail
  go_region
  clear x0 x1 z1 z2 a1 a2 a3 a4 a5 a6 a7 b2 b3 b5 e2 e3 e5 f2 f3 f5 g2 g3 g5
  have HHR := Lib.hid (MemL.drew (((HHQ.out.initC hc').upC hc' 1 (by decide) (.int .i64 (d : Int)) { l.at_ c with left := (d : Int) } rfl).upC hc' 2 (by decide) (.int .i64 (s : Int)) { l.at_ c with left := (d : Int), right := (s : Int) } rfl))
  have HKR := Lib.hid (Chg.drew ((HKQ.out.set1 (c * 5 + 1) (.int .i64 (d : Int))).set1 (c * 5 + 2) (.int .i64 (s : Int))))
  generalize World.drew _ = V2 at *
  obtain ⟨z1, z2⟩ := HHR.out.fz
  obtain ⟨a1, a2, a3, a4, a5, a6, a7⟩ := HHR.out.proc hp'
  go_wp2_with fail
  clear z1 z2 a1 a2 a3 a4 a5 a6 a7
  go_end0
  refine ⟨rfl, ?_, HKR.out.set2 _ _⟩
  rw [HE.out]
  exact HHR.out.setP hp' 2 (by decide) (.int .i64 7) { l.pr p with phase := 7 } rfl
set_option maxRecDepth 100000 in
set_option maxHeartbeats 3200000 in
theorem rchg_7 (l : Ls) (n m p d s c x base G1 G2 c1 c2 : Nat) (w : World) (hn : l.cs.length = n) (hm : l.ps.length = m) (h : MemL w base G1 G2 c1 c2 l) (hp : p < m) (hd : d < n) (hs : s < n) (hc : c < n) (hx : x < n) (_m8 : m ≤ 8) (_n66 : n ≤ 66) (hxd : (l.pr p).pred = (d : Int)) (hxs : (l.pr p).succ = (s : Int)) (hxc : (l.pr p).cell = (c : Int)) (hxx : (l.pr p).next = (x : Int)) (hph : (l.pr p).phase = 7) :
    Calls Tryz.prog 107 #[.agg #[.slice (some ⟨G1, 0, none⟩) n c1, .slice (some ⟨G2, 0, none⟩) m c2], .pointer (some ⟨G2, p * 7, none⟩)] w (StP ((stepV l p).getD l) base G1 G2 c1 c2 (.tuple #[]) w) := by
  have HE := Lib.hid (step_7 hph hxd hxc)
  have HK : Hid (Chg G1 G2 w _) := Lib.hid (Chg.of ((Below.refl w.heap.size w).alloc (Nat.le_refl _) (.cells #[.slice (some ⟨G1, 0, none⟩) n c1, .slice (some ⟨G2, 0, none⟩) m c2] 28)))
  have HH := Lib.hid (h.below ((Below.refl _ _).alloc (Nat.le_refl _) (.cells #[.slice (some ⟨G1, 0, none⟩) n c1, .slice (some ⟨G2, 0, none⟩) m c2] 28)))
  have HX := Lib.hid (Has.new w 28 #[.slice (some ⟨G1, 0, none⟩) n c1, .slice (some ⟨G2, 0, none⟩) m c2])
  have hbn : G1 < w.heap.size ∧ G2 < w.heap.size := ⟨h.cs.lt, h.ps.lt⟩
  have hne : ¬ G1 = G2 := h.ne
  have hne' : ¬ G2 = G1 := fun e => h.ne e.symm
  have HN := Lib.hid hn
  have HM := Lib.hid hm
  have hp' : p < l.ps.length := by rw [hm]; exact hp
  have hd' : d < l.cs.length := by rw [hn]; exact hd
  have hs' : s < l.cs.length := by rw [hn]; exact hs
  have hc' : c < l.cs.length := by rw [hn]; exact hc
  have hx' : x < l.cs.length := by rw [hn]; exact hx
  have p0 : (0 : Int) ≤ (p : Int) := by omega
  have p1 : (p : Int) < (m : Int) := by omega
  have r0 : (0 : Int) ≤ (d : Int) := by omega
  have r1 : (d : Int) < (n : Int) := by omega
  have q0 : (0 : Int) ≤ (s : Int) := by omega
  have q1 : (s : Int) < (n : Int) := by omega
  have t0 : (0 : Int) ≤ (c : Int) := by omega
  have t1 : (c : Int) < (n : Int) := by omega
  have u0 : (0 : Int) ≤ (x : Int) := by omega
  have u1 : (x : Int) < (n : Int) := by omega
  have HXD := Lib.hid hxd
  have HXS := Lib.hid hxs
  have HXC := Lib.hid hxc
  have HXX := Lib.hid hxx
  have HPH := Lib.hid hph
  obtain ⟨O, hO⟩ : ∃ O, O = stepV l p := ⟨_, rfl⟩
  rw [← hO] at HE ⊢
  clear h hn hm hxd hxs hxc hxx hph hO
  go_enter Tryz.func107, Tryz.ntmps107
  go_upto_region 1 with fail
  generalize w.alloc (.cells #[.slice (some ⟨G1, 0, none⟩) n c1, .slice (some ⟨G2, 0, none⟩) m c2] 28) = W at *
  obtain ⟨B, hB⟩ : ∃ B, B = w.heap.size := ⟨_, rfl⟩
  rw [← hB] at HX hbn ⊢
  clear hB
  have x0 := HX.out.cell 0
  have x1 := HX.out.cell 1
  obtain ⟨z1, z2⟩ := HH.out.fz
  obtain ⟨a1, a2, a3, a4, a5, a6, a7⟩ := HH.out.proc hp'
  rw [HXC.out] at a2
  go_quiet (fail)
  clear z1 z2 a1 a2 a3 a4 a5 a6 a7
  have hqb := below_drw (Below.refl W.heap.size W) nq
  have HHQ := Lib.hid (HH.out.below hqb)
  have HKQ := Lib.hid (HK.out.add hqb)
  have HXQ := Lib.hid (HX.out.below hqb)
  clear x0 x1 hqb HH HK HX
  generalize W.drewN nq = V at *
  have x0 := HXQ.out.cell 0
  have x1 := HXQ.out.cell 1
  obtain ⟨z1, z2⟩ := HHQ.out.fz
  obtain ⟨a1, a2, a3, a4, a5, a6, a7⟩ := HHQ.out.proc hp'
  rw [HPH.out] at a3
  rw [HXD.out] at a4
  rw [HXS.out] at a5
  rw [HXX.out] at a6
  rw [HXC.out] at a2
  obtain ⟨-, b2, b3, -, b5⟩ := HHQ.out.cell hd'
  obtain ⟨-, e2, e3, -, e5⟩ := HHQ.out.cell hs'
  obtain ⟨-, f2, f3, -, f5⟩ := HHQ.out.cell hc'
  obtain ⟨-, g2, g3, -, g5⟩ := HHQ.out.cell hx'
  go_upto_region 9 with fail
  go_region
  clear x0 x1 z1 z2 a1 a2 a3 a4 a5 a6 a7 b2 b3 b5 e2 e3 e5 f2 f3 f5 g2 g3 g5
  have HHR := Lib.hid (MemL.drew ((HHQ.out.initC hd').upC hd' 2 (by decide) (.int .i64 (c : Int)) { l.at_ d with right := (c : Int) } rfl))
  have HKR := Lib.hid (Chg.drew (HKQ.out.set1 (d * 5 + 2) (.int .i64 (c : Int))))
  generalize World.drew _ = V2 at *
  obtain ⟨z1, z2⟩ := HHR.out.fz
  obtain ⟨a1, a2, a3, a4, a5, a6, a7⟩ := HHR.out.proc hp'
  rw [show (Ls.pr (l.setC d { l.at_ d with right := (c : Int) }) p).cell = (c : Int) from HXC.out] at a2
  have hc2 : c < ((l.setC d { l.at_ d with right := (c : Int) })).cs.length := by rw [Ls.len_setC]; exact hc'
  obtain ⟨-, -, -, -, f5⟩ := HHR.out.cell hc2
  go_wp2_with fail
  clear z1 z2 a1 a2 a3 a4 a5 a6 a7 f5
  go_end0
  refine ⟨rfl, ?_, (HKR.out.set1 _ _).set2 _ _⟩
  rw [HE.out]
  exact (HHR.out.setC hc2 4 (by decide) (.bool false) { ((l.setC d { l.at_ d with right := (c : Int) })).at_ c with gone := false } rfl).setP hp' 2 (by decide) (.int .i64 8) { l.pr p with phase := 8 } rfl
set_option maxRecDepth 100000 in
set_option maxHeartbeats 3200000 in
theorem rchg_8 (l : Ls) (n m p d s c x base G1 G2 c1 c2 : Nat) (w : World) (hn : l.cs.length = n) (hm : l.ps.length = m) (h : MemL w base G1 G2 c1 c2 l) (hp : p < m) (hd : d < n) (hs : s < n) (hc : c < n) (hx : x < n) (_m8 : m ≤ 8) (_n66 : n ≤ 66) (hxd : (l.pr p).pred = (d : Int)) (hxs : (l.pr p).succ = (s : Int)) (hxc : (l.pr p).cell = (c : Int)) (hxx : (l.pr p).next = (x : Int)) (hph : (l.pr p).phase = 8) :
    Calls Tryz.prog 107 #[.agg #[.slice (some ⟨G1, 0, none⟩) n c1, .slice (some ⟨G2, 0, none⟩) m c2], .pointer (some ⟨G2, p * 7, none⟩)] w (StP ((stepV l p).getD l) base G1 G2 c1 c2 (.tuple #[]) w) := by
  have HE := Lib.hid (step_8 hph hxs hxc)
  have HK : Hid (Chg G1 G2 w _) := Lib.hid (Chg.of ((Below.refl w.heap.size w).alloc (Nat.le_refl _) (.cells #[.slice (some ⟨G1, 0, none⟩) n c1, .slice (some ⟨G2, 0, none⟩) m c2] 28)))
  have HH := Lib.hid (h.below ((Below.refl _ _).alloc (Nat.le_refl _) (.cells #[.slice (some ⟨G1, 0, none⟩) n c1, .slice (some ⟨G2, 0, none⟩) m c2] 28)))
  have HX := Lib.hid (Has.new w 28 #[.slice (some ⟨G1, 0, none⟩) n c1, .slice (some ⟨G2, 0, none⟩) m c2])
  have hbn : G1 < w.heap.size ∧ G2 < w.heap.size := ⟨h.cs.lt, h.ps.lt⟩
  have hne : ¬ G1 = G2 := h.ne
  have hne' : ¬ G2 = G1 := fun e => h.ne e.symm
  have HN := Lib.hid hn
  have HM := Lib.hid hm
  have hp' : p < l.ps.length := by rw [hm]; exact hp
  have hd' : d < l.cs.length := by rw [hn]; exact hd
  have hs' : s < l.cs.length := by rw [hn]; exact hs
  have hc' : c < l.cs.length := by rw [hn]; exact hc
  have hx' : x < l.cs.length := by rw [hn]; exact hx
  have p0 : (0 : Int) ≤ (p : Int) := by omega
  have p1 : (p : Int) < (m : Int) := by omega
  have r0 : (0 : Int) ≤ (d : Int) := by omega
  have r1 : (d : Int) < (n : Int) := by omega
  have q0 : (0 : Int) ≤ (s : Int) := by omega
  have q1 : (s : Int) < (n : Int) := by omega
  have t0 : (0 : Int) ≤ (c : Int) := by omega
  have t1 : (c : Int) < (n : Int) := by omega
  have u0 : (0 : Int) ≤ (x : Int) := by omega
  have u1 : (x : Int) < (n : Int) := by omega
  have HXD := Lib.hid hxd
  have HXS := Lib.hid hxs
  have HXC := Lib.hid hxc
  have HXX := Lib.hid hxx
  have HPH := Lib.hid hph
  obtain ⟨O, hO⟩ : ∃ O, O = stepV l p := ⟨_, rfl⟩
  rw [← hO] at HE ⊢
  clear h hn hm hxd hxs hxc hxx hph hO
  go_enter Tryz.func107, Tryz.ntmps107
  go_upto_region 1 with fail
  generalize w.alloc (.cells #[.slice (some ⟨G1, 0, none⟩) n c1, .slice (some ⟨G2, 0, none⟩) m c2] 28) = W at *
  obtain ⟨B, hB⟩ : ∃ B, B = w.heap.size := ⟨_, rfl⟩
  rw [← hB] at HX hbn ⊢
  clear hB
  have x0 := HX.out.cell 0
  have x1 := HX.out.cell 1
  obtain ⟨z1, z2⟩ := HH.out.fz
  obtain ⟨a1, a2, a3, a4, a5, a6, a7⟩ := HH.out.proc hp'
  rw [HXC.out] at a2
  go_quiet (fail)
  clear z1 z2 a1 a2 a3 a4 a5 a6 a7
  have hqb := below_drw (Below.refl W.heap.size W) nq
  have HHQ := Lib.hid (HH.out.below hqb)
  have HKQ := Lib.hid (HK.out.add hqb)
  have HXQ := Lib.hid (HX.out.below hqb)
  clear x0 x1 hqb HH HK HX
  generalize W.drewN nq = V at *
  have x0 := HXQ.out.cell 0
  have x1 := HXQ.out.cell 1
  obtain ⟨z1, z2⟩ := HHQ.out.fz
  obtain ⟨a1, a2, a3, a4, a5, a6, a7⟩ := HHQ.out.proc hp'
  rw [HPH.out] at a3
  rw [HXD.out] at a4
  rw [HXS.out] at a5
  rw [HXX.out] at a6
  rw [HXC.out] at a2
  obtain ⟨-, b2, b3, -, b5⟩ := HHQ.out.cell hd'
  obtain ⟨-, e2, e3, -, e5⟩ := HHQ.out.cell hs'
  obtain ⟨-, f2, f3, -, f5⟩ := HHQ.out.cell hc'
  obtain ⟨-, g2, g3, -, g5⟩ := HHQ.out.cell hx'
  go_upto_region 13 with fail
  go_region
  clear x0 x1 z1 z2 a1 a2 a3 a4 a5 a6 a7 b2 b3 b5 e2 e3 e5 f2 f3 f5 g2 g3 g5
  have HHR := Lib.hid (MemL.drew ((HHQ.out.initC hs').upC hs' 1 (by decide) (.int .i64 (c : Int)) { l.at_ s with left := (c : Int) } rfl))
  have HKR := Lib.hid (Chg.drew (HKQ.out.set1 (s * 5 + 1) (.int .i64 (c : Int))))
  generalize World.drew _ = V2 at *
  obtain ⟨z1, z2⟩ := HHR.out.fz
  obtain ⟨a1, a2, a3, a4, a5, a6, a7⟩ := HHR.out.proc hp'
  go_wp2_with fail
  clear z1 z2 a1 a2 a3 a4 a5 a6 a7
  go_end0
  refine ⟨rfl, ?_, (HKR.out.set2 _ _).set2 _ _⟩
  rw [HE.out]
  exact MemL.up (HHR.out.setP hp' 6 (by decide) (.bool true) { l.pr p with res := true } rfl) hp' 2 (by decide) (.int .i64 13) { l.pr p with res := true, phase := 13 } rfl
set_option maxRecDepth 100000 in
set_option maxHeartbeats 1600000 in
theorem rchg_10 (l : Ls) (n m p d s c x base G1 G2 c1 c2 : Nat) (w : World) (hn : l.cs.length = n) (hm : l.ps.length = m) (h : MemL w base G1 G2 c1 c2 l) (hp : p < m) (hd : d < n) (hs : s < n) (hc : c < n) (hx : x < n) (_m8 : m ≤ 8) (_n66 : n ≤ 66) (hxd : (l.pr p).pred = (d : Int)) (hxs : (l.pr p).succ = (s : Int)) (hxc : (l.pr p).cell = (c : Int)) (hxx : (l.pr p).next = (x : Int)) (hph : (l.pr p).phase = 10) :
    Calls Tryz.prog 107 #[.agg #[.slice (some ⟨G1, 0, none⟩) n c1, .slice (some ⟨G2, 0, none⟩) m c2], .pointer (some ⟨G2, p * 7, none⟩)] w (StP ((stepV l p).getD l) base G1 G2 c1 c2 (.tuple #[]) w) := by
  have HE := Lib.hid (step_10 hph hxc)
  have HK : Hid (Chg G1 G2 w _) := Lib.hid (Chg.of ((Below.refl w.heap.size w).alloc (Nat.le_refl _) (.cells #[.slice (some ⟨G1, 0, none⟩) n c1, .slice (some ⟨G2, 0, none⟩) m c2] 28)))
  have HH := Lib.hid (h.below ((Below.refl _ _).alloc (Nat.le_refl _) (.cells #[.slice (some ⟨G1, 0, none⟩) n c1, .slice (some ⟨G2, 0, none⟩) m c2] 28)))
  have HX := Lib.hid (Has.new w 28 #[.slice (some ⟨G1, 0, none⟩) n c1, .slice (some ⟨G2, 0, none⟩) m c2])
  have hbn : G1 < w.heap.size ∧ G2 < w.heap.size := ⟨h.cs.lt, h.ps.lt⟩
  have hne : ¬ G1 = G2 := h.ne
  have hne' : ¬ G2 = G1 := fun e => h.ne e.symm
  have HN := Lib.hid hn
  have HM := Lib.hid hm
  have hp' : p < l.ps.length := by rw [hm]; exact hp
  have hd' : d < l.cs.length := by rw [hn]; exact hd
  have hs' : s < l.cs.length := by rw [hn]; exact hs
  have hc' : c < l.cs.length := by rw [hn]; exact hc
  have hx' : x < l.cs.length := by rw [hn]; exact hx
  have p0 : (0 : Int) ≤ (p : Int) := by omega
  have p1 : (p : Int) < (m : Int) := by omega
  have r0 : (0 : Int) ≤ (d : Int) := by omega
  have r1 : (d : Int) < (n : Int) := by omega
  have q0 : (0 : Int) ≤ (s : Int) := by omega
  have q1 : (s : Int) < (n : Int) := by omega
  have t0 : (0 : Int) ≤ (c : Int) := by omega
  have t1 : (c : Int) < (n : Int) := by omega
  have u0 : (0 : Int) ≤ (x : Int) := by omega
  have u1 : (x : Int) < (n : Int) := by omega
  have HXD := Lib.hid hxd
  have HXS := Lib.hid hxs
  have HXC := Lib.hid hxc
  have HXX := Lib.hid hxx
  have HPH := Lib.hid hph
  obtain ⟨O, hO⟩ : ∃ O, O = stepV l p := ⟨_, rfl⟩
  rw [← hO] at HE ⊢
  clear h hn hm hxd hxs hxc hxx hph hO
  go_enter Tryz.func107, Tryz.ntmps107
  go_upto_region 1 with fail
  generalize w.alloc (.cells #[.slice (some ⟨G1, 0, none⟩) n c1, .slice (some ⟨G2, 0, none⟩) m c2] 28) = W at *
  obtain ⟨B, hB⟩ : ∃ B, B = w.heap.size := ⟨_, rfl⟩
  rw [← hB] at HX hbn ⊢
  clear hB
  have x0 := HX.out.cell 0
  have x1 := HX.out.cell 1
  obtain ⟨z1, z2⟩ := HH.out.fz
  obtain ⟨a1, a2, a3, a4, a5, a6, a7⟩ := HH.out.proc hp'
  rw [HXC.out] at a2
  go_quiet (fail)
  clear z1 z2 a1 a2 a3 a4 a5 a6 a7
  have hqb := below_drw (Below.refl W.heap.size W) nq
  have HHQ := Lib.hid (HH.out.below hqb)
  have HKQ := Lib.hid (HK.out.add hqb)
  have HXQ := Lib.hid (HX.out.below hqb)
  clear x0 x1 hqb HH HK HX
  generalize W.drewN nq = V at *
  have x0 := HXQ.out.cell 0
  have x1 := HXQ.out.cell 1
  obtain ⟨z1, z2⟩ := HHQ.out.fz
  obtain ⟨a1, a2, a3, a4, a5, a6, a7⟩ := HHQ.out.proc hp'
  rw [HPH.out] at a3
  rw [HXD.out] at a4
  rw [HXS.out] at a5
  rw [HXX.out] at a6
  rw [HXC.out] at a2
  obtain ⟨-, b2, b3, -, b5⟩ := HHQ.out.cell hd'
  obtain ⟨-, e2, e3, -, e5⟩ := HHQ.out.cell hs'
  obtain ⟨-, f2, f3, -, f5⟩ := HHQ.out.cell hc'
  obtain ⟨-, g2, g3, -, g5⟩ := HHQ.out.cell hx'
  go_wp2_with fail
  clear x0 x1 z1 z2 a1 a2 a3 a4 a5 a6 a7 b2 b3 b5 e2 e3 e5 f2 f3 f5 g2 g3 g5
  go_end0
  refine ⟨rfl, ?_, (HKQ.out.set1 _ _).set2 _ _⟩
  rw [HE.out]
  exact ((HHQ.out.initC hc').upC hc' 4 (by decide) (.bool true) { l.at_ c with gone := true } rfl).setP hp' 2 (by decide) (.int .i64 11) { l.pr p with phase := 11 } rfl
set_option maxRecDepth 100000 in
set_option maxHeartbeats 3200000 in
theorem rchg_11 (l : Ls) (n m p d s c x base G1 G2 c1 c2 : Nat) (w : World) (hn : l.cs.length = n) (hm : l.ps.length = m) (h : MemL w base G1 G2 c1 c2 l) (hp : p < m) (hd : d < n) (hs : s < n) (hc : c < n) (hx : x < n) (_m8 : m ≤ 8) (_n66 : n ≤ 66) (hxd : (l.pr p).pred = (d : Int)) (hxs : (l.pr p).succ = (s : Int)) (hxc : (l.pr p).cell = (c : Int)) (hxx : (l.pr p).next = (x : Int)) (hph : (l.pr p).phase = 11) :
    Calls Tryz.prog 107 #[.agg #[.slice (some ⟨G1, 0, none⟩) n c1, .slice (some ⟨G2, 0, none⟩) m c2], .pointer (some ⟨G2, p * 7, none⟩)] w (StP ((stepV l p).getD l) base G1 G2 c1 c2 (.tuple #[]) w) := by
  have HE := Lib.hid (step_11 hph hxd hxx)
  have HK : Hid (Chg G1 G2 w _) := Lib.hid (Chg.of ((Below.refl w.heap.size w).alloc (Nat.le_refl _) (.cells #[.slice (some ⟨G1, 0, none⟩) n c1, .slice (some ⟨G2, 0, none⟩) m c2] 28)))
  have HH := Lib.hid (h.below ((Below.refl _ _).alloc (Nat.le_refl _) (.cells #[.slice (some ⟨G1, 0, none⟩) n c1, .slice (some ⟨G2, 0, none⟩) m c2] 28)))
  have HX := Lib.hid (Has.new w 28 #[.slice (some ⟨G1, 0, none⟩) n c1, .slice (some ⟨G2, 0, none⟩) m c2])
  have hbn : G1 < w.heap.size ∧ G2 < w.heap.size := ⟨h.cs.lt, h.ps.lt⟩
  have hne : ¬ G1 = G2 := h.ne
  have hne' : ¬ G2 = G1 := fun e => h.ne e.symm
  have HN := Lib.hid hn
  have HM := Lib.hid hm
  have hp' : p < l.ps.length := by rw [hm]; exact hp
  have hd' : d < l.cs.length := by rw [hn]; exact hd
  have hs' : s < l.cs.length := by rw [hn]; exact hs
  have hc' : c < l.cs.length := by rw [hn]; exact hc
  have hx' : x < l.cs.length := by rw [hn]; exact hx
  have p0 : (0 : Int) ≤ (p : Int) := by omega
  have p1 : (p : Int) < (m : Int) := by omega
  have r0 : (0 : Int) ≤ (d : Int) := by omega
  have r1 : (d : Int) < (n : Int) := by omega
  have q0 : (0 : Int) ≤ (s : Int) := by omega
  have q1 : (s : Int) < (n : Int) := by omega
  have t0 : (0 : Int) ≤ (c : Int) := by omega
  have t1 : (c : Int) < (n : Int) := by omega
  have u0 : (0 : Int) ≤ (x : Int) := by omega
  have u1 : (x : Int) < (n : Int) := by omega
  have HXD := Lib.hid hxd
  have HXS := Lib.hid hxs
  have HXC := Lib.hid hxc
  have HXX := Lib.hid hxx
  have HPH := Lib.hid hph
  obtain ⟨O, hO⟩ : ∃ O, O = stepV l p := ⟨_, rfl⟩
  rw [← hO] at HE ⊢
  clear h hn hm hxd hxs hxc hxx hph hO
  go_enter Tryz.func107, Tryz.ntmps107
  go_upto_region 1 with fail
  generalize w.alloc (.cells #[.slice (some ⟨G1, 0, none⟩) n c1, .slice (some ⟨G2, 0, none⟩) m c2] 28) = W at *
  obtain ⟨B, hB⟩ : ∃ B, B = w.heap.size := ⟨_, rfl⟩
  rw [← hB] at HX hbn ⊢
  clear hB
  have x0 := HX.out.cell 0
  have x1 := HX.out.cell 1
  obtain ⟨z1, z2⟩ := HH.out.fz
  obtain ⟨a1, a2, a3, a4, a5, a6, a7⟩ := HH.out.proc hp'
  rw [HXC.out] at a2
  go_quiet (fail)
  clear z1 z2 a1 a2 a3 a4 a5 a6 a7
  have hqb := below_drw (Below.refl W.heap.size W) nq
  have HHQ := Lib.hid (HH.out.below hqb)
  have HKQ := Lib.hid (HK.out.add hqb)
  have HXQ := Lib.hid (HX.out.below hqb)
  clear x0 x1 hqb HH HK HX
  generalize W.drewN nq = V at *
  have x0 := HXQ.out.cell 0
  have x1 := HXQ.out.cell 1
  obtain ⟨z1, z2⟩ := HHQ.out.fz
  obtain ⟨a1, a2, a3, a4, a5, a6, a7⟩ := HHQ.out.proc hp'
  rw [HPH.out] at a3
  rw [HXD.out] at a4
  rw [HXS.out] at a5
  rw [HXX.out] at a6
  rw [HXC.out] at a2
  obtain ⟨-, b2, b3, -, b5⟩ := HHQ.out.cell hd'
  obtain ⟨-, e2, e3, -, e5⟩ := HHQ.out.cell hs'
  obtain ⟨-, f2, f3, -, f5⟩ := HHQ.out.cell hc'
  obtain ⟨-, g2, g3, -, g5⟩ := HHQ.out.cell hx'
  go_upto_region 19 with fail
  go_region
  clear x0 x1 z1 z2 a1 a2 a3 a4 a5 a6 a7 b2 b3 b5 e2 e3 e5 f2 f3 f5 g2 g3 g5
  have HHR := Lib.hid (MemL.drew ((HHQ.out.initC hd').upC hd' 2 (by decide) (.int .i64 (x : Int)) { l.at_ d with right := (x : Int) } rfl))
  have HKR := Lib.hid (Chg.drew (HKQ.out.set1 (d * 5 + 2) (.int .i64 (x : Int))))
  generalize World.drew _ = V2 at *
  obtain ⟨z1, z2⟩ := HHR.out.fz
  obtain ⟨a1, a2, a3, a4, a5, a6, a7⟩ := HHR.out.proc hp'
  go_wp2_with fail
  clear z1 z2 a1 a2 a3 a4 a5 a6 a7
  go_end0
  refine ⟨rfl, ?_, HKR.out.set2 _ _⟩
  rw [HE.out]
  exact HHR.out.setP hp' 2 (by decide) (.int .i64 12) { l.pr p with phase := 12 } rfl
set_option maxRecDepth 100000 in
set_option maxHeartbeats 3200000 in
theorem rchg_12 (l : Ls) (n m p d s c x base G1 G2 c1 c2 : Nat) (w : World) (hn : l.cs.length = n) (hm : l.ps.length = m) (h : MemL w base G1 G2 c1 c2 l) (hp : p < m) (hd : d < n) (hs : s < n) (hc : c < n) (hx : x < n) (_m8 : m ≤ 8) (_n66 : n ≤ 66) (hxd : (l.pr p).pred = (d : Int)) (hxs : (l.pr p).succ = (s : Int)) (hxc : (l.pr p).cell = (c : Int)) (hxx : (l.pr p).next = (x : Int)) (hph : (l.pr p).phase = 12) :
    Calls Tryz.prog 107 #[.agg #[.slice (some ⟨G1, 0, none⟩) n c1, .slice (some ⟨G2, 0, none⟩) m c2], .pointer (some ⟨G2, p * 7, none⟩)] w (StP ((stepV l p).getD l) base G1 G2 c1 c2 (.tuple #[]) w) := by
  have HE := Lib.hid (step_12 hph hxd hxx)
  have HK : Hid (Chg G1 G2 w _) := Lib.hid (Chg.of ((Below.refl w.heap.size w).alloc (Nat.le_refl _) (.cells #[.slice (some ⟨G1, 0, none⟩) n c1, .slice (some ⟨G2, 0, none⟩) m c2] 28)))
  have HH := Lib.hid (h.below ((Below.refl _ _).alloc (Nat.le_refl _) (.cells #[.slice (some ⟨G1, 0, none⟩) n c1, .slice (some ⟨G2, 0, none⟩) m c2] 28)))
  have HX := Lib.hid (Has.new w 28 #[.slice (some ⟨G1, 0, none⟩) n c1, .slice (some ⟨G2, 0, none⟩) m c2])
  have hbn : G1 < w.heap.size ∧ G2 < w.heap.size := ⟨h.cs.lt, h.ps.lt⟩
  have hne : ¬ G1 = G2 := h.ne
  have hne' : ¬ G2 = G1 := fun e => h.ne e.symm
  have HN := Lib.hid hn
  have HM := Lib.hid hm
  have hp' : p < l.ps.length := by rw [hm]; exact hp
  have hd' : d < l.cs.length := by rw [hn]; exact hd
  have hs' : s < l.cs.length := by rw [hn]; exact hs
  have hc' : c < l.cs.length := by rw [hn]; exact hc
  have hx' : x < l.cs.length := by rw [hn]; exact hx
  have p0 : (0 : Int) ≤ (p : Int) := by omega
  have p1 : (p : Int) < (m : Int) := by omega
  have r0 : (0 : Int) ≤ (d : Int) := by omega
  have r1 : (d : Int) < (n : Int) := by omega
  have q0 : (0 : Int) ≤ (s : Int) := by omega
  have q1 : (s : Int) < (n : Int) := by omega
  have t0 : (0 : Int) ≤ (c : Int) := by omega
  have t1 : (c : Int) < (n : Int) := by omega
  have u0 : (0 : Int) ≤ (x : Int) := by omega
  have u1 : (x : Int) < (n : Int) := by omega
  have HXD := Lib.hid hxd
  have HXS := Lib.hid hxs
  have HXC := Lib.hid hxc
  have HXX := Lib.hid hxx
  have HPH := Lib.hid hph
  obtain ⟨O, hO⟩ : ∃ O, O = stepV l p := ⟨_, rfl⟩
  rw [← hO] at HE ⊢
  clear h hn hm hxd hxs hxc hxx hph hO
  go_enter Tryz.func107, Tryz.ntmps107
  go_upto_region 1 with fail
  generalize w.alloc (.cells #[.slice (some ⟨G1, 0, none⟩) n c1, .slice (some ⟨G2, 0, none⟩) m c2] 28) = W at *
  obtain ⟨B, hB⟩ : ∃ B, B = w.heap.size := ⟨_, rfl⟩
  rw [← hB] at HX hbn ⊢
  clear hB
  have x0 := HX.out.cell 0
  have x1 := HX.out.cell 1
  obtain ⟨z1, z2⟩ := HH.out.fz
  obtain ⟨a1, a2, a3, a4, a5, a6, a7⟩ := HH.out.proc hp'
  rw [HXC.out] at a2
  go_quiet (fail)
  clear z1 z2 a1 a2 a3 a4 a5 a6 a7
  have hqb := below_drw (Below.refl W.heap.size W) nq
  have HHQ := Lib.hid (HH.out.below hqb)
  have HKQ := Lib.hid (HK.out.add hqb)
  have HXQ := Lib.hid (HX.out.below hqb)
  clear x0 x1 hqb HH HK HX
  generalize W.drewN nq = V at *
  have x0 := HXQ.out.cell 0
  have x1 := HXQ.out.cell 1
  obtain ⟨z1, z2⟩ := HHQ.out.fz
  obtain ⟨a1, a2, a3, a4, a5, a6, a7⟩ := HHQ.out.proc hp'
  rw [HPH.out] at a3
  rw [HXD.out] at a4
  rw [HXS.out] at a5
  rw [HXX.out] at a6
  rw [HXC.out] at a2
  obtain ⟨-, b2, b3, -, b5⟩ := HHQ.out.cell hd'
  obtain ⟨-, e2, e3, -, e5⟩ := HHQ.out.cell hs'
  obtain ⟨-, f2, f3, -, f5⟩ := HHQ.out.cell hc'
  obtain ⟨-, g2, g3, -, g5⟩ := HHQ.out.cell hx'
  go_upto_region 3 with fail
  go_region
  clear x0 x1 z1 z2 a1 a2 a3 a4 a5 a6 a7 b2 b3 b5 e2 e3 e5 f2 f3 f5 g2 g3 g5
  have HHR := Lib.hid (MemL.drew ((HHQ.out.initC hx').upC hx' 1 (by decide) (.int .i64 (d : Int)) { l.at_ x with left := (d : Int) } rfl))
  have HKR := Lib.hid (Chg.drew (HKQ.out.set1 (x * 5 + 1) (.int .i64 (d : Int))))
  generalize World.drew _ = V2 at *
  obtain ⟨z1, z2⟩ := HHR.out.fz
  obtain ⟨a1, a2, a3, a4, a5, a6, a7⟩ := HHR.out.proc hp'
  go_wp2_with fail
  clear z1 z2 a1 a2 a3 a4 a5 a6 a7
  go_end0
  refine ⟨rfl, ?_, (HKR.out.set2 _ _).set2 _ _⟩
  rw [HE.out]
  exact MemL.up (HHR.out.setP hp' 6 (by decide) (.bool true) { l.pr p with res := true } rfl) hp' 2 (by decide) (.int .i64 13) { l.pr p with res := true, phase := 13 } rfl
end Lk
end Go.Proofs.YtmhbloefmknikaaGreatDoor
