/-
  step of the reference of chapter 12, in place, but for finding and marking. Conditions: the list may be changed in place.
-/
import Derived.Test.YtmhbloefmknikaaGreatDoorOeD
namespace Go.Proofs.YtmhbloefmknikaaGreatDoor
open Go.RowKit Go.Maps
namespace Lf
open Lk
set_option maxRecDepth 100000 in
set_option maxHeartbeats 3200000 in
theorem rstF_14 (l : Ls) (n m p d s c x base G1 G2 c1 c2 : Nat) (w : World) (hn : l.cs.length = n) (hm : l.ps.length = m) (h : MemL w base G1 G2 c1 c2 l) (hp : p < m) (hd : d < n) (hs : s < n) (hc : c < n) (hx : x < n) (hxd : (l.pr p).pred = (d : Int)) (hxs : (l.pr p).succ = (s : Int)) (hxc : (l.pr p).cell = (c : Int)) (hxx : (l.pr p).next = (x : Int)) (hph : (l.pr p).phase = 14) :
    Calls Tryz.prog 80 #[.agg #[.slice (some ⟨G1, 0, none⟩) n c1, .slice (some ⟨G2, 0, none⟩) m c2], .pointer (some ⟨G2, p * 7, none⟩)] w (StP ((stepV l p).getD l) base G1 G2 c1 c2 (.tuple #[]) w) := by
  have hp' : p < l.ps.length := by rw [hm]; exact hp
  have hd' : d < l.cs.length := by rw [hn]; exact hd
  have hs' : s < l.cs.length := by rw [hn]; exact hs
  have hc' : c < l.cs.length := by rw [hn]; exact hc
  have hx' : x < l.cs.length := by rw [hn]; exact hx
  have n0 : 0 < n := by omega
  have r0 : (0 : Int) ≤ (d : Int) := by omega
  have r1 : (d : Int) < (n : Int) := by omega
  have t0 : (0 : Int) ≤ (c : Int) := by omega
  have t1 : (c : Int) < (n : Int) := by omega
  have HN := Lib.hid hn
  have HM := Lib.hid hm
  have HK : Hid (Chg G1 G2 w _) := Lib.hid (Chg.of ((Below.refl w.heap.size w).alloc (Nat.le_refl _) (.cells #[.slice (some ⟨G1, 0, none⟩) n c1, .slice (some ⟨G2, 0, none⟩) m c2] 28)))
  have HH := Lib.hid (h.below ((Below.refl _ _).alloc (Nat.le_refl _) (.cells #[.slice (some ⟨G1, 0, none⟩) n c1, .slice (some ⟨G2, 0, none⟩) m c2] 28)))
  have HX := Lib.hid (Has.new w 28 #[.slice (some ⟨G1, 0, none⟩) n c1, .slice (some ⟨G2, 0, none⟩) m c2])
  have hbn : G1 < w.heap.size ∧ G2 < w.heap.size := ⟨h.cs.lt, h.ps.lt⟩
  have HXD := Lib.hid hxd
  have HXS := Lib.hid hxs
  have HXC := Lib.hid hxc
  have HXX := Lib.hid hxx
  have HPH := Lib.hid hph
  have hne : ¬ G1 = G2 := h.ne
  have hne' : ¬ G2 = G1 := fun e => h.ne e.symm
  obtain ⟨O, hO⟩ : ∃ O, O = stepV l p := ⟨_, rfl⟩
  have HY : Hid (okI l d (s : Int) → O = some ((l.setC d { l.at_ d with right := (x : Int), gone := false }).setP p { l.pr p with succ := (x : Int), phase := 1 })) := Lib.hid (fun q => by
    rw [hO]; unfold stepV
    simp only [hph, hxd, hxs, hxc, hxx, Int.toNat_natCast]
    rw [gone_same q]
    simp [q])
  have HNO : Hid (¬ okI l d (s : Int) → O = some (agnV l p)) := Lib.hid (fun q => by
    rw [hO]; unfold stepV
    simp only [hph, hxd, hxs, hxc, hxx, Int.toNat_natCast]
    simp [q])
  rw [← hO]
  clear h hn hm hxd hxs hxc hxx hph hO
  go_enter Tryz.func80, Tryz.ntmps80
  go_upto_region 1 with fail
  generalize w.alloc (.cells #[.slice (some ⟨G1, 0, none⟩) n c1, .slice (some ⟨G2, 0, none⟩) m c2] 28) = W at *
  obtain ⟨B, hB⟩ : ∃ B, B = w.heap.size := ⟨_, rfl⟩
  rw [← hB] at HX hbn ⊢
  clear hB
  have x0 := HX.out.cell 0
  have x1 := HX.out.cell 1
  have hX1 : ¬ B = G1 := by omega
  have hX2 : ¬ B = G2 := by omega
  obtain ⟨z1, z2⟩ := HH.out.fz
  obtain ⟨a1, a2, a3, a4, a5, a6, a7⟩ := HH.out.proc hp'
  rw [HPH.out] at a3
  rw [HXD.out] at a4
  rw [HXS.out] at a5
  rw [HXX.out] at a6
  rw [HXC.out] at a2
  have HF := Lib.hid (fun (V : World) (l1 : Ls) (e1 : l1.ps = l.ps) (k : MemL V base G1 G2 c1 c2 l1) => four k e1 hp' HXD.out HXS.out HXC.out HXX.out)
  have HBD : Hid (Below W.heap.size W W.drew) := Lib.hid (Below.refl _ _).drew
  have hS0 := HF.out W.drew l rfl (HH.out.below HBD.out)
  have hS1 := (⟨(HX.out.below HBD.out).cell 0, (HX.out.below HBD.out).cell 1, hS0⟩ : W.drew.cell? ⟨B, 0, none⟩ = some (.slice (some ⟨G1, 0, none⟩) n c1) ∧ W.drew.cell? ⟨B, 1, none⟩ = some (.slice (some ⟨G2, 0, none⟩) m c2) ∧ W.drew.cell? ⟨G2, p * 7 + 3, none⟩ = some (.int .i64 (d : Int)) ∧ W.drew.cell? ⟨G2, p * 7 + 4, none⟩ = some (.int .i64 (s : Int)) ∧ W.drew.cell? ⟨G2, p * 7 + 5, none⟩ = some (.int .i64 (x : Int)) ∧ W.drew.cell? ⟨G2, p * 7 + 1, none⟩ = some (.int .i64 (c : Int)))
  have HC := Lib.hid (fun (V : World) (k : Below W.heap.size W V) => rswapF_any l n m d base G1 G2 c1 c2 (s : Int) (x : Int) V HN.out (HH.out.below k) hd)
  go_upto_region 5 with fail
  clear a1 a2 a3 a4 a5 a6 a7 z1 z2
  have x2 := hS0.2.2.1
  have x3 := hS0.2.2.2
  by_cases q : okI l d (s : Int)
  · have HE := Lib.hid (HY.out q)
    have HCS := Lib.hid (chg_some (r := (x : Int)) (g := false) q)
    clear HY HNO q
    go_region_held3 (fun V => V.cell? ⟨B, 0, none⟩ = some (.slice (some ⟨G1, 0, none⟩) n c1) ∧ V.cell? ⟨B, 1, none⟩ = some (.slice (some ⟨G2, 0, none⟩) m c2) ∧ V.cell? ⟨G2, p * 7 + 3, none⟩ = some (.int .i64 (d : Int)) ∧ V.cell? ⟨G2, p * 7 + 4, none⟩ = some (.int .i64 (s : Int)) ∧ V.cell? ⟨G2, p * 7 + 5, none⟩ = some (.int .i64 (x : Int)) ∧ V.cell? ⟨G2, p * 7 + 1, none⟩ = some (.int .i64 (c : Int))) (first | with_reducible exact hS7 | with_reducible exact hS1) ((go_at_call 122; refine (HC.out _ HBD.out).mono ?_; rw [HCS.out]; rintro e w7 ⟨rfl, hm7, hb7⟩; have hX7 : Has w7 B 28 #[.slice (some ⟨G1, 0, none⟩) n c1, .slice (some ⟨G2, 0, none⟩) m c2] := (hb7.block B (HX.out.below HBD.out).lt hX1 hX2).trans (HX.out.below HBD.out); have hS7 := (⟨hX7.cell 0, hX7.cell 1, HF.out w7 (l.setC d { l.at_ d with right := (x : Int), gone := false }) rfl hm7⟩ : w7.cell? ⟨B, 0, none⟩ = some (.slice (some ⟨G1, 0, none⟩) n c1) ∧ w7.cell? ⟨B, 1, none⟩ = some (.slice (some ⟨G2, 0, none⟩) m c2) ∧ w7.cell? ⟨G2, p * 7 + 3, none⟩ = some (.int .i64 (d : Int)) ∧ w7.cell? ⟨G2, p * 7 + 4, none⟩ = some (.int .i64 (s : Int)) ∧ w7.cell? ⟨G2, p * 7 + 5, none⟩ = some (.int .i64 (x : Int)) ∧ w7.cell? ⟨G2, p * 7 + 1, none⟩ = some (.int .i64 (c : Int)))))
    have HM7 : Hid (MemL w7 base G1 G2 c1 c2 (l.setC d { l.at_ d with right := (x : Int), gone := false })) := Lib.hid hm7
    have HK7 := Lib.hid ((HK.out.trans (Chg.of HBD.out)).trans hb7)
    have HX7 := Lib.hid hX7
    clear x0 x1 x2 x3 hS0 hS1 hS7 hm7 hb7 hX7 HC HF HH HK HCS
    have hpl : p < (l.setC d { l.at_ d with right := (x : Int), gone := false }).ps.length := hp'
    obtain ⟨z1, z2⟩ := HM7.out.fz
    obtain ⟨a1, a2, a3, a4, a5, a6, a7⟩ := HM7.out.proc hpl
    rw [show (l.setC d { l.at_ d with right := (x : Int), gone := false }).pr p = l.pr p from rfl, HXX.out] at a6
    have HI := HM7.out.init hpl
    rw [show (l.setC d { l.at_ d with right := (x : Int), gone := false }).pr p = l.pr p from rfl] at HI
    go_wp2_with fail
    clear z1 z2 a1 a2 a3 a4 a5 a6 a7
    go_end0
    refine ⟨rfl, ?_, ((HK7.out.set2 _ _).set2 _ _)⟩
    rw [HE.out]
    exact ((HI.up (l := l.setC d { l.at_ d with right := (x : Int), gone := false }) hpl 4 (by decide) (.int .i64 (x : Int)) { l.pr p with succ := (x : Int) } rfl).up (l := l.setC d { l.at_ d with right := (x : Int), gone := false }) hpl 2 (by decide) (.int .i64 1) { l.pr p with succ := (x : Int), phase := 1 } rfl)
  · have HE := Lib.hid (HNO.out q)
    have HCS := Lib.hid (chg_none (r := (x : Int)) (g := false) q)
    clear HY HNO q
    go_region_held3 (fun V => V.cell? ⟨B, 0, none⟩ = some (.slice (some ⟨G1, 0, none⟩) n c1) ∧ V.cell? ⟨B, 1, none⟩ = some (.slice (some ⟨G2, 0, none⟩) m c2) ∧ V.cell? ⟨G2, p * 7 + 3, none⟩ = some (.int .i64 (d : Int)) ∧ V.cell? ⟨G2, p * 7 + 4, none⟩ = some (.int .i64 (s : Int)) ∧ V.cell? ⟨G2, p * 7 + 5, none⟩ = some (.int .i64 (x : Int)) ∧ V.cell? ⟨G2, p * 7 + 1, none⟩ = some (.int .i64 (c : Int))) (first | with_reducible exact hS7 | with_reducible exact hS1) ((go_at_call 122; refine (HC.out _ HBD.out).mono ?_; rw [HCS.out]; rintro e w7 ⟨rfl, hm7, hb7⟩; have hX7 : Has w7 B 28 #[.slice (some ⟨G1, 0, none⟩) n c1, .slice (some ⟨G2, 0, none⟩) m c2] := (hb7.block B (HX.out.below HBD.out).lt hX1 hX2).trans (HX.out.below HBD.out); have hS7 := (⟨hX7.cell 0, hX7.cell 1, HF.out w7 l rfl hm7⟩ : w7.cell? ⟨B, 0, none⟩ = some (.slice (some ⟨G1, 0, none⟩) n c1) ∧ w7.cell? ⟨B, 1, none⟩ = some (.slice (some ⟨G2, 0, none⟩) m c2) ∧ w7.cell? ⟨G2, p * 7 + 3, none⟩ = some (.int .i64 (d : Int)) ∧ w7.cell? ⟨G2, p * 7 + 4, none⟩ = some (.int .i64 (s : Int)) ∧ w7.cell? ⟨G2, p * 7 + 5, none⟩ = some (.int .i64 (x : Int)) ∧ w7.cell? ⟨G2, p * 7 + 1, none⟩ = some (.int .i64 (c : Int)))))
    have HM7 : Hid (MemL w7 base G1 G2 c1 c2 l) := Lib.hid hm7
    have HK7 := Lib.hid ((HK.out.trans (Chg.of HBD.out)).trans hb7)
    have HX7 := Lib.hid hX7
    clear x0 x1 x2 x3 hS0 hS1 hS7 hm7 hb7 hX7 HC HF HH HK HCS
    have x0 := HX7.out.cell 0
    have x1 := HX7.out.cell 1
    have HL := Lib.hid (ragnF_any l n m p base G1 G2 c1 c2 w7 HN.out HM.out HM7.out hp n0)
    go_wp2_with fail
    refine (HL.out).mono ?_
    rintro e w8 ⟨rfl, hm8, hb8⟩
    have HM8 := Lib.hid hm8
    have HK8 := Lib.hid (HK7.out.trans hb8)
    clear hm8 hb8
    go_wp2_with fail
    go_end0
    exact ⟨rfl, by rw [HE.out]; exact HM8.out, HK8.out⟩
set_option maxRecDepth 100000 in
set_option maxHeartbeats 3200000 in
theorem rstF_15 (l : Ls) (n m p d s c x base G1 G2 c1 c2 : Nat) (w : World) (hn : l.cs.length = n) (hm : l.ps.length = m) (h : MemL w base G1 G2 c1 c2 l) (hp : p < m) (hd : d < n) (hs : s < n) (hc : c < n) (hx : x < n) (hxd : (l.pr p).pred = (d : Int)) (hxs : (l.pr p).succ = (s : Int)) (hxc : (l.pr p).cell = (c : Int)) (hxx : (l.pr p).next = (x : Int)) (hph : (l.pr p).phase = 15) :
    Calls Tryz.prog 80 #[.agg #[.slice (some ⟨G1, 0, none⟩) n c1, .slice (some ⟨G2, 0, none⟩) m c2], .pointer (some ⟨G2, p * 7, none⟩)] w (StP ((stepV l p).getD l) base G1 G2 c1 c2 (.tuple #[]) w) := by
  have hp' : p < l.ps.length := by rw [hm]; exact hp
  have hd' : d < l.cs.length := by rw [hn]; exact hd
  have hs' : s < l.cs.length := by rw [hn]; exact hs
  have hc' : c < l.cs.length := by rw [hn]; exact hc
  have hx' : x < l.cs.length := by rw [hn]; exact hx
  have n0 : 0 < n := by omega
  have r0 : (0 : Int) ≤ (d : Int) := by omega
  have r1 : (d : Int) < (n : Int) := by omega
  have t0 : (0 : Int) ≤ (c : Int) := by omega
  have t1 : (c : Int) < (n : Int) := by omega
  have HN := Lib.hid hn
  have HM := Lib.hid hm
  have HK : Hid (Chg G1 G2 w _) := Lib.hid (Chg.of ((Below.refl w.heap.size w).alloc (Nat.le_refl _) (.cells #[.slice (some ⟨G1, 0, none⟩) n c1, .slice (some ⟨G2, 0, none⟩) m c2] 28)))
  have HH := Lib.hid (h.below ((Below.refl _ _).alloc (Nat.le_refl _) (.cells #[.slice (some ⟨G1, 0, none⟩) n c1, .slice (some ⟨G2, 0, none⟩) m c2] 28)))
  have HX := Lib.hid (Has.new w 28 #[.slice (some ⟨G1, 0, none⟩) n c1, .slice (some ⟨G2, 0, none⟩) m c2])
  have hbn : G1 < w.heap.size ∧ G2 < w.heap.size := ⟨h.cs.lt, h.ps.lt⟩
  have HXD := Lib.hid hxd
  have HXS := Lib.hid hxs
  have HXC := Lib.hid hxc
  have HXX := Lib.hid hxx
  have HPH := Lib.hid hph
  have hne : ¬ G1 = G2 := h.ne
  have hne' : ¬ G2 = G1 := fun e => h.ne e.symm
  obtain ⟨O, hO⟩ : ∃ O, O = stepV l p := ⟨_, rfl⟩
  have HY : Hid (okI l d (s : Int) → O = some ((l.setC d { l.at_ d with right := (c : Int), gone := false }).setP p { l.pr p with res := true, phase := 18 })) := Lib.hid (fun q => by
    rw [hO]; unfold stepV
    simp only [hph, hxd, hxs, hxc, hxx, Int.toNat_natCast]
    rw [gone_same q]
    simp [q])
  have HNO : Hid (¬ okI l d (s : Int) → O = some (agnV l p)) := Lib.hid (fun q => by
    rw [hO]; unfold stepV
    simp only [hph, hxd, hxs, hxc, hxx, Int.toNat_natCast]
    simp [q])
  rw [← hO]
  clear h hn hm hxd hxs hxc hxx hph hO
  go_enter Tryz.func80, Tryz.ntmps80
  go_upto_region 1 with fail
  generalize w.alloc (.cells #[.slice (some ⟨G1, 0, none⟩) n c1, .slice (some ⟨G2, 0, none⟩) m c2] 28) = W at *
  obtain ⟨B, hB⟩ : ∃ B, B = w.heap.size := ⟨_, rfl⟩
  rw [← hB] at HX hbn ⊢
  clear hB
  have x0 := HX.out.cell 0
  have x1 := HX.out.cell 1
  have hX1 : ¬ B = G1 := by omega
  have hX2 : ¬ B = G2 := by omega
  obtain ⟨z1, z2⟩ := HH.out.fz
  obtain ⟨a1, a2, a3, a4, a5, a6, a7⟩ := HH.out.proc hp'
  rw [HPH.out] at a3
  rw [HXD.out] at a4
  rw [HXS.out] at a5
  rw [HXX.out] at a6
  rw [HXC.out] at a2
  have HF := Lib.hid (fun (V : World) (l1 : Ls) (e1 : l1.ps = l.ps) (k : MemL V base G1 G2 c1 c2 l1) => four k e1 hp' HXD.out HXS.out HXC.out HXX.out)
  have HBD : Hid (Below W.heap.size W W.drew) := Lib.hid (Below.refl _ _).drew
  have hS0 := HF.out W.drew l rfl (HH.out.below HBD.out)
  have hS1 := (⟨(HX.out.below HBD.out).cell 0, (HX.out.below HBD.out).cell 1, hS0⟩ : W.drew.cell? ⟨B, 0, none⟩ = some (.slice (some ⟨G1, 0, none⟩) n c1) ∧ W.drew.cell? ⟨B, 1, none⟩ = some (.slice (some ⟨G2, 0, none⟩) m c2) ∧ W.drew.cell? ⟨G2, p * 7 + 3, none⟩ = some (.int .i64 (d : Int)) ∧ W.drew.cell? ⟨G2, p * 7 + 4, none⟩ = some (.int .i64 (s : Int)) ∧ W.drew.cell? ⟨G2, p * 7 + 5, none⟩ = some (.int .i64 (x : Int)) ∧ W.drew.cell? ⟨G2, p * 7 + 1, none⟩ = some (.int .i64 (c : Int)))
  have HC := Lib.hid (fun (V : World) (k : Below W.heap.size W V) => rswapF_any l n m d base G1 G2 c1 c2 (s : Int) (c : Int) V HN.out (HH.out.below k) hd)
  go_upto_region 12 with fail
  clear a1 a2 a3 a4 a5 a6 a7 z1 z2
  have x2 := hS0.2.2.1
  have x3 := hS0.2.2.2
  by_cases q : okI l d (s : Int)
  · have HE := Lib.hid (HY.out q)
    have HCS := Lib.hid (chg_some (r := (c : Int)) (g := false) q)
    clear HY HNO q
    go_region_held3 (fun V => V.cell? ⟨B, 0, none⟩ = some (.slice (some ⟨G1, 0, none⟩) n c1) ∧ V.cell? ⟨B, 1, none⟩ = some (.slice (some ⟨G2, 0, none⟩) m c2) ∧ V.cell? ⟨G2, p * 7 + 3, none⟩ = some (.int .i64 (d : Int)) ∧ V.cell? ⟨G2, p * 7 + 4, none⟩ = some (.int .i64 (s : Int)) ∧ V.cell? ⟨G2, p * 7 + 5, none⟩ = some (.int .i64 (x : Int)) ∧ V.cell? ⟨G2, p * 7 + 1, none⟩ = some (.int .i64 (c : Int))) (first | with_reducible exact hS7 | with_reducible exact hS1) ((go_at_call 122; refine (HC.out _ HBD.out).mono ?_; rw [HCS.out]; rintro e w7 ⟨rfl, hm7, hb7⟩; have hX7 : Has w7 B 28 #[.slice (some ⟨G1, 0, none⟩) n c1, .slice (some ⟨G2, 0, none⟩) m c2] := (hb7.block B (HX.out.below HBD.out).lt hX1 hX2).trans (HX.out.below HBD.out); have hS7 := (⟨hX7.cell 0, hX7.cell 1, HF.out w7 (l.setC d { l.at_ d with right := (c : Int), gone := false }) rfl hm7⟩ : w7.cell? ⟨B, 0, none⟩ = some (.slice (some ⟨G1, 0, none⟩) n c1) ∧ w7.cell? ⟨B, 1, none⟩ = some (.slice (some ⟨G2, 0, none⟩) m c2) ∧ w7.cell? ⟨G2, p * 7 + 3, none⟩ = some (.int .i64 (d : Int)) ∧ w7.cell? ⟨G2, p * 7 + 4, none⟩ = some (.int .i64 (s : Int)) ∧ w7.cell? ⟨G2, p * 7 + 5, none⟩ = some (.int .i64 (x : Int)) ∧ w7.cell? ⟨G2, p * 7 + 1, none⟩ = some (.int .i64 (c : Int)))))
    have HM7 : Hid (MemL w7 base G1 G2 c1 c2 (l.setC d { l.at_ d with right := (c : Int), gone := false })) := Lib.hid hm7
    have HK7 := Lib.hid ((HK.out.trans (Chg.of HBD.out)).trans hb7)
    have HX7 := Lib.hid hX7
    clear x0 x1 x2 x3 hS0 hS1 hS7 hm7 hb7 hX7 HC HF HH HK HCS
    have hpl : p < (l.setC d { l.at_ d with right := (c : Int), gone := false }).ps.length := hp'
    obtain ⟨z1, z2⟩ := HM7.out.fz
    obtain ⟨a1, a2, a3, a4, a5, a6, a7⟩ := HM7.out.proc hpl
    rw [show (l.setC d { l.at_ d with right := (c : Int), gone := false }).pr p = l.pr p from rfl, HXX.out] at a6
    have HI := HM7.out.init hpl
    rw [show (l.setC d { l.at_ d with right := (c : Int), gone := false }).pr p = l.pr p from rfl] at HI
    go_wp2_with fail
    clear z1 z2 a1 a2 a3 a4 a5 a6 a7
    go_end0
    refine ⟨rfl, ?_, ((HK7.out.set2 _ _).set2 _ _)⟩
    rw [HE.out]
    exact ((HI.up (l := l.setC d { l.at_ d with right := (c : Int), gone := false }) hpl 6 (by decide) (.bool true) { l.pr p with res := true } rfl).up (l := l.setC d { l.at_ d with right := (c : Int), gone := false }) hpl 2 (by decide) (.int .i64 18) { l.pr p with res := true, phase := 18 } rfl)
  · have HE := Lib.hid (HNO.out q)
    have HCS := Lib.hid (chg_none (r := (c : Int)) (g := false) q)
    clear HY HNO q
    go_region_held3 (fun V => V.cell? ⟨B, 0, none⟩ = some (.slice (some ⟨G1, 0, none⟩) n c1) ∧ V.cell? ⟨B, 1, none⟩ = some (.slice (some ⟨G2, 0, none⟩) m c2) ∧ V.cell? ⟨G2, p * 7 + 3, none⟩ = some (.int .i64 (d : Int)) ∧ V.cell? ⟨G2, p * 7 + 4, none⟩ = some (.int .i64 (s : Int)) ∧ V.cell? ⟨G2, p * 7 + 5, none⟩ = some (.int .i64 (x : Int)) ∧ V.cell? ⟨G2, p * 7 + 1, none⟩ = some (.int .i64 (c : Int))) (first | with_reducible exact hS7 | with_reducible exact hS1) ((go_at_call 122; refine (HC.out _ HBD.out).mono ?_; rw [HCS.out]; rintro e w7 ⟨rfl, hm7, hb7⟩; have hX7 : Has w7 B 28 #[.slice (some ⟨G1, 0, none⟩) n c1, .slice (some ⟨G2, 0, none⟩) m c2] := (hb7.block B (HX.out.below HBD.out).lt hX1 hX2).trans (HX.out.below HBD.out); have hS7 := (⟨hX7.cell 0, hX7.cell 1, HF.out w7 l rfl hm7⟩ : w7.cell? ⟨B, 0, none⟩ = some (.slice (some ⟨G1, 0, none⟩) n c1) ∧ w7.cell? ⟨B, 1, none⟩ = some (.slice (some ⟨G2, 0, none⟩) m c2) ∧ w7.cell? ⟨G2, p * 7 + 3, none⟩ = some (.int .i64 (d : Int)) ∧ w7.cell? ⟨G2, p * 7 + 4, none⟩ = some (.int .i64 (s : Int)) ∧ w7.cell? ⟨G2, p * 7 + 5, none⟩ = some (.int .i64 (x : Int)) ∧ w7.cell? ⟨G2, p * 7 + 1, none⟩ = some (.int .i64 (c : Int)))))
    have HM7 : Hid (MemL w7 base G1 G2 c1 c2 l) := Lib.hid hm7
    have HK7 := Lib.hid ((HK.out.trans (Chg.of HBD.out)).trans hb7)
    have HX7 := Lib.hid hX7
    clear x0 x1 x2 x3 hS0 hS1 hS7 hm7 hb7 hX7 HC HF HH HK HCS
    have x0 := HX7.out.cell 0
    have x1 := HX7.out.cell 1
    have HL := Lib.hid (ragnF_any l n m p base G1 G2 c1 c2 w7 HN.out HM.out HM7.out hp n0)
    go_wp2_with fail
    refine (HL.out).mono ?_
    rintro e w8 ⟨rfl, hm8, hb8⟩
    have HM8 := Lib.hid hm8
    have HK8 := Lib.hid (HK7.out.trans hb8)
    clear hm8 hb8
    go_wp2_with fail
    go_end0
    exact ⟨rfl, by rw [HE.out]; exact HM8.out, HK8.out⟩
set_option maxRecDepth 100000 in
set_option maxHeartbeats 3200000 in
theorem rstF_17 (l : Ls) (n m p d s c x base G1 G2 c1 c2 : Nat) (w : World) (hn : l.cs.length = n) (hm : l.ps.length = m) (h : MemL w base G1 G2 c1 c2 l) (hp : p < m) (hd : d < n) (hs : s < n) (hc : c < n) (hx : x < n) (hxd : (l.pr p).pred = (d : Int)) (hxs : (l.pr p).succ = (s : Int)) (hxc : (l.pr p).cell = (c : Int)) (hxx : (l.pr p).next = (x : Int)) (hph : (l.pr p).phase = 17) :
    Calls Tryz.prog 80 #[.agg #[.slice (some ⟨G1, 0, none⟩) n c1, .slice (some ⟨G2, 0, none⟩) m c2], .pointer (some ⟨G2, p * 7, none⟩)] w (StP ((stepV l p).getD l) base G1 G2 c1 c2 (.tuple #[]) w) := by
  have hp' : p < l.ps.length := by rw [hm]; exact hp
  have hd' : d < l.cs.length := by rw [hn]; exact hd
  have hs' : s < l.cs.length := by rw [hn]; exact hs
  have hc' : c < l.cs.length := by rw [hn]; exact hc
  have hx' : x < l.cs.length := by rw [hn]; exact hx
  have n0 : 0 < n := by omega
  have r0 : (0 : Int) ≤ (d : Int) := by omega
  have r1 : (d : Int) < (n : Int) := by omega
  have t0 : (0 : Int) ≤ (c : Int) := by omega
  have t1 : (c : Int) < (n : Int) := by omega
  have HN := Lib.hid hn
  have HM := Lib.hid hm
  have HK : Hid (Chg G1 G2 w _) := Lib.hid (Chg.of ((Below.refl w.heap.size w).alloc (Nat.le_refl _) (.cells #[.slice (some ⟨G1, 0, none⟩) n c1, .slice (some ⟨G2, 0, none⟩) m c2] 28)))
  have HH := Lib.hid (h.below ((Below.refl _ _).alloc (Nat.le_refl _) (.cells #[.slice (some ⟨G1, 0, none⟩) n c1, .slice (some ⟨G2, 0, none⟩) m c2] 28)))
  have HX := Lib.hid (Has.new w 28 #[.slice (some ⟨G1, 0, none⟩) n c1, .slice (some ⟨G2, 0, none⟩) m c2])
  have hbn : G1 < w.heap.size ∧ G2 < w.heap.size := ⟨h.cs.lt, h.ps.lt⟩
  have HXD := Lib.hid hxd
  have HXS := Lib.hid hxs
  have HXC := Lib.hid hxc
  have HXX := Lib.hid hxx
  have HPH := Lib.hid hph
  have hne : ¬ G1 = G2 := h.ne
  have hne' : ¬ G2 = G1 := fun e => h.ne e.symm
  obtain ⟨O, hO⟩ : ∃ O, O = stepV l p := ⟨_, rfl⟩
  have HY : Hid (okI l d (c : Int) → O = some ((l.setC d { l.at_ d with right := (x : Int), gone := false }).setP p { l.pr p with phase := 18 })) := Lib.hid (fun q => by
    rw [hO]; unfold stepV
    simp only [hph, hxd, hxs, hxc, hxx, Int.toNat_natCast]
    rw [gone_same q]
    simp [q])
  have HNO : Hid (¬ okI l d (c : Int) → O = some (l.setP p { l.pr p with phase := 18 })) := Lib.hid (fun q => by
    rw [hO]; unfold stepV
    simp only [hph, hxd, hxs, hxc, hxx, Int.toNat_natCast]
    simp [q])
  rw [← hO]
  clear h hn hm hxd hxs hxc hxx hph hO
  go_enter Tryz.func80, Tryz.ntmps80
  go_upto_region 1 with fail
  generalize w.alloc (.cells #[.slice (some ⟨G1, 0, none⟩) n c1, .slice (some ⟨G2, 0, none⟩) m c2] 28) = W at *
  obtain ⟨B, hB⟩ : ∃ B, B = w.heap.size := ⟨_, rfl⟩
  rw [← hB] at HX hbn ⊢
  clear hB
  have x0 := HX.out.cell 0
  have x1 := HX.out.cell 1
  have hX1 : ¬ B = G1 := by omega
  have hX2 : ¬ B = G2 := by omega
  obtain ⟨z1, z2⟩ := HH.out.fz
  obtain ⟨a1, a2, a3, a4, a5, a6, a7⟩ := HH.out.proc hp'
  rw [HPH.out] at a3
  rw [HXD.out] at a4
  rw [HXS.out] at a5
  rw [HXX.out] at a6
  rw [HXC.out] at a2
  have HF := Lib.hid (fun (V : World) (l1 : Ls) (e1 : l1.ps = l.ps) (k : MemL V base G1 G2 c1 c2 l1) => four k e1 hp' HXD.out HXS.out HXC.out HXX.out)
  have HBD : Hid (Below W.heap.size W W.drew) := Lib.hid (Below.refl _ _).drew
  have hS0 := HF.out W.drew l rfl (HH.out.below HBD.out)
  have hS1 := (⟨(HX.out.below HBD.out).cell 0, (HX.out.below HBD.out).cell 1, hS0⟩ : W.drew.cell? ⟨B, 0, none⟩ = some (.slice (some ⟨G1, 0, none⟩) n c1) ∧ W.drew.cell? ⟨B, 1, none⟩ = some (.slice (some ⟨G2, 0, none⟩) m c2) ∧ W.drew.cell? ⟨G2, p * 7 + 3, none⟩ = some (.int .i64 (d : Int)) ∧ W.drew.cell? ⟨G2, p * 7 + 4, none⟩ = some (.int .i64 (s : Int)) ∧ W.drew.cell? ⟨G2, p * 7 + 5, none⟩ = some (.int .i64 (x : Int)) ∧ W.drew.cell? ⟨G2, p * 7 + 1, none⟩ = some (.int .i64 (c : Int)))
  have HC := Lib.hid (fun (V : World) (k : Below W.heap.size W V) => rswapF_any l n m d base G1 G2 c1 c2 (c : Int) (x : Int) V HN.out (HH.out.below k) hd)
  go_upto_region 22 with fail
  clear a1 a2 a3 a4 a5 a6 a7 z1 z2
  have x2 := hS0.2.2.1
  have x3 := hS0.2.2.2
  by_cases q : okI l d (c : Int)
  · have HE := Lib.hid (HY.out q)
    have HCS := Lib.hid (chg_some (r := (x : Int)) (g := false) q)
    clear HY HNO q
    go_region_held3 (fun V => V.cell? ⟨B, 0, none⟩ = some (.slice (some ⟨G1, 0, none⟩) n c1) ∧ V.cell? ⟨B, 1, none⟩ = some (.slice (some ⟨G2, 0, none⟩) m c2) ∧ V.cell? ⟨G2, p * 7 + 3, none⟩ = some (.int .i64 (d : Int)) ∧ V.cell? ⟨G2, p * 7 + 4, none⟩ = some (.int .i64 (s : Int)) ∧ V.cell? ⟨G2, p * 7 + 5, none⟩ = some (.int .i64 (x : Int)) ∧ V.cell? ⟨G2, p * 7 + 1, none⟩ = some (.int .i64 (c : Int))) (first | with_reducible exact hS7 | with_reducible exact hS1) ((go_at_call 122; refine (HC.out _ HBD.out).mono ?_; rw [HCS.out]; rintro e w7 ⟨rfl, hm7, hb7⟩; have hX7 : Has w7 B 28 #[.slice (some ⟨G1, 0, none⟩) n c1, .slice (some ⟨G2, 0, none⟩) m c2] := (hb7.block B (HX.out.below HBD.out).lt hX1 hX2).trans (HX.out.below HBD.out); have hS7 := (⟨hX7.cell 0, hX7.cell 1, HF.out w7 (l.setC d { l.at_ d with right := (x : Int), gone := false }) rfl hm7⟩ : w7.cell? ⟨B, 0, none⟩ = some (.slice (some ⟨G1, 0, none⟩) n c1) ∧ w7.cell? ⟨B, 1, none⟩ = some (.slice (some ⟨G2, 0, none⟩) m c2) ∧ w7.cell? ⟨G2, p * 7 + 3, none⟩ = some (.int .i64 (d : Int)) ∧ w7.cell? ⟨G2, p * 7 + 4, none⟩ = some (.int .i64 (s : Int)) ∧ w7.cell? ⟨G2, p * 7 + 5, none⟩ = some (.int .i64 (x : Int)) ∧ w7.cell? ⟨G2, p * 7 + 1, none⟩ = some (.int .i64 (c : Int)))))
    have HM7 : Hid (MemL w7 base G1 G2 c1 c2 (l.setC d { l.at_ d with right := (x : Int), gone := false })) := Lib.hid hm7
    have HK7 := Lib.hid ((HK.out.trans (Chg.of HBD.out)).trans hb7)
    have HX7 := Lib.hid hX7
    clear x0 x1 x2 x3 hS0 hS1 hS7 hm7 hb7 hX7 HC HF HH HK HCS
    have hpl : p < (l.setC d { l.at_ d with right := (x : Int), gone := false }).ps.length := hp'
    obtain ⟨z1, z2⟩ := HM7.out.fz
    obtain ⟨a1, a2, a3, a4, a5, a6, a7⟩ := HM7.out.proc hpl
    rw [show (l.setC d { l.at_ d with right := (x : Int), gone := false }).pr p = l.pr p from rfl, HXX.out] at a6
    have HI := HM7.out.init hpl
    rw [show (l.setC d { l.at_ d with right := (x : Int), gone := false }).pr p = l.pr p from rfl] at HI
    go_wp2_with fail
    clear z1 z2 a1 a2 a3 a4 a5 a6 a7
    go_end0
    refine ⟨rfl, ?_, (HK7.out.set2 _ _)⟩
    rw [HE.out]
    exact (HI.up (l := l.setC d { l.at_ d with right := (x : Int), gone := false }) hpl 2 (by decide) (.int .i64 18) { l.pr p with phase := 18 } rfl)
  · have HE := Lib.hid (HNO.out q)
    have HCS := Lib.hid (chg_none (r := (x : Int)) (g := false) q)
    clear HY HNO q
    go_region_held3 (fun V => V.cell? ⟨B, 0, none⟩ = some (.slice (some ⟨G1, 0, none⟩) n c1) ∧ V.cell? ⟨B, 1, none⟩ = some (.slice (some ⟨G2, 0, none⟩) m c2) ∧ V.cell? ⟨G2, p * 7 + 3, none⟩ = some (.int .i64 (d : Int)) ∧ V.cell? ⟨G2, p * 7 + 4, none⟩ = some (.int .i64 (s : Int)) ∧ V.cell? ⟨G2, p * 7 + 5, none⟩ = some (.int .i64 (x : Int)) ∧ V.cell? ⟨G2, p * 7 + 1, none⟩ = some (.int .i64 (c : Int))) (first | with_reducible exact hS7 | with_reducible exact hS1) ((go_at_call 122; refine (HC.out _ HBD.out).mono ?_; rw [HCS.out]; rintro e w7 ⟨rfl, hm7, hb7⟩; have hX7 : Has w7 B 28 #[.slice (some ⟨G1, 0, none⟩) n c1, .slice (some ⟨G2, 0, none⟩) m c2] := (hb7.block B (HX.out.below HBD.out).lt hX1 hX2).trans (HX.out.below HBD.out); have hS7 := (⟨hX7.cell 0, hX7.cell 1, HF.out w7 l rfl hm7⟩ : w7.cell? ⟨B, 0, none⟩ = some (.slice (some ⟨G1, 0, none⟩) n c1) ∧ w7.cell? ⟨B, 1, none⟩ = some (.slice (some ⟨G2, 0, none⟩) m c2) ∧ w7.cell? ⟨G2, p * 7 + 3, none⟩ = some (.int .i64 (d : Int)) ∧ w7.cell? ⟨G2, p * 7 + 4, none⟩ = some (.int .i64 (s : Int)) ∧ w7.cell? ⟨G2, p * 7 + 5, none⟩ = some (.int .i64 (x : Int)) ∧ w7.cell? ⟨G2, p * 7 + 1, none⟩ = some (.int .i64 (c : Int)))))
    have HM7 : Hid (MemL w7 base G1 G2 c1 c2 l) := Lib.hid hm7
    have HK7 := Lib.hid ((HK.out.trans (Chg.of HBD.out)).trans hb7)
    have HX7 := Lib.hid hX7
    clear x0 x1 x2 x3 hS0 hS1 hS7 hm7 hb7 hX7 HC HF HH HK HCS
    obtain ⟨z1, z2⟩ := HM7.out.fz
    obtain ⟨a1, a2, a3, a4, a5, a6, a7⟩ := HM7.out.proc hp'
    go_wp2_with fail
    clear z1 z2 a1 a2 a3 a4 a5 a6 a7
    go_end0
    exact ⟨rfl, by rw [HE.out]; exact (HM7.out.init hp').up hp' 2 (by decide) (.int .i64 18) { l.pr p with phase := 18 } rfl, HK7.out.set2 _ _⟩
set_option maxRecDepth 100000 in
set_option maxHeartbeats 3200000 in
theorem rstF_16 (l : Ls) (n m p d s c x base G1 G2 c1 c2 : Nat) (w : World) (hn : l.cs.length = n) (hm : l.ps.length = m) (h : MemL w base G1 G2 c1 c2 l) (hp : p < m) (hd : d < n) (hs : s < n) (hc : c < n) (hx : x < n) (hxd : (l.pr p).pred = (d : Int)) (hxs : (l.pr p).succ = (s : Int)) (hxc : (l.pr p).cell = (c : Int)) (hxx : (l.pr p).next = (x : Int)) (hph : (l.pr p).phase = 16) :
    Calls Tryz.prog 80 #[.agg #[.slice (some ⟨G1, 0, none⟩) n c1, .slice (some ⟨G2, 0, none⟩) m c2], .pointer (some ⟨G2, p * 7, none⟩)] w (StP ((stepV l p).getD l) base G1 G2 c1 c2 (.tuple #[]) w) := by
  have hp' : p < l.ps.length := by rw [hm]; exact hp
  have hd' : d < l.cs.length := by rw [hn]; exact hd
  have hs' : s < l.cs.length := by rw [hn]; exact hs
  have hc' : c < l.cs.length := by rw [hn]; exact hc
  have hx' : x < l.cs.length := by rw [hn]; exact hx
  have n0 : 0 < n := by omega
  have r0 : (0 : Int) ≤ (d : Int) := by omega
  have r1 : (d : Int) < (n : Int) := by omega
  have t0 : (0 : Int) ≤ (c : Int) := by omega
  have t1 : (c : Int) < (n : Int) := by omega
  have HN := Lib.hid hn
  have HM := Lib.hid hm
  have HK : Hid (Chg G1 G2 w _) := Lib.hid (Chg.of ((Below.refl w.heap.size w).alloc (Nat.le_refl _) (.cells #[.slice (some ⟨G1, 0, none⟩) n c1, .slice (some ⟨G2, 0, none⟩) m c2] 28)))
  have HH := Lib.hid (h.below ((Below.refl _ _).alloc (Nat.le_refl _) (.cells #[.slice (some ⟨G1, 0, none⟩) n c1, .slice (some ⟨G2, 0, none⟩) m c2] 28)))
  have HX := Lib.hid (Has.new w 28 #[.slice (some ⟨G1, 0, none⟩) n c1, .slice (some ⟨G2, 0, none⟩) m c2])
  have hbn : G1 < w.heap.size ∧ G2 < w.heap.size := ⟨h.cs.lt, h.ps.lt⟩
  have HXD := Lib.hid hxd
  have HXS := Lib.hid hxs
  have HXC := Lib.hid hxc
  have HXX := Lib.hid hxx
  have HPH := Lib.hid hph
  have hne : ¬ G1 = G2 := h.ne
  have hne' : ¬ G2 = G1 := fun e => h.ne e.symm
  obtain ⟨O, hO⟩ : ∃ O, O = stepV l p := ⟨_, rfl⟩
  have HY : Hid (okI l c (x : Int) → O = some ((l.setC c { l.at_ c with gone := true }).setP p { l.pr p with res := true, phase := 17 })) := Lib.hid (fun q => by
    rw [hO]; unfold stepV
    simp only [hph, hxd, hxs, hxc, hxx, Int.toNat_natCast]
    simp [q])
  have HNO : Hid (¬ okI l c (x : Int) → O = some (agnV l p)) := Lib.hid (fun q => by
    rw [hO]; unfold stepV
    simp only [hph, hxd, hxs, hxc, hxx, Int.toNat_natCast]
    simp [q])
  rw [← hO]
  clear h hn hm hxd hxs hxc hxx hph hO
  go_enter Tryz.func80, Tryz.ntmps80
  go_upto_region 1 with fail
  generalize w.alloc (.cells #[.slice (some ⟨G1, 0, none⟩) n c1, .slice (some ⟨G2, 0, none⟩) m c2] 28) = W at *
  obtain ⟨B, hB⟩ : ∃ B, B = w.heap.size := ⟨_, rfl⟩
  rw [← hB] at HX hbn ⊢
  clear hB
  have x0 := HX.out.cell 0
  have x1 := HX.out.cell 1
  have hX1 : ¬ B = G1 := by omega
  have hX2 : ¬ B = G2 := by omega
  obtain ⟨z1, z2⟩ := HH.out.fz
  obtain ⟨a1, a2, a3, a4, a5, a6, a7⟩ := HH.out.proc hp'
  rw [HPH.out] at a3
  rw [HXD.out] at a4
  rw [HXS.out] at a5
  rw [HXX.out] at a6
  rw [HXC.out] at a2
  obtain ⟨f1, f2, f3, f4, f5⟩ := HH.out.cell hc'
  go_upto_region 16 with fail
  go_quiet (fail)
  generalize nq = nq1 at *
  by_cases hr : (l.at_ c).right = (x : Int)
  · rw [hr] at f3
    have d1 : ((x : Int) != (x : Int)) = false := by simp
    by_cases hg : (l.at_ c).gone = true
    · have HE := Lib.hid (HNO.out (fun q => by have := q.2; rw [hg] at this; cases this))
      rw [hg] at f5
      clear HY HNO hr hg
      go_upto_region 17 with fail
      go_quiet (fail)
      have HHF := Lib.hid (fun V (q : ∃ a b, V = (W.drewN a).drewN b) => (by obtain ⟨a, b, rfl⟩ := q; exact HH.out.keep fun _ _ _ => rfl : MemL V base G1 G2 c1 c2 l))
      have HKF := Lib.hid (fun V (q : ∃ a b, V = (W.drewN a).drewN b) => (by obtain ⟨a, b, rfl⟩ := q; exact ⟨HK.out.os, HK.out.tape, HK.out.output, HK.out.size, HK.out.block⟩ : Chg G1 G2 w V))
      have HXF := Lib.hid (fun V (q : ∃ a b, V = (W.drewN a).drewN b) => (by obtain ⟨a, b, rfl⟩ := q; exact HX.out : Has V B 28 #[.slice (some ⟨G1, 0, none⟩) n c1, .slice (some ⟨G2, 0, none⟩) m c2]))
      have HHD := Lib.hid (HHF.out _ ⟨nq1, nq, rfl⟩)
      have HKD := Lib.hid (HKF.out _ ⟨nq1, nq, rfl⟩)
      have HXD' := Lib.hid (HXF.out _ ⟨nq1, nq, rfl⟩)
      clear HHF HKF HXF x0 x1 z1 z2 a1 a2 a3 a4 a5 a6 a7 f1 f2 f3 f4 f5 HH HK HX
      generalize (W.drewN nq1).drewN nq = V at *
      have x0 := HXD'.out.cell 0
      have x1 := HXD'.out.cell 1
      obtain ⟨z1, z2⟩ := HHD.out.fz
      obtain ⟨a1, a2, a3, a4, a5, a6, a7⟩ := HHD.out.proc hp'
      obtain ⟨f1, f2, f3, f4, f5⟩ := HHD.out.cell hc'
      have HL := Lib.hid (ragnF_any l n m p base G1 G2 c1 c2 _ HN.out HM.out HHD.out hp n0)
      go_wp2_with fail
      refine (HL.out).mono ?_
      rintro e w8 ⟨rfl, hm8, hb8⟩
      have HM8 := Lib.hid hm8
      have HK8 := Lib.hid (HKD.out.trans hb8)
      clear hm8 hb8
      go_wp2_with fail
      go_end0
      exact ⟨rfl, by rw [HE.out]; exact HM8.out, HK8.out⟩
    · have hg' : (l.at_ c).gone = false := by simpa using hg
      have HE := Lib.hid (HY.out ⟨hr, hg'⟩)
      rw [hg'] at f5
      clear HY HNO hr hg hg'
      go_upto_region 17 with fail
      go_quiet (fail)
      have HHF := Lib.hid (fun V (q : ∃ a b, V = (W.drewN a).drewN b) => (by obtain ⟨a, b, rfl⟩ := q; exact HH.out.keep fun _ _ _ => rfl : MemL V base G1 G2 c1 c2 l))
      have HKF := Lib.hid (fun V (q : ∃ a b, V = (W.drewN a).drewN b) => (by obtain ⟨a, b, rfl⟩ := q; exact ⟨HK.out.os, HK.out.tape, HK.out.output, HK.out.size, HK.out.block⟩ : Chg G1 G2 w V))
      have HXF := Lib.hid (fun V (q : ∃ a b, V = (W.drewN a).drewN b) => (by obtain ⟨a, b, rfl⟩ := q; exact HX.out : Has V B 28 #[.slice (some ⟨G1, 0, none⟩) n c1, .slice (some ⟨G2, 0, none⟩) m c2]))
      have HHD := Lib.hid (HHF.out _ ⟨nq1, nq, rfl⟩)
      have HKD := Lib.hid (HKF.out _ ⟨nq1, nq, rfl⟩)
      have HXD' := Lib.hid (HXF.out _ ⟨nq1, nq, rfl⟩)
      clear HHF HKF HXF x0 x1 z1 z2 a1 a2 a3 a4 a5 a6 a7 f1 f2 f3 f4 f5 HH HK HX
      generalize (W.drewN nq1).drewN nq = V at *
      have x0 := HXD'.out.cell 0
      have x1 := HXD'.out.cell 1
      obtain ⟨z1, z2⟩ := HHD.out.fz
      obtain ⟨a1, a2, a3, a4, a5, a6, a7⟩ := HHD.out.proc hp'
      obtain ⟨f1, f2, f3, f4, f5⟩ := HHD.out.cell hc'
      go_wp2_with fail
      clear z1 z2 a1 a2 a3 a4 a5 a6 a7 f1 f2 f3 f4 f5 x0 x1
      go_end0
      have hpl : p < (l.setC c { l.at_ c with gone := true }).ps.length := hp'
      have HI := ((HHD.out.initC hc').upC hc' 4 (by decide) (.bool true) { l.at_ c with gone := true } rfl).init hpl
      rw [show (l.setC c { l.at_ c with gone := true }).pr p = l.pr p from rfl] at HI
      refine ⟨rfl, ?_, ((HKD.out.set1 _ _).set2 _ _).set2 _ _⟩
      rw [HE.out]
      exact ((HI.up (l := l.setC c { l.at_ c with gone := true }) hpl 6 (by decide) (.bool true) { l.pr p with res := true } rfl).up (l := l.setC c { l.at_ c with gone := true }) hpl 2 (by decide) (.int .i64 17) { l.pr p with res := true, phase := 17 } rfl)
  · have d1 : ((l.at_ c).right != (x : Int)) = true := by simpa using hr
    have HE := Lib.hid (HNO.out (fun q => hr q.1))
    clear HY HNO hr
    go_upto_region 17 with fail
    go_quiet (fail)
    have HHF := Lib.hid (fun V (q : ∃ a b, V = (W.drewN a).drewN b) => (by obtain ⟨a, b, rfl⟩ := q; exact HH.out.keep fun _ _ _ => rfl : MemL V base G1 G2 c1 c2 l))
    have HKF := Lib.hid (fun V (q : ∃ a b, V = (W.drewN a).drewN b) => (by obtain ⟨a, b, rfl⟩ := q; exact ⟨HK.out.os, HK.out.tape, HK.out.output, HK.out.size, HK.out.block⟩ : Chg G1 G2 w V))
    have HXF := Lib.hid (fun V (q : ∃ a b, V = (W.drewN a).drewN b) => (by obtain ⟨a, b, rfl⟩ := q; exact HX.out : Has V B 28 #[.slice (some ⟨G1, 0, none⟩) n c1, .slice (some ⟨G2, 0, none⟩) m c2]))
    have HHD := Lib.hid (HHF.out _ ⟨nq1, nq, rfl⟩)
    have HKD := Lib.hid (HKF.out _ ⟨nq1, nq, rfl⟩)
    have HXD' := Lib.hid (HXF.out _ ⟨nq1, nq, rfl⟩)
    clear HHF HKF HXF x0 x1 z1 z2 a1 a2 a3 a4 a5 a6 a7 f1 f2 f3 f4 f5 HH HK HX
    generalize (W.drewN nq1).drewN nq = V at *
    have x0 := HXD'.out.cell 0
    have x1 := HXD'.out.cell 1
    obtain ⟨z1, z2⟩ := HHD.out.fz
    obtain ⟨a1, a2, a3, a4, a5, a6, a7⟩ := HHD.out.proc hp'
    obtain ⟨f1, f2, f3, f4, f5⟩ := HHD.out.cell hc'
    have HL := Lib.hid (ragnF_any l n m p base G1 G2 c1 c2 _ HN.out HM.out HHD.out hp n0)
    go_wp2_with fail
    refine (HL.out).mono ?_
    rintro e w8 ⟨rfl, hm8, hb8⟩
    have HM8 := Lib.hid hm8
    have HK8 := Lib.hid (HKD.out.trans hb8)
    clear hm8 hb8
    go_wp2_with fail
    go_end0
    exact ⟨rfl, by rw [HE.out]; exact HM8.out, HK8.out⟩
set_option maxRecDepth 100000 in
set_option maxHeartbeats 3200000 in
theorem rstF_6 (l : Ls) (n m p d s c x base G1 G2 c1 c2 : Nat) (w : World) (hn : l.cs.length = n) (hm : l.ps.length = m) (h : MemL w base G1 G2 c1 c2 l) (hp : p < m) (hd : d < n) (hs : s < n) (hc : c < n) (hx : x < n) (hxd : (l.pr p).pred = (d : Int)) (hxs : (l.pr p).succ = (s : Int)) (hxc : (l.pr p).cell = (c : Int)) (hxx : (l.pr p).next = (x : Int)) (hph : (l.pr p).phase = 6) :
    Calls Tryz.prog 80 #[.agg #[.slice (some ⟨G1, 0, none⟩) n c1, .slice (some ⟨G2, 0, none⟩) m c2], .pointer (some ⟨G2, p * 7, none⟩)] w (StP ((stepV l p).getD l) base G1 G2 c1 c2 (.tuple #[]) w) := by
  have hp' : p < l.ps.length := by rw [hm]; exact hp
  have hd' : d < l.cs.length := by rw [hn]; exact hd
  have hs' : s < l.cs.length := by rw [hn]; exact hs
  have hc' : c < l.cs.length := by rw [hn]; exact hc
  have hx' : x < l.cs.length := by rw [hn]; exact hx
  have n0 : 0 < n := by omega
  have r0 : (0 : Int) ≤ (d : Int) := by omega
  have r1 : (d : Int) < (n : Int) := by omega
  have t0 : (0 : Int) ≤ (c : Int) := by omega
  have t1 : (c : Int) < (n : Int) := by omega
  have HN := Lib.hid hn
  have HM := Lib.hid hm
  have HK : Hid (Chg G1 G2 w _) := Lib.hid (Chg.of ((Below.refl w.heap.size w).alloc (Nat.le_refl _) (.cells #[.slice (some ⟨G1, 0, none⟩) n c1, .slice (some ⟨G2, 0, none⟩) m c2] 28)))
  have HH := Lib.hid (h.below ((Below.refl _ _).alloc (Nat.le_refl _) (.cells #[.slice (some ⟨G1, 0, none⟩) n c1, .slice (some ⟨G2, 0, none⟩) m c2] 28)))
  have HX := Lib.hid (Has.new w 28 #[.slice (some ⟨G1, 0, none⟩) n c1, .slice (some ⟨G2, 0, none⟩) m c2])
  have hbn : G1 < w.heap.size ∧ G2 < w.heap.size := ⟨h.cs.lt, h.ps.lt⟩
  have HXD := Lib.hid hxd
  have HXS := Lib.hid hxs
  have HXC := Lib.hid hxc
  have HXX := Lib.hid hxx
  have HPH := Lib.hid hph
  have hne : ¬ G1 = G2 := h.ne
  have hne' : ¬ G2 = G1 := fun e => h.ne e.symm
  obtain ⟨O, hO⟩ : ∃ O, O = stepV l p := ⟨_, rfl⟩
  have HE : Hid (O = some ((l.setC c { l.at_ c with right := (s : Int) }).setP p { l.pr p with phase := 15 })) := Lib.hid (by
    rw [hO]; unfold stepV
    simp only [hph, hxd, hxs, hxc, hxx, Int.toNat_natCast]
    simp)
  rw [← hO]
  clear h hn hm hxd hxs hxc hxx hph hO
  go_enter Tryz.func80, Tryz.ntmps80
  go_upto_region 1 with fail
  generalize w.alloc (.cells #[.slice (some ⟨G1, 0, none⟩) n c1, .slice (some ⟨G2, 0, none⟩) m c2] 28) = W at *
  obtain ⟨B, hB⟩ : ∃ B, B = w.heap.size := ⟨_, rfl⟩
  rw [← hB] at HX hbn ⊢
  clear hB
  have x0 := HX.out.cell 0
  have x1 := HX.out.cell 1
  have hX1 : ¬ B = G1 := by omega
  have hX2 : ¬ B = G2 := by omega
  obtain ⟨z1, z2⟩ := HH.out.fz
  obtain ⟨a1, a2, a3, a4, a5, a6, a7⟩ := HH.out.proc hp'
  rw [HPH.out] at a3
  rw [HXD.out] at a4
  rw [HXS.out] at a5
  rw [HXX.out] at a6
  rw [HXC.out] at a2
  obtain ⟨f1, f2, f3, f4, f5⟩ := HH.out.cell hc'
  go_upto_region 9 with fail
  go_region
  clear z1 z2 a1 a2 a3 a4 a5 a6 a7 f1 f2 f3 f4 f5 x0 x1
  have HHR := Lib.hid (MemL.drew ((HH.out.initC hc').upC hc' 2 (by decide) (.int .i64 (s : Int)) { l.at_ c with right := (s : Int) } rfl))
  have HKR := Lib.hid (Chg.drew (HK.out.set1 (c * 5 + 2) (.int .i64 (s : Int))))
  generalize World.drew _ = V2 at *
  have hpl : p < (l.setC c { l.at_ c with right := (s : Int) }).ps.length := hp'
  obtain ⟨z1, z2⟩ := HHR.out.fz
  obtain ⟨a1, a2, a3, a4, a5, a6, a7⟩ := HHR.out.proc hpl
  go_wp2_with fail
  clear z1 z2 a1 a2 a3 a4 a5 a6 a7
  go_end0
  exact ⟨rfl, by rw [HE.out]; exact HHR.out.setP hpl 2 (by decide) (.int .i64 15) { l.pr p with phase := 15 } rfl, HKR.out.set2 _ _⟩
end Lf
end Go.Proofs.YtmhbloefmknikaaGreatDoor
