/-
  step of the reference of chapter 11, in place. Conditions: the list is valid and may be changed in place.
-/
import Derived.Test.YtmhbloefmknikaaGreatDoorMbA
import Derived.Test.YtmhbloefmknikaaGreatDoorMbB
import Derived.Test.YtmhbloefmknikaaGreatDoorMbC
import Derived.Test.YtmhbloefmknikaaGreatDoorMaA
namespace Go.Proofs.YtmhbloefmknikaaGreatDoor
open Go.RowKit Go.Maps
namespace Lk
set_option maxRecDepth 100000 in
set_option maxHeartbeats 6400000 in
theorem rstep_1 (l : Ls) (n m p d s c x base G1 G2 c1 c2 : Nat) (w : World) (hn : l.cs.length = n) (hm : l.ps.length = m) (h : MemL w base G1 G2 c1 c2 l) (hp : p < m) (hd : d < n) (hs : s < n) (hc : c < n) (hx : x < n) (_m8 : m ≤ 8) (_n66 : n ≤ 66) (hxd : (l.pr p).pred = (d : Int)) (hxs : (l.pr p).succ = (s : Int)) (hxc : (l.pr p).cell = (c : Int)) (hxx : (l.pr p).next = (x : Int)) (hph : (l.pr p).phase = 1) :
    Calls Tryz.prog 58 #[.agg #[.slice (some ⟨G1, 0, none⟩) n c1, .slice (some ⟨G2, 0, none⟩) m c2], .int .i64 (p : Int)] w (OptP (stepV l p) l base G1 G2 c1 c2 w) := by
  have HE := Lib.hid (step_1 hph hxs hxc)
  have HK : Hid (Chg G1 G2 w _) := Lib.hid (Chg.of ((Below.refl w.heap.size w).alloc (Nat.le_refl _) (.cells #[.slice (some ⟨G1, 0, none⟩) n c1, .slice (some ⟨G2, 0, none⟩) m c2] 28)))
  have HH := Lib.hid (h.below ((Below.refl _ _).alloc (Nat.le_refl _) (.cells #[.slice (some ⟨G1, 0, none⟩) n c1, .slice (some ⟨G2, 0, none⟩) m c2] 28)))
  have HX := Lib.hid (Has.new w 28 #[.slice (some ⟨G1, 0, none⟩) n c1, .slice (some ⟨G2, 0, none⟩) m c2])
  have hbn : G1 < w.heap.size ∧ G2 < w.heap.size := ⟨h.cs.lt, h.ps.lt⟩
  have hne : ¬ G1 = G2 := h.ne
  have hne' : ¬ G2 = G1 := fun e => h.ne e.symm
  have HN := Lib.hid hn
  have HM := Lib.hid hm
  have hp' : p < l.ps.length := by rw [hm]; exact hp
  have hd' : d < l.cs.length := by rw [hn]; exact hd
  have hs' : s < l.cs.length := by rw [hn]; exact hs
  have hc' : c < l.cs.length := by rw [hn]; exact hc
  have hx' : x < l.cs.length := by rw [hn]; exact hx
  have p0 : (0 : Int) ≤ (p : Int) := by omega
  have p1 : (p : Int) < (m : Int) := by omega
  have r0 : (0 : Int) ≤ (d : Int) := by omega
  have r1 : (d : Int) < (n : Int) := by omega
  have q0 : (0 : Int) ≤ (s : Int) := by omega
  have q1 : (s : Int) < (n : Int) := by omega
  have t0 : (0 : Int) ≤ (c : Int) := by omega
  have t1 : (c : Int) < (n : Int) := by omega
  have u0 : (0 : Int) ≤ (x : Int) := by omega
  have u1 : (x : Int) < (n : Int) := by omega
  have HXD := Lib.hid hxd
  have HXS := Lib.hid hxs
  have HXC := Lib.hid hxc
  have HXX := Lib.hid hxx
  have HPH := Lib.hid hph
  obtain ⟨O, hO⟩ : ∃ O, O = stepV l p := ⟨_, rfl⟩
  rw [← hO] at HE ⊢
  clear h hn hm hxd hxs hxc hxx hph hO
  go_enter Tryz.func58, Tryz.ntmps58
  go_upto_region 1 with fail
  generalize w.alloc (.cells #[.slice (some ⟨G1, 0, none⟩) n c1, .slice (some ⟨G2, 0, none⟩) m c2] 28) = W at *
  obtain ⟨B, hB⟩ : ∃ B, B = w.heap.size := ⟨_, rfl⟩
  rw [← hB] at HX hbn ⊢
  clear hB
  have x0 := HX.out.cell 0
  have x1 := HX.out.cell 1
  have hX1 : ¬ B = G1 := by omega
  have hX2 : ¬ B = G2 := by omega
  obtain ⟨z1, z2⟩ := HH.out.fz
  obtain ⟨a1, a2, a3, a4, a5, a6, a7⟩ := HH.out.proc hp'
  rw [HPH.out] at a3
  rw [HXD.out] at a4
  rw [HXS.out] at a5
  rw [HXX.out] at a6
  rw [HXC.out] at a2
  go_upto_region 6 with fail
  have hS0 : (W.drew.cell? ⟨B, 0, none⟩ = some (.slice (some ⟨G1, 0, none⟩) n c1) ∧ W.drew.cell? ⟨B, 1, none⟩ = some (.slice (some ⟨G2, 0, none⟩) m c2) ∧ W.drew.cell? ⟨G2, p * 7 + 1, none⟩ = some (.int .i64 (c : Int)) ∧ W.drew.cell? ⟨G2, p * 7 + 4, none⟩ = some (.int .i64 (s : Int))) := ⟨x0, x1, a2, a5⟩
  have hS1 : (W.cell? ⟨B, 0, none⟩ = some (.slice (some ⟨G1, 0, none⟩) n c1) ∧ W.cell? ⟨B, 1, none⟩ = some (.slice (some ⟨G2, 0, none⟩) m c2) ∧ W.cell? ⟨G2, p * 7 + 1, none⟩ = some (.int .i64 (c : Int)) ∧ W.cell? ⟨G2, p * 7 + 4, none⟩ = some (.int .i64 (s : Int))) := ⟨x0, x1, a2, a5⟩
  have HHD := Lib.hid HH.out.drew
  have HKD := Lib.hid HK.out.drew
  have HXD2 := Lib.hid (HX.out.below (Below.refl _ W).drew)
  have HBL0 := Lib.hid (rblw_any (some ⟨G1, 0, none⟩) (some ⟨G2, 0, none⟩) l n m c1 c2 s c base W.drew HN.out HHD.out.rd.cs hs hc)
  obtain ⟨BL, hBL⟩ : ∃ BL, BL = blw l s c := ⟨_, rfl⟩
  have HCL := HBL0
  rw [← hBL] at HCL
  have HBE := Lib.hid hBL
  clear HBL0 hBL
  go_region_held3 (fun V => V.cell? ⟨B, 0, none⟩ = some (.slice (some ⟨G1, 0, none⟩) n c1) ∧ V.cell? ⟨B, 1, none⟩ = some (.slice (some ⟨G2, 0, none⟩) m c2) ∧ V.cell? ⟨G2, p * 7 + 1, none⟩ = some (.int .i64 (c : Int)) ∧ V.cell? ⟨G2, p * 7 + 4, none⟩ = some (.int .i64 (s : Int)))
    (first | with_reducible exact hS5 | with_reducible exact hS0 | with_reducible exact hS1 | with_reducible assumption)
    (first | (go_at_call 60; (with_reducible refine (HCL.out).mono ?_); rintro e w5 ⟨rfl, hb5⟩; have HH5 := Lib.hid (HHD.out.below hb5); have HK5 := Lib.hid (HKD.out.add hb5); have HX5 := Lib.hid (HXD2.out.below hb5); obtain ⟨k1, k2, k3, k4, k5, k6, k7⟩ := HH5.out.proc hp'; rw [HXC.out] at k2; rw [HXS.out] at k5; have hS5 := (⟨HX5.out.cell 0, HX5.out.cell 1, k2, k5⟩ : w5.cell? ⟨B, 0, none⟩ = some (.slice (some ⟨G1, 0, none⟩) n c1) ∧ w5.cell? ⟨B, 1, none⟩ = some (.slice (some ⟨G2, 0, none⟩) m c2) ∧ w5.cell? ⟨G2, p * 7 + 1, none⟩ = some (.int .i64 (c : Int)) ∧ w5.cell? ⟨G2, p * 7 + 4, none⟩ = some (.int .i64 (s : Int))); clear hb5))
  clear hS0 hS1 hS5 x0 x1 z1 z2 a1 a2 a3 a4 a5 a6 a7 HH HK HX HHD HKD HXD2 HCL
  have x0 := HX5.out.cell 0
  have x1 := HX5.out.cell 1
  obtain ⟨z1, z2⟩ := HH5.out.fz
  rw [HPH.out] at k3
  rw [HXD.out] at k4
  obtain ⟨-, e2, e3, -, e5⟩ := HH5.out.cell hs'
  cases BL with
  | true =>
    have hF : fndV l p s c = l.setP p { l.pr p with pred := (s : Int), succ := (l.at_ s).right } := by unfold fndV; rw [if_pos HBE.out.symm]
    rw [hF] at HE
    clear hF
    go_upto_region 7 with fail
    go_region
    all_goals (clear x0 x1 z1 z2 k1 k2 k3 k4 k5 k6 k7 e2 e3 e5; go_wp2_with fail; go_ret; refine ⟨by rw [HE.out]; rfl, ?_, Chg.drew ((HK5.out.set2 _ _).set2 _ _)⟩; rw [HE.out]; exact MemL.drew (((HH5.out.init hp').up hp' 3 (by decide) (.int .i64 (s : Int)) { l.pr p with pred := (s : Int) } rfl).up hp' 4 (by decide) (.int .i64 (l.at_ s).right) { l.pr p with pred := (s : Int), succ := (l.at_ s).right } rfl))
  | false =>
    by_cases hk : (l.pr p).kind = 3
    · have hF : fndV l p s c = l.setP p { l.pr p with phase := 4 } := by unfold fndV; rw [if_neg (by rw [← HBE.out]; decide), if_pos hk]
      rw [hF] at HE
      have hkd : ((l.pr p).kind == 3) = true := by simpa using hk
      clear hF
      go_wp2_with fail
      clear x0 x1 z1 z2 k1 k2 k3 k4 k5 k6 k7 e2 e3 e5
      go_ret
      refine ⟨by rw [HE.out]; rfl, ?_, HK5.out.set2 _ _⟩
      rw [HE.out]
      exact HH5.out.setP hp' 2 (by decide) (.int .i64 4) { l.pr p with phase := 4 } rfl
    · have hF : fndV l p s c = l.setP p { l.pr p with phase := 2 } := by unfold fndV; rw [if_neg (by rw [← HBE.out]; decide), if_neg hk]
      rw [hF] at HE
      have hkd : ((l.pr p).kind == 3) = false := by simpa using hk
      clear hF
      go_wp2_with fail
      clear x0 x1 z1 z2 k1 k2 k3 k4 k5 k6 k7 e2 e3 e5
      go_ret
      refine ⟨by rw [HE.out]; rfl, ?_, HK5.out.set2 _ _⟩
      rw [HE.out]
      exact HH5.out.setP hp' 2 (by decide) (.int .i64 2) { l.pr p with phase := 2 } rfl
set_option maxRecDepth 100000 in
set_option maxHeartbeats 6400000 in
theorem rstep_2 (l : Ls) (n m p d s c x base G1 G2 c1 c2 : Nat) (w : World) (hn : l.cs.length = n) (hm : l.ps.length = m) (h : MemL w base G1 G2 c1 c2 l) (hp : p < m) (hd : d < n) (hs : s < n) (hc : c < n) (hx : x < n) (m8 : m ≤ 8) (_n66 : n ≤ 66) (hxd : (l.pr p).pred = (d : Int)) (hxs : (l.pr p).succ = (s : Int)) (hxc : (l.pr p).cell = (c : Int)) (hxx : (l.pr p).next = (x : Int)) (hph : (l.pr p).phase = 2) :
    Calls Tryz.prog 58 #[.agg #[.slice (some ⟨G1, 0, none⟩) n c1, .slice (some ⟨G2, 0, none⟩) m c2], .int .i64 (p : Int)] w (OptP (stepV l p) l base G1 G2 c1 c2 w) := by
  have HE := Lib.hid (step_2 hph hxd)
  have HK : Hid (Chg G1 G2 w _) := Lib.hid (Chg.of ((Below.refl w.heap.size w).alloc (Nat.le_refl _) (.cells #[.slice (some ⟨G1, 0, none⟩) n c1, .slice (some ⟨G2, 0, none⟩) m c2] 28)))
  have HH := Lib.hid (h.below ((Below.refl _ _).alloc (Nat.le_refl _) (.cells #[.slice (some ⟨G1, 0, none⟩) n c1, .slice (some ⟨G2, 0, none⟩) m c2] 28)))
  have HX := Lib.hid (Has.new w 28 #[.slice (some ⟨G1, 0, none⟩) n c1, .slice (some ⟨G2, 0, none⟩) m c2])
  have hbn : G1 < w.heap.size ∧ G2 < w.heap.size := ⟨h.cs.lt, h.ps.lt⟩
  have hne : ¬ G1 = G2 := h.ne
  have hne' : ¬ G2 = G1 := fun e => h.ne e.symm
  have HN := Lib.hid hn
  have HM := Lib.hid hm
  have hp' : p < l.ps.length := by rw [hm]; exact hp
  have hd' : d < l.cs.length := by rw [hn]; exact hd
  have hs' : s < l.cs.length := by rw [hn]; exact hs
  have hc' : c < l.cs.length := by rw [hn]; exact hc
  have hx' : x < l.cs.length := by rw [hn]; exact hx
  have p0 : (0 : Int) ≤ (p : Int) := by omega
  have p1 : (p : Int) < (m : Int) := by omega
  have r0 : (0 : Int) ≤ (d : Int) := by omega
  have r1 : (d : Int) < (n : Int) := by omega
  have q0 : (0 : Int) ≤ (s : Int) := by omega
  have q1 : (s : Int) < (n : Int) := by omega
  have t0 : (0 : Int) ≤ (c : Int) := by omega
  have t1 : (c : Int) < (n : Int) := by omega
  have u0 : (0 : Int) ≤ (x : Int) := by omega
  have u1 : (x : Int) < (n : Int) := by omega
  have HXD := Lib.hid hxd
  have HXS := Lib.hid hxs
  have HXC := Lib.hid hxc
  have HXX := Lib.hid hxx
  have HPH := Lib.hid hph
  obtain ⟨O, hO⟩ : ∃ O, O = stepV l p := ⟨_, rfl⟩
  rw [← hO] at HE ⊢
  clear h hn hm hxd hxs hxc hxx hph hO
  go_enter Tryz.func58, Tryz.ntmps58
  go_upto_region 1 with fail
  generalize w.alloc (.cells #[.slice (some ⟨G1, 0, none⟩) n c1, .slice (some ⟨G2, 0, none⟩) m c2] 28) = W at *
  obtain ⟨B, hB⟩ : ∃ B, B = w.heap.size := ⟨_, rfl⟩
  rw [← hB] at HX hbn ⊢
  clear hB
  have x0 := HX.out.cell 0
  have x1 := HX.out.cell 1
  have hX1 : ¬ B = G1 := by omega
  have hX2 : ¬ B = G2 := by omega
  obtain ⟨z1, z2⟩ := HH.out.fz
  obtain ⟨a1, a2, a3, a4, a5, a6, a7⟩ := HH.out.proc hp'
  rw [HPH.out] at a3
  rw [HXD.out] at a4
  rw [HXS.out] at a5
  rw [HXX.out] at a6
  rw [HXC.out] at a2
  go_upto_region 11 with fail
  have hS0 : (W.drew.cell? ⟨B, 0, none⟩ = some (.slice (some ⟨G1, 0, none⟩) n c1) ∧ W.drew.cell? ⟨B, 1, none⟩ = some (.slice (some ⟨G2, 0, none⟩) m c2) ∧ W.drew.cell? ⟨G2, p * 7 + 3, none⟩ = some (.int .i64 (d : Int))) := ⟨x0, x1, a4⟩
  have hS1 : (W.cell? ⟨B, 0, none⟩ = some (.slice (some ⟨G1, 0, none⟩) n c1) ∧ W.cell? ⟨B, 1, none⟩ = some (.slice (some ⟨G2, 0, none⟩) m c2) ∧ W.cell? ⟨G2, p * 7 + 3, none⟩ = some (.int .i64 (d : Int))) := ⟨x0, x1, a4⟩
  have HHD := Lib.hid HH.out.drew
  have HKD := Lib.hid HK.out.drew
  have HXD2 := Lib.hid (HX.out.below (Below.refl _ W).drew)
  have HCL := Lib.hid (rlock_any l n m p d base G1 G2 c1 c2 W.drew HN.out HM.out HHD.out hp hd m8)
  have HPR : Hid (((rlkV l p d).getD l).pr p = l.pr p ∧ p < ((rlkV l p d).getD l).ps.length) := Lib.hid (by
    unfold rlkV
    split
    · exact ⟨rfl, hp'⟩
    · exact ⟨rfl, hp'⟩)
  go_region_held3 (fun V => V.cell? ⟨B, 0, none⟩ = some (.slice (some ⟨G1, 0, none⟩) n c1) ∧ V.cell? ⟨B, 1, none⟩ = some (.slice (some ⟨G2, 0, none⟩) m c2) ∧ V.cell? ⟨G2, p * 7 + 3, none⟩ = some (.int .i64 (d : Int)))
    (first | with_reducible exact hS5 | with_reducible exact hS0 | with_reducible exact hS1 | with_reducible assumption)
    (first | (go_at_call 104; (with_reducible refine (HCL.out).mono ?_); rintro e w5 ⟨rfl, hm5, hb5⟩; have HH5 := Lib.hid hm5; have HK5 := Lib.hid (HKD.out.trans hb5); have HX5 := Lib.hid (hb5.has HXD2.out hX1 hX2); obtain ⟨k1, k2, k3, k4, k5, k6, k7⟩ := hm5.proc HPR.out.2; rw [HPR.out.1, HXD.out] at k4; have hS5 := (⟨HX5.out.cell 0, HX5.out.cell 1, k4⟩ : w5.cell? ⟨B, 0, none⟩ = some (.slice (some ⟨G1, 0, none⟩) n c1) ∧ w5.cell? ⟨B, 1, none⟩ = some (.slice (some ⟨G2, 0, none⟩) m c2) ∧ w5.cell? ⟨G2, p * 7 + 3, none⟩ = some (.int .i64 (d : Int))); clear hb5 hm5))
  clear hS0 hS1 hS5 x0 x1 z1 z2 a1 a2 a3 a4 a5 a6 a7 k1 k2 k3 k4 k5 k6 k7 HH HK HX HHD HKD HXD2 HCL
  by_cases hl : (l.at_ d).lock = 0
  · have hF : rlkV l p d = some (l.setC d { l.at_ d with lock := (p : Int) + 1 }) := by unfold rlkV; rw [if_neg (fun q => q hl)]
    have hF2 : lokV l p d 3 = some ((l.setC d { l.at_ d with lock := (p : Int) + 1 }).setP p { l.pr p with phase := 3 }) := by unfold lokV; rw [if_neg (fun q => q hl)]
    rw [hF2] at HE
    rw [hF] at HH5 ⊢
    clear hF hF2 hl
    have x0 := HX5.out.cell 0
    have x1 := HX5.out.cell 1
    obtain ⟨z1, z2⟩ := HH5.out.fz
    obtain ⟨a1, a2, a3, a4, a5, a6, a7⟩ := HH5.out.proc (i := p) hp'
    go_wp2_with fail
    clear x0 x1 z1 z2 a1 a2 a3 a4 a5 a6 a7
    go_ret
    refine ⟨by rw [HE.out]; rfl, ?_, HK5.out.set2 _ _⟩
    rw [HE.out]
    exact MemL.setP (l := l.setC d { l.at_ d with lock := (p : Int) + 1 }) HH5.out hp' 2 (by decide) (.int .i64 3) { l.pr p with phase := 3 } rfl
  · have hF : rlkV l p d = none := by unfold rlkV; rw [if_pos hl]
    have hF2 : lokV l p d 3 = none := by unfold lokV; rw [if_pos hl]
    rw [hF2] at HE
    rw [hF] at HH5 ⊢
    clear hF hF2 hl
    go_wp2_with fail
    go_ret
    exact ⟨by rw [HE.out]; rfl, by rw [HE.out]; exact HH5.out, HK5.out⟩
set_option maxRecDepth 100000 in
set_option maxHeartbeats 6400000 in
theorem rstep_3 (l : Ls) (n m p d s c x base G1 G2 c1 c2 : Nat) (w : World) (hn : l.cs.length = n) (hm : l.ps.length = m) (h : MemL w base G1 G2 c1 c2 l) (hp : p < m) (hd : d < n) (hs : s < n) (hc : c < n) (hx : x < n) (m8 : m ≤ 8) (_n66 : n ≤ 66) (hxd : (l.pr p).pred = (d : Int)) (hxs : (l.pr p).succ = (s : Int)) (hxc : (l.pr p).cell = (c : Int)) (hxx : (l.pr p).next = (x : Int)) (hph : (l.pr p).phase = 3) :
    Calls Tryz.prog 58 #[.agg #[.slice (some ⟨G1, 0, none⟩) n c1, .slice (some ⟨G2, 0, none⟩) m c2], .int .i64 (p : Int)] w (OptP (stepV l p) l base G1 G2 c1 c2 w) := by
  have HE := Lib.hid (step_3 hph hxs)
  have HK : Hid (Chg G1 G2 w _) := Lib.hid (Chg.of ((Below.refl w.heap.size w).alloc (Nat.le_refl _) (.cells #[.slice (some ⟨G1, 0, none⟩) n c1, .slice (some ⟨G2, 0, none⟩) m c2] 28)))
  have HH := Lib.hid (h.below ((Below.refl _ _).alloc (Nat.le_refl _) (.cells #[.slice (some ⟨G1, 0, none⟩) n c1, .slice (some ⟨G2, 0, none⟩) m c2] 28)))
  have HX := Lib.hid (Has.new w 28 #[.slice (some ⟨G1, 0, none⟩) n c1, .slice (some ⟨G2, 0, none⟩) m c2])
  have hbn : G1 < w.heap.size ∧ G2 < w.heap.size := ⟨h.cs.lt, h.ps.lt⟩
  have hne : ¬ G1 = G2 := h.ne
  have hne' : ¬ G2 = G1 := fun e => h.ne e.symm
  have HN := Lib.hid hn
  have HM := Lib.hid hm
  have hp' : p < l.ps.length := by rw [hm]; exact hp
  have hd' : d < l.cs.length := by rw [hn]; exact hd
  have hs' : s < l.cs.length := by rw [hn]; exact hs
  have hc' : c < l.cs.length := by rw [hn]; exact hc
  have hx' : x < l.cs.length := by rw [hn]; exact hx
  have p0 : (0 : Int) ≤ (p : Int) := by omega
  have p1 : (p : Int) < (m : Int) := by omega
  have r0 : (0 : Int) ≤ (d : Int) := by omega
  have r1 : (d : Int) < (n : Int) := by omega
  have q0 : (0 : Int) ≤ (s : Int) := by omega
  have q1 : (s : Int) < (n : Int) := by omega
  have t0 : (0 : Int) ≤ (c : Int) := by omega
  have t1 : (c : Int) < (n : Int) := by omega
  have u0 : (0 : Int) ≤ (x : Int) := by omega
  have u1 : (x : Int) < (n : Int) := by omega
  have HXD := Lib.hid hxd
  have HXS := Lib.hid hxs
  have HXC := Lib.hid hxc
  have HXX := Lib.hid hxx
  have HPH := Lib.hid hph
  obtain ⟨O, hO⟩ : ∃ O, O = stepV l p := ⟨_, rfl⟩
  rw [← hO] at HE ⊢
  clear h hn hm hxd hxs hxc hxx hph hO
  go_enter Tryz.func58, Tryz.ntmps58
  go_upto_region 1 with fail
  generalize w.alloc (.cells #[.slice (some ⟨G1, 0, none⟩) n c1, .slice (some ⟨G2, 0, none⟩) m c2] 28) = W at *
  obtain ⟨B, hB⟩ : ∃ B, B = w.heap.size := ⟨_, rfl⟩
  rw [← hB] at HX hbn ⊢
  clear hB
  have x0 := HX.out.cell 0
  have x1 := HX.out.cell 1
  have hX1 : ¬ B = G1 := by omega
  have hX2 : ¬ B = G2 := by omega
  obtain ⟨z1, z2⟩ := HH.out.fz
  obtain ⟨a1, a2, a3, a4, a5, a6, a7⟩ := HH.out.proc hp'
  rw [HPH.out] at a3
  rw [HXD.out] at a4
  rw [HXS.out] at a5
  rw [HXX.out] at a6
  rw [HXC.out] at a2
  go_upto_region 15 with fail
  have hS0 : (W.drew.cell? ⟨B, 0, none⟩ = some (.slice (some ⟨G1, 0, none⟩) n c1) ∧ W.drew.cell? ⟨B, 1, none⟩ = some (.slice (some ⟨G2, 0, none⟩) m c2) ∧ W.drew.cell? ⟨G2, p * 7 + 4, none⟩ = some (.int .i64 (s : Int))) := ⟨x0, x1, a5⟩
  have hS1 : (W.cell? ⟨B, 0, none⟩ = some (.slice (some ⟨G1, 0, none⟩) n c1) ∧ W.cell? ⟨B, 1, none⟩ = some (.slice (some ⟨G2, 0, none⟩) m c2) ∧ W.cell? ⟨G2, p * 7 + 4, none⟩ = some (.int .i64 (s : Int))) := ⟨x0, x1, a5⟩
  have HHD := Lib.hid HH.out.drew
  have HKD := Lib.hid HK.out.drew
  have HXD2 := Lib.hid (HX.out.below (Below.refl _ W).drew)
  have HCL := Lib.hid (rlock_any l n m p s base G1 G2 c1 c2 W.drew HN.out HM.out HHD.out hp hs m8)
  have HPR : Hid (((rlkV l p s).getD l).pr p = l.pr p ∧ p < ((rlkV l p s).getD l).ps.length) := Lib.hid (by
    unfold rlkV
    split
    · exact ⟨rfl, hp'⟩
    · exact ⟨rfl, hp'⟩)
  go_region_held3 (fun V => V.cell? ⟨B, 0, none⟩ = some (.slice (some ⟨G1, 0, none⟩) n c1) ∧ V.cell? ⟨B, 1, none⟩ = some (.slice (some ⟨G2, 0, none⟩) m c2) ∧ V.cell? ⟨G2, p * 7 + 4, none⟩ = some (.int .i64 (s : Int)))
    (first | with_reducible exact hS5 | with_reducible exact hS0 | with_reducible exact hS1 | with_reducible assumption)
    (first | (go_at_call 104; (with_reducible refine (HCL.out).mono ?_); rintro e w5 ⟨rfl, hm5, hb5⟩; have HH5 := Lib.hid hm5; have HK5 := Lib.hid (HKD.out.trans hb5); have HX5 := Lib.hid (hb5.has HXD2.out hX1 hX2); obtain ⟨k1, k2, k3, k4, k5, k6, k7⟩ := hm5.proc HPR.out.2; rw [HPR.out.1, HXS.out] at k5; have hS5 := (⟨HX5.out.cell 0, HX5.out.cell 1, k5⟩ : w5.cell? ⟨B, 0, none⟩ = some (.slice (some ⟨G1, 0, none⟩) n c1) ∧ w5.cell? ⟨B, 1, none⟩ = some (.slice (some ⟨G2, 0, none⟩) m c2) ∧ w5.cell? ⟨G2, p * 7 + 4, none⟩ = some (.int .i64 (s : Int))); clear hb5 hm5))
  clear hS0 hS1 hS5 x0 x1 z1 z2 a1 a2 a3 a4 a5 a6 a7 k1 k2 k3 k4 k5 k6 k7 HH HK HX HHD HKD HXD2 HCL
  by_cases hl : (l.at_ s).lock = 0
  · have hF : rlkV l p s = some (l.setC s { l.at_ s with lock := (p : Int) + 1 }) := by unfold rlkV; rw [if_neg (fun q => q hl)]
    have hF2 : lokV l p s 4 = some ((l.setC s { l.at_ s with lock := (p : Int) + 1 }).setP p { l.pr p with phase := 4 }) := by unfold lokV; rw [if_neg (fun q => q hl)]
    rw [hF2] at HE
    rw [hF] at HH5 ⊢
    clear hF hF2 hl
    have x0 := HX5.out.cell 0
    have x1 := HX5.out.cell 1
    obtain ⟨z1, z2⟩ := HH5.out.fz
    obtain ⟨a1, a2, a3, a4, a5, a6, a7⟩ := HH5.out.proc (i := p) hp'
    go_wp2_with fail
    clear x0 x1 z1 z2 a1 a2 a3 a4 a5 a6 a7
    go_ret
    refine ⟨by rw [HE.out]; rfl, ?_, HK5.out.set2 _ _⟩
    rw [HE.out]
    exact MemL.setP (l := l.setC s { l.at_ s with lock := (p : Int) + 1 }) HH5.out hp' 2 (by decide) (.int .i64 4) { l.pr p with phase := 4 } rfl
  · have hF : rlkV l p s = none := by unfold rlkV; rw [if_pos hl]
    have hF2 : lokV l p s 4 = none := by unfold lokV; rw [if_pos hl]
    rw [hF2] at HE
    rw [hF] at HH5 ⊢
    clear hF hF2 hl
    go_wp2_with fail
    go_ret
    exact ⟨by rw [HE.out]; rfl, by rw [HE.out]; exact HH5.out, HK5.out⟩
set_option maxRecDepth 100000 in
set_option maxHeartbeats 6400000 in
theorem rstep_4 (l : Ls) (n m p d s c x base G1 G2 c1 c2 : Nat) (w : World) (hn : l.cs.length = n) (hm : l.ps.length = m) (h : MemL w base G1 G2 c1 c2 l) (hp : p < m) (hd : d < n) (hs : s < n) (hc : c < n) (hx : x < n) (_m8 : m ≤ 8) (_n66 : n ≤ 66) (hxd : (l.pr p).pred = (d : Int)) (hxs : (l.pr p).succ = (s : Int)) (hxc : (l.pr p).cell = (c : Int)) (hxx : (l.pr p).next = (x : Int)) (hph : (l.pr p).phase = 4) :
    Calls Tryz.prog 58 #[.agg #[.slice (some ⟨G1, 0, none⟩) n c1, .slice (some ⟨G2, 0, none⟩) m c2], .int .i64 (p : Int)] w (OptP (stepV l p) l base G1 G2 c1 c2 w) := by
  have HE := Lib.hid (step_4 hph hxd hxs hxc)
  have HK : Hid (Chg G1 G2 w _) := Lib.hid (Chg.of ((Below.refl w.heap.size w).alloc (Nat.le_refl _) (.cells #[.slice (some ⟨G1, 0, none⟩) n c1, .slice (some ⟨G2, 0, none⟩) m c2] 28)))
  have HH := Lib.hid (h.below ((Below.refl _ _).alloc (Nat.le_refl _) (.cells #[.slice (some ⟨G1, 0, none⟩) n c1, .slice (some ⟨G2, 0, none⟩) m c2] 28)))
  have HX := Lib.hid (Has.new w 28 #[.slice (some ⟨G1, 0, none⟩) n c1, .slice (some ⟨G2, 0, none⟩) m c2])
  have hbn : G1 < w.heap.size ∧ G2 < w.heap.size := ⟨h.cs.lt, h.ps.lt⟩
  have hne : ¬ G1 = G2 := h.ne
  have hne' : ¬ G2 = G1 := fun e => h.ne e.symm
  have HN := Lib.hid hn
  have HM := Lib.hid hm
  have hp' : p < l.ps.length := by rw [hm]; exact hp
  have hd' : d < l.cs.length := by rw [hn]; exact hd
  have hs' : s < l.cs.length := by rw [hn]; exact hs
  have hc' : c < l.cs.length := by rw [hn]; exact hc
  have hx' : x < l.cs.length := by rw [hn]; exact hx
  have p0 : (0 : Int) ≤ (p : Int) := by omega
  have p1 : (p : Int) < (m : Int) := by omega
  have r0 : (0 : Int) ≤ (d : Int) := by omega
  have r1 : (d : Int) < (n : Int) := by omega
  have q0 : (0 : Int) ≤ (s : Int) := by omega
  have q1 : (s : Int) < (n : Int) := by omega
  have t0 : (0 : Int) ≤ (c : Int) := by omega
  have t1 : (c : Int) < (n : Int) := by omega
  have u0 : (0 : Int) ≤ (x : Int) := by omega
  have u1 : (x : Int) < (n : Int) := by omega
  have HXD := Lib.hid hxd
  have HXS := Lib.hid hxs
  have HXC := Lib.hid hxc
  have HXX := Lib.hid hxx
  have HPH := Lib.hid hph
  obtain ⟨O, hO⟩ : ∃ O, O = stepV l p := ⟨_, rfl⟩
  rw [← hO] at HE ⊢
  clear h hn hm hxd hxs hxc hxx hph hO
  go_enter Tryz.func58, Tryz.ntmps58
  go_upto_region 1 with fail
  generalize w.alloc (.cells #[.slice (some ⟨G1, 0, none⟩) n c1, .slice (some ⟨G2, 0, none⟩) m c2] 28) = W at *
  obtain ⟨B, hB⟩ : ∃ B, B = w.heap.size := ⟨_, rfl⟩
  rw [← hB] at HX hbn ⊢
  clear hB
  have x0 := HX.out.cell 0
  have x1 := HX.out.cell 1
  have hX1 : ¬ B = G1 := by omega
  have hX2 : ¬ B = G2 := by omega
  obtain ⟨z1, z2⟩ := HH.out.fz
  obtain ⟨a1, a2, a3, a4, a5, a6, a7⟩ := HH.out.proc hp'
  rw [HPH.out] at a3
  rw [HXD.out] at a4
  rw [HXS.out] at a5
  rw [HXX.out] at a6
  rw [HXC.out] at a2
  have HCL := Lib.hid (rcheckp_any l n m p d s c base G1 G2 c1 c2 W HN.out HM.out HH.out hp hd hs hc HXD.out HXS.out HXC.out)
  go_wp2_with fail
  refine (HCL.out).mono ?_
  rintro e w5 ⟨rfl, hm5, hb5⟩
  have HH5 := Lib.hid hm5
  have HK5 := Lib.hid (HK.out.trans hb5)
  clear x0 x1 z1 z2 a1 a2 a3 a4 a5 a6 a7 hm5 hb5
  go_wp2_with fail
  go_ret
  exact ⟨by rw [HE.out]; rfl, by rw [HE.out]; exact HH5.out, HK5.out⟩
set_option maxRecDepth 100000 in
set_option maxHeartbeats 6400000 in
theorem rstep_5 (l : Ls) (n m p d s c x base G1 G2 c1 c2 : Nat) (n0 : 0 < n) (w : World) (hn : l.cs.length = n) (hm : l.ps.length = m) (h : MemL w base G1 G2 c1 c2 l) (hp : p < m) (hd : d < n) (hs : s < n) (hc : c < n) (hx : x < n) (m8 : m ≤ 8) (n66 : n ≤ 66) (hxd : (l.pr p).pred = (d : Int)) (hxs : (l.pr p).succ = (s : Int)) (hxc : (l.pr p).cell = (c : Int)) (hxx : (l.pr p).next = (x : Int)) (hph : (l.pr p).phase = 5) :
    Calls Tryz.prog 58 #[.agg #[.slice (some ⟨G1, 0, none⟩) n c1, .slice (some ⟨G2, 0, none⟩) m c2], .int .i64 (p : Int)] w (OptP (stepV l p) l base G1 G2 c1 c2 w) := by
  have HE := Lib.hid (step_5 hph)
  have HK : Hid (Chg G1 G2 w _) := Lib.hid (Chg.of ((Below.refl w.heap.size w).alloc (Nat.le_refl _) (.cells #[.slice (some ⟨G1, 0, none⟩) n c1, .slice (some ⟨G2, 0, none⟩) m c2] 28)))
  have HH := Lib.hid (h.below ((Below.refl _ _).alloc (Nat.le_refl _) (.cells #[.slice (some ⟨G1, 0, none⟩) n c1, .slice (some ⟨G2, 0, none⟩) m c2] 28)))
  have HX := Lib.hid (Has.new w 28 #[.slice (some ⟨G1, 0, none⟩) n c1, .slice (some ⟨G2, 0, none⟩) m c2])
  have hbn : G1 < w.heap.size ∧ G2 < w.heap.size := ⟨h.cs.lt, h.ps.lt⟩
  have hne : ¬ G1 = G2 := h.ne
  have hne' : ¬ G2 = G1 := fun e => h.ne e.symm
  have HN := Lib.hid hn
  have HM := Lib.hid hm
  have hp' : p < l.ps.length := by rw [hm]; exact hp
  have hd' : d < l.cs.length := by rw [hn]; exact hd
  have hs' : s < l.cs.length := by rw [hn]; exact hs
  have hc' : c < l.cs.length := by rw [hn]; exact hc
  have hx' : x < l.cs.length := by rw [hn]; exact hx
  have p0 : (0 : Int) ≤ (p : Int) := by omega
  have p1 : (p : Int) < (m : Int) := by omega
  have r0 : (0 : Int) ≤ (d : Int) := by omega
  have r1 : (d : Int) < (n : Int) := by omega
  have q0 : (0 : Int) ≤ (s : Int) := by omega
  have q1 : (s : Int) < (n : Int) := by omega
  have t0 : (0 : Int) ≤ (c : Int) := by omega
  have t1 : (c : Int) < (n : Int) := by omega
  have u0 : (0 : Int) ≤ (x : Int) := by omega
  have u1 : (x : Int) < (n : Int) := by omega
  have HXD := Lib.hid hxd
  have HXS := Lib.hid hxs
  have HXC := Lib.hid hxc
  have HXX := Lib.hid hxx
  have HPH := Lib.hid hph
  obtain ⟨O, hO⟩ : ∃ O, O = stepV l p := ⟨_, rfl⟩
  rw [← hO] at HE ⊢
  clear h hn hm hxd hxs hxc hxx hph hO
  go_enter Tryz.func58, Tryz.ntmps58
  go_upto_region 1 with fail
  generalize w.alloc (.cells #[.slice (some ⟨G1, 0, none⟩) n c1, .slice (some ⟨G2, 0, none⟩) m c2] 28) = W at *
  obtain ⟨B, hB⟩ : ∃ B, B = w.heap.size := ⟨_, rfl⟩
  rw [← hB] at HX hbn ⊢
  clear hB
  have x0 := HX.out.cell 0
  have x1 := HX.out.cell 1
  have hX1 : ¬ B = G1 := by omega
  have hX2 : ¬ B = G2 := by omega
  obtain ⟨z1, z2⟩ := HH.out.fz
  obtain ⟨a1, a2, a3, a4, a5, a6, a7⟩ := HH.out.proc hp'
  rw [HPH.out] at a3
  rw [HXD.out] at a4
  rw [HXS.out] at a5
  rw [HXX.out] at a6
  rw [HXC.out] at a2
  have HCL := Lib.hid (runlock_any l n m p base G1 G2 c1 c2 W HN.out HM.out HH.out hp m8 n66)
  go_wp2_with fail
  refine (HCL.out).mono ?_
  rintro e w5 ⟨rfl, hm5, hb5⟩
  have HH5 := Lib.hid hm5
  have HK5 := Lib.hid (HK.out.trans hb5)
  have HX5 := Lib.hid (hb5.has HX.out hX1 hX2)
  clear x0 x1 z1 z2 a1 a2 a3 a4 a5 a6 a7 hm5 hb5 HH HK HX HCL
  have x0 := HX5.out.cell 0
  have x1 := HX5.out.cell 1
  obtain ⟨z1, z2⟩ := HH5.out.fz
  obtain ⟨a1, a2, a3, a4, a5, a6, a7⟩ := HH5.out.proc (i := p) hp'
  have h0 : 0 < (l.free p).cs.length := by rw [Ls.len_free]; omega
  obtain ⟨-, -, b3, -, -⟩ := HH5.out.cell (i := 0) h0
  have n1 : (0 : Int) < (n : Int) := by omega
  have hrt : ((l.free p).at_ 0).right = (l.at_ 0).right := by
    rw [Ls.at_free]
    split <;> rfl
  rw [hrt] at b3
  go_wp2_with fail
  clear x0 x1 z1 z2 a1 a2 a3 a4 a5 a6 a7 b3
  go_ret
  refine ⟨by rw [HE.out]; rfl, ?_, ((HK5.out.set2 _ _).set2 _ _).set2 _ _⟩
  rw [HE.out]
  exact MemL.up (MemL.up (MemL.setP (l := l.free p) HH5.out hp' 3 (by decide) (.int .i64 0) { l.pr p with pred := 0 } rfl) hp' 4 (by decide) (.int .i64 (l.at_ 0).right) { l.pr p with pred := 0, succ := (l.at_ 0).right } rfl) hp' 2 (by decide) (.int .i64 1) { l.pr p with pred := 0, succ := (l.at_ 0).right, phase := 1 } rfl
set_option maxRecDepth 100000 in
set_option maxHeartbeats 6400000 in
theorem rstep_13 (l : Ls) (n m p d s c x base G1 G2 c1 c2 : Nat) (w : World) (hn : l.cs.length = n) (hm : l.ps.length = m) (h : MemL w base G1 G2 c1 c2 l) (hp : p < m) (hd : d < n) (hs : s < n) (hc : c < n) (hx : x < n) (m8 : m ≤ 8) (n66 : n ≤ 66) (hxd : (l.pr p).pred = (d : Int)) (hxs : (l.pr p).succ = (s : Int)) (hxc : (l.pr p).cell = (c : Int)) (hxx : (l.pr p).next = (x : Int)) (hph : (l.pr p).phase = 13) :
    Calls Tryz.prog 58 #[.agg #[.slice (some ⟨G1, 0, none⟩) n c1, .slice (some ⟨G2, 0, none⟩) m c2], .int .i64 (p : Int)] w (OptP (stepV l p) l base G1 G2 c1 c2 w) := by
  have HE := Lib.hid (step_13 hph)
  have HK : Hid (Chg G1 G2 w _) := Lib.hid (Chg.of ((Below.refl w.heap.size w).alloc (Nat.le_refl _) (.cells #[.slice (some ⟨G1, 0, none⟩) n c1, .slice (some ⟨G2, 0, none⟩) m c2] 28)))
  have HH := Lib.hid (h.below ((Below.refl _ _).alloc (Nat.le_refl _) (.cells #[.slice (some ⟨G1, 0, none⟩) n c1, .slice (some ⟨G2, 0, none⟩) m c2] 28)))
  have HX := Lib.hid (Has.new w 28 #[.slice (some ⟨G1, 0, none⟩) n c1, .slice (some ⟨G2, 0, none⟩) m c2])
  have hbn : G1 < w.heap.size ∧ G2 < w.heap.size := ⟨h.cs.lt, h.ps.lt⟩
  have hne : ¬ G1 = G2 := h.ne
  have hne' : ¬ G2 = G1 := fun e => h.ne e.symm
  have HN := Lib.hid hn
  have HM := Lib.hid hm
  have hp' : p < l.ps.length := by rw [hm]; exact hp
  have hd' : d < l.cs.length := by rw [hn]; exact hd
  have hs' : s < l.cs.length := by rw [hn]; exact hs
  have hc' : c < l.cs.length := by rw [hn]; exact hc
  have hx' : x < l.cs.length := by rw [hn]; exact hx
  have p0 : (0 : Int) ≤ (p : Int) := by omega
  have p1 : (p : Int) < (m : Int) := by omega
  have r0 : (0 : Int) ≤ (d : Int) := by omega
  have r1 : (d : Int) < (n : Int) := by omega
  have q0 : (0 : Int) ≤ (s : Int) := by omega
  have q1 : (s : Int) < (n : Int) := by omega
  have t0 : (0 : Int) ≤ (c : Int) := by omega
  have t1 : (c : Int) < (n : Int) := by omega
  have u0 : (0 : Int) ≤ (x : Int) := by omega
  have u1 : (x : Int) < (n : Int) := by omega
  have HXD := Lib.hid hxd
  have HXS := Lib.hid hxs
  have HXC := Lib.hid hxc
  have HXX := Lib.hid hxx
  have HPH := Lib.hid hph
  obtain ⟨O, hO⟩ : ∃ O, O = stepV l p := ⟨_, rfl⟩
  rw [← hO] at HE ⊢
  clear h hn hm hxd hxs hxc hxx hph hO
  go_enter Tryz.func58, Tryz.ntmps58
  go_upto_region 1 with fail
  generalize w.alloc (.cells #[.slice (some ⟨G1, 0, none⟩) n c1, .slice (some ⟨G2, 0, none⟩) m c2] 28) = W at *
  obtain ⟨B, hB⟩ : ∃ B, B = w.heap.size := ⟨_, rfl⟩
  rw [← hB] at HX hbn ⊢
  clear hB
  have x0 := HX.out.cell 0
  have x1 := HX.out.cell 1
  have hX1 : ¬ B = G1 := by omega
  have hX2 : ¬ B = G2 := by omega
  obtain ⟨z1, z2⟩ := HH.out.fz
  obtain ⟨a1, a2, a3, a4, a5, a6, a7⟩ := HH.out.proc hp'
  rw [HPH.out] at a3
  rw [HXD.out] at a4
  rw [HXS.out] at a5
  rw [HXX.out] at a6
  rw [HXC.out] at a2
  have HCL := Lib.hid (runlock_any l n m p base G1 G2 c1 c2 W HN.out HM.out HH.out hp m8 n66)
  go_wp2_with fail
  refine (HCL.out).mono ?_
  rintro e w5 ⟨rfl, hm5, hb5⟩
  have HH5 := Lib.hid hm5
  have HK5 := Lib.hid (HK.out.trans hb5)
  have HX5 := Lib.hid (hb5.has HX.out hX1 hX2)
  clear x0 x1 z1 z2 a1 a2 a3 a4 a5 a6 a7 hm5 hb5 HH HK HX HCL
  have x0 := HX5.out.cell 0
  have x1 := HX5.out.cell 1
  obtain ⟨z1, z2⟩ := HH5.out.fz
  obtain ⟨a1, a2, a3, a4, a5, a6, a7⟩ := HH5.out.proc (i := p) hp'
  go_wp2_with fail
  clear x0 x1 z1 z2 a1 a2 a3 a4 a5 a6 a7
  go_ret
  refine ⟨by rw [HE.out]; rfl, ?_, HK5.out.set2 _ _⟩
  rw [HE.out]
  exact MemL.setP (l := l.free p) HH5.out hp' 2 (by decide) (.int .i64 18) { l.pr p with phase := 18 } rfl
set_option maxRecDepth 100000 in
set_option maxHeartbeats 6400000 in
theorem rstep_9 (l : Ls) (n m p d s c x base G1 G2 c1 c2 : Nat) (r : Nat) (hr : r < n) (hcr : (l.at_ c).right = (r : Int)) (w : World) (hn : l.cs.length = n) (hm : l.ps.length = m) (h : MemL w base G1 G2 c1 c2 l) (hp : p < m) (hd : d < n) (hs : s < n) (hc : c < n) (hx : x < n) (m8 : m ≤ 8) (_n66 : n ≤ 66) (hxd : (l.pr p).pred = (d : Int)) (hxs : (l.pr p).succ = (s : Int)) (hxc : (l.pr p).cell = (c : Int)) (hxx : (l.pr p).next = (x : Int)) (hph : (l.pr p).phase = 9) :
    Calls Tryz.prog 58 #[.agg #[.slice (some ⟨G1, 0, none⟩) n c1, .slice (some ⟨G2, 0, none⟩) m c2], .int .i64 (p : Int)] w (OptP (stepV l p) l base G1 G2 c1 c2 w) := by
  have HE := Lib.hid (step_9 hph hxc hcr)
  have HK : Hid (Chg G1 G2 w _) := Lib.hid (Chg.of ((Below.refl w.heap.size w).alloc (Nat.le_refl _) (.cells #[.slice (some ⟨G1, 0, none⟩) n c1, .slice (some ⟨G2, 0, none⟩) m c2] 28)))
  have HH := Lib.hid (h.below ((Below.refl _ _).alloc (Nat.le_refl _) (.cells #[.slice (some ⟨G1, 0, none⟩) n c1, .slice (some ⟨G2, 0, none⟩) m c2] 28)))
  have HX := Lib.hid (Has.new w 28 #[.slice (some ⟨G1, 0, none⟩) n c1, .slice (some ⟨G2, 0, none⟩) m c2])
  have hbn : G1 < w.heap.size ∧ G2 < w.heap.size := ⟨h.cs.lt, h.ps.lt⟩
  have hne : ¬ G1 = G2 := h.ne
  have hne' : ¬ G2 = G1 := fun e => h.ne e.symm
  have HN := Lib.hid hn
  have HM := Lib.hid hm
  have hp' : p < l.ps.length := by rw [hm]; exact hp
  have hd' : d < l.cs.length := by rw [hn]; exact hd
  have hs' : s < l.cs.length := by rw [hn]; exact hs
  have hc' : c < l.cs.length := by rw [hn]; exact hc
  have hx' : x < l.cs.length := by rw [hn]; exact hx
  have p0 : (0 : Int) ≤ (p : Int) := by omega
  have p1 : (p : Int) < (m : Int) := by omega
  have r0 : (0 : Int) ≤ (d : Int) := by omega
  have r1 : (d : Int) < (n : Int) := by omega
  have q0 : (0 : Int) ≤ (s : Int) := by omega
  have q1 : (s : Int) < (n : Int) := by omega
  have t0 : (0 : Int) ≤ (c : Int) := by omega
  have t1 : (c : Int) < (n : Int) := by omega
  have u0 : (0 : Int) ≤ (x : Int) := by omega
  have u1 : (x : Int) < (n : Int) := by omega
  have HXD := Lib.hid hxd
  have HXS := Lib.hid hxs
  have HXC := Lib.hid hxc
  have HXX := Lib.hid hxx
  have HPH := Lib.hid hph
  obtain ⟨O, hO⟩ : ∃ O, O = stepV l p := ⟨_, rfl⟩
  rw [← hO] at HE ⊢
  clear h hn hm hxd hxs hxc hxx hph hO
  go_enter Tryz.func58, Tryz.ntmps58
  go_upto_region 1 with fail
  generalize w.alloc (.cells #[.slice (some ⟨G1, 0, none⟩) n c1, .slice (some ⟨G2, 0, none⟩) m c2] 28) = W at *
  obtain ⟨B, hB⟩ : ∃ B, B = w.heap.size := ⟨_, rfl⟩
  rw [← hB] at HX hbn ⊢
  clear hB
  have x0 := HX.out.cell 0
  have x1 := HX.out.cell 1
  have hX1 : ¬ B = G1 := by omega
  have hX2 : ¬ B = G2 := by omega
  obtain ⟨z1, z2⟩ := HH.out.fz
  obtain ⟨a1, a2, a3, a4, a5, a6, a7⟩ := HH.out.proc hp'
  rw [HPH.out] at a3
  rw [HXD.out] at a4
  rw [HXS.out] at a5
  rw [HXX.out] at a6
  rw [HXC.out] at a2
  obtain ⟨-, f2, f3, -, f5⟩ := HH.out.cell hc'
  have hcr9 := hcr
  rw [hcr9] at f3
  have HCR := Lib.hid hcr
  clear hcr hcr9
  go_upto_region 24 with fail
  go_quiet (fail)
  have hqb := below_drw (Below.refl W.heap.size W) nq
  have HHQ := Lib.hid (HH.out.below hqb)
  have HKQ := Lib.hid (HK.out.add hqb)
  have HXQ := Lib.hid (HX.out.below hqb)
  clear x0 x1 z1 z2 a1 a2 a3 a4 a5 a6 a7 f2 f3 f5 hqb HH HK HX
  generalize W.drewN nq = V at *
  have x0 := HXQ.out.cell 0
  have x1 := HXQ.out.cell 1
  have HCL := Lib.hid (rlock_any l n m p r base G1 G2 c1 c2 V HN.out HM.out HHQ.out hp hr m8)
  go_wp2_with fail
  refine (HCL.out).mono ?_
  rintro e w5 ⟨rfl, hm5, hb5⟩
  have HH5 := Lib.hid hm5
  have HK5 := Lib.hid (HKQ.out.trans hb5)
  have HX5 := Lib.hid (hb5.has HXQ.out hX1 hX2)
  clear x0 x1 hm5 hb5 HHQ HKQ HXQ HCL
  by_cases hl : (l.at_ r).lock = 0
  · have hF : rlkV l p r = some (l.setC r { l.at_ r with lock := (p : Int) + 1 }) := by unfold rlkV; rw [if_neg (fun q => q hl)]
    have hF2 : lknV l p r = some ((l.setC r { l.at_ r with lock := (p : Int) + 1 }).setP p { l.pr p with next := (r : Int), phase := 10 }) := by unfold lknV; rw [if_neg (fun q => q hl)]
    rw [hF2] at HE
    rw [hF] at HH5 ⊢
    clear hF hF2 hl
    have x0 := HX5.out.cell 0
    have x1 := HX5.out.cell 1
    obtain ⟨z1, z2⟩ := HH5.out.fz
    obtain ⟨a1, a2, a3, a4, a5, a6, a7⟩ := HH5.out.proc (i := p) hp'
    go_wp2_with fail
    clear x0 x1 z1 z2 a1 a2 a3 a4 a5 a6 a7
    go_ret
    refine ⟨by rw [HE.out]; rfl, ?_, (HK5.out.set2 _ _).set2 _ _⟩
    rw [HE.out]
    exact MemL.up (MemL.setP (l := l.setC r { l.at_ r with lock := (p : Int) + 1 }) HH5.out hp' 5 (by decide) (.int .i64 (r : Int)) { l.pr p with next := (r : Int) } rfl) hp' 2 (by decide) (.int .i64 10) { l.pr p with next := (r : Int), phase := 10 } rfl
  · have hF : rlkV l p r = none := by unfold rlkV; rw [if_pos hl]
    have hF2 : lknV l p r = none := by unfold lknV; rw [if_pos hl]
    rw [hF2] at HE
    rw [hF] at HH5 ⊢
    clear hF hF2 hl
    go_wp2_with fail
    go_ret
    exact ⟨by rw [HE.out]; rfl, by rw [HE.out]; exact HH5.out, HK5.out⟩
set_option maxRecDepth 100000 in
set_option maxHeartbeats 6400000 in
theorem rstep_6 (l : Ls) (n m p d s c x base G1 G2 c1 c2 : Nat) (w : World) (hn : l.cs.length = n) (hm : l.ps.length = m) (h : MemL w base G1 G2 c1 c2 l) (hp : p < m) (hd : d < n) (hs : s < n) (hc : c < n) (hx : x < n) (_m8 : m ≤ 8) (_n66 : n ≤ 66) (hxd : (l.pr p).pred = (d : Int)) (hxs : (l.pr p).succ = (s : Int)) (hxc : (l.pr p).cell = (c : Int)) (hxx : (l.pr p).next = (x : Int)) (hph : (l.pr p).phase = 6) :
    Calls Tryz.prog 58 #[.agg #[.slice (some ⟨G1, 0, none⟩) n c1, .slice (some ⟨G2, 0, none⟩) m c2], .int .i64 (p : Int)] w (OptP (stepV l p) l base G1 G2 c1 c2 w) := by
  have HE := Lib.hid (step_6 hph hxd hxs hxc)
  have HK : Hid (Chg G1 G2 w _) := Lib.hid (Chg.of ((Below.refl w.heap.size w).alloc (Nat.le_refl _) (.cells #[.slice (some ⟨G1, 0, none⟩) n c1, .slice (some ⟨G2, 0, none⟩) m c2] 28)))
  have HH := Lib.hid (h.below ((Below.refl _ _).alloc (Nat.le_refl _) (.cells #[.slice (some ⟨G1, 0, none⟩) n c1, .slice (some ⟨G2, 0, none⟩) m c2] 28)))
  have HX := Lib.hid (Has.new w 28 #[.slice (some ⟨G1, 0, none⟩) n c1, .slice (some ⟨G2, 0, none⟩) m c2])
  have hbn : G1 < w.heap.size ∧ G2 < w.heap.size := ⟨h.cs.lt, h.ps.lt⟩
  have hne : ¬ G1 = G2 := h.ne
  have hne' : ¬ G2 = G1 := fun e => h.ne e.symm
  have HN := Lib.hid hn
  have HM := Lib.hid hm
  have hp' : p < l.ps.length := by rw [hm]; exact hp
  have hd' : d < l.cs.length := by rw [hn]; exact hd
  have hs' : s < l.cs.length := by rw [hn]; exact hs
  have hc' : c < l.cs.length := by rw [hn]; exact hc
  have hx' : x < l.cs.length := by rw [hn]; exact hx
  have p0 : (0 : Int) ≤ (p : Int) := by omega
  have p1 : (p : Int) < (m : Int) := by omega
  have r0 : (0 : Int) ≤ (d : Int) := by omega
  have r1 : (d : Int) < (n : Int) := by omega
  have q0 : (0 : Int) ≤ (s : Int) := by omega
  have q1 : (s : Int) < (n : Int) := by omega
  have t0 : (0 : Int) ≤ (c : Int) := by omega
  have t1 : (c : Int) < (n : Int) := by omega
  have u0 : (0 : Int) ≤ (x : Int) := by omega
  have u1 : (x : Int) < (n : Int) := by omega
  have HXD := Lib.hid hxd
  have HXS := Lib.hid hxs
  have HXC := Lib.hid hxc
  have HXX := Lib.hid hxx
  have HPH := Lib.hid hph
  obtain ⟨O, hO⟩ : ∃ O, O = stepV l p := ⟨_, rfl⟩
  rw [← hO] at HE ⊢
  replace hO := Lib.hid hO
  clear h hn hm hxd hxs hxc hxx hph
  go_enter Tryz.func58, Tryz.ntmps58
  go_upto_region 1 with fail
  generalize w.alloc (.cells #[.slice (some ⟨G1, 0, none⟩) n c1, .slice (some ⟨G2, 0, none⟩) m c2] 28) = W at *
  obtain ⟨B, hB⟩ : ∃ B, B = w.heap.size := ⟨_, rfl⟩
  rw [← hB] at HX hbn ⊢
  clear hB
  have x0 := HX.out.cell 0
  have x1 := HX.out.cell 1
  have hX1 : ¬ B = G1 := by omega
  have hX2 : ¬ B = G2 := by omega
  obtain ⟨z1, z2⟩ := HH.out.fz
  obtain ⟨a1, a2, a3, a4, a5, a6, a7⟩ := HH.out.proc hp'
  rw [HPH.out] at a3
  rw [HXD.out] at a4
  rw [HXS.out] at a5
  rw [HXX.out] at a6
  rw [HXC.out] at a2
  have HCL := Lib.hid (rchg_6 l n m p d s c x base G1 G2 c1 c2 W HN.out HM.out HH.out hp hd hs hc hx _m8 _n66 HXD.out HXS.out HXC.out HXX.out HPH.out)
  go_wp2_with fail
  refine (HCL.out).mono ?_
  rintro e w5 ⟨rfl, hm5, hb5⟩
  have HH5 := Lib.hid hm5
  have HK5 := Lib.hid (HK.out.trans hb5)
  clear x0 x1 z1 z2 a1 a2 a3 a4 a5 a6 a7 hm5 hb5
  go_wp2_with fail
  go_ret
  exact ⟨by rw [HE.out]; rfl, by rw [hO.out]; exact HH5.out, HK5.out⟩
set_option maxRecDepth 100000 in
set_option maxHeartbeats 6400000 in
theorem rstep_7 (l : Ls) (n m p d s c x base G1 G2 c1 c2 : Nat) (w : World) (hn : l.cs.length = n) (hm : l.ps.length = m) (h : MemL w base G1 G2 c1 c2 l) (hp : p < m) (hd : d < n) (hs : s < n) (hc : c < n) (hx : x < n) (_m8 : m ≤ 8) (_n66 : n ≤ 66) (hxd : (l.pr p).pred = (d : Int)) (hxs : (l.pr p).succ = (s : Int)) (hxc : (l.pr p).cell = (c : Int)) (hxx : (l.pr p).next = (x : Int)) (hph : (l.pr p).phase = 7) :
    Calls Tryz.prog 58 #[.agg #[.slice (some ⟨G1, 0, none⟩) n c1, .slice (some ⟨G2, 0, none⟩) m c2], .int .i64 (p : Int)] w (OptP (stepV l p) l base G1 G2 c1 c2 w) := by
  have HE := Lib.hid (step_7 hph hxd hxc)
  have HK : Hid (Chg G1 G2 w _) := Lib.hid (Chg.of ((Below.refl w.heap.size w).alloc (Nat.le_refl _) (.cells #[.slice (some ⟨G1, 0, none⟩) n c1, .slice (some ⟨G2, 0, none⟩) m c2] 28)))
  have HH := Lib.hid (h.below ((Below.refl _ _).alloc (Nat.le_refl _) (.cells #[.slice (some ⟨G1, 0, none⟩) n c1, .slice (some ⟨G2, 0, none⟩) m c2] 28)))
  have HX := Lib.hid (Has.new w 28 #[.slice (some ⟨G1, 0, none⟩) n c1, .slice (some ⟨G2, 0, none⟩) m c2])
  have hbn : G1 < w.heap.size ∧ G2 < w.heap.size := ⟨h.cs.lt, h.ps.lt⟩
  have hne : ¬ G1 = G2 := h.ne
  have hne' : ¬ G2 = G1 := fun e => h.ne e.symm
  have HN := Lib.hid hn
  have HM := Lib.hid hm
  have hp' : p < l.ps.length := by rw [hm]; exact hp
  have hd' : d < l.cs.length := by rw [hn]; exact hd
  have hs' : s < l.cs.length := by rw [hn]; exact hs
  have hc' : c < l.cs.length := by rw [hn]; exact hc
  have hx' : x < l.cs.length := by rw [hn]; exact hx
  have p0 : (0 : Int) ≤ (p : Int) := by omega
  have p1 : (p : Int) < (m : Int) := by omega
  have r0 : (0 : Int) ≤ (d : Int) := by omega
  have r1 : (d : Int) < (n : Int) := by omega
  have q0 : (0 : Int) ≤ (s : Int) := by omega
  have q1 : (s : Int) < (n : Int) := by omega
  have t0 : (0 : Int) ≤ (c : Int) := by omega
  have t1 : (c : Int) < (n : Int) := by omega
  have u0 : (0 : Int) ≤ (x : Int) := by omega
  have u1 : (x : Int) < (n : Int) := by omega
  have HXD := Lib.hid hxd
  have HXS := Lib.hid hxs
  have HXC := Lib.hid hxc
  have HXX := Lib.hid hxx
  have HPH := Lib.hid hph
  obtain ⟨O, hO⟩ : ∃ O, O = stepV l p := ⟨_, rfl⟩
  rw [← hO] at HE ⊢
  replace hO := Lib.hid hO
  clear h hn hm hxd hxs hxc hxx hph
  go_enter Tryz.func58, Tryz.ntmps58
  go_upto_region 1 with fail
  generalize w.alloc (.cells #[.slice (some ⟨G1, 0, none⟩) n c1, .slice (some ⟨G2, 0, none⟩) m c2] 28) = W at *
  obtain ⟨B, hB⟩ : ∃ B, B = w.heap.size := ⟨_, rfl⟩
  rw [← hB] at HX hbn ⊢
  clear hB
  have x0 := HX.out.cell 0
  have x1 := HX.out.cell 1
  have hX1 : ¬ B = G1 := by omega
  have hX2 : ¬ B = G2 := by omega
  obtain ⟨z1, z2⟩ := HH.out.fz
  obtain ⟨a1, a2, a3, a4, a5, a6, a7⟩ := HH.out.proc hp'
  rw [HPH.out] at a3
  rw [HXD.out] at a4
  rw [HXS.out] at a5
  rw [HXX.out] at a6
  rw [HXC.out] at a2
  have HCL := Lib.hid (rchg_7 l n m p d s c x base G1 G2 c1 c2 W HN.out HM.out HH.out hp hd hs hc hx _m8 _n66 HXD.out HXS.out HXC.out HXX.out HPH.out)
  go_wp2_with fail
  refine (HCL.out).mono ?_
  rintro e w5 ⟨rfl, hm5, hb5⟩
  have HH5 := Lib.hid hm5
  have HK5 := Lib.hid (HK.out.trans hb5)
  clear x0 x1 z1 z2 a1 a2 a3 a4 a5 a6 a7 hm5 hb5
  go_wp2_with fail
  go_ret
  exact ⟨by rw [HE.out]; rfl, by rw [hO.out]; exact HH5.out, HK5.out⟩
set_option maxRecDepth 100000 in
set_option maxHeartbeats 6400000 in
theorem rstep_8 (l : Ls) (n m p d s c x base G1 G2 c1 c2 : Nat) (w : World) (hn : l.cs.length = n) (hm : l.ps.length = m) (h : MemL w base G1 G2 c1 c2 l) (hp : p < m) (hd : d < n) (hs : s < n) (hc : c < n) (hx : x < n) (_m8 : m ≤ 8) (_n66 : n ≤ 66) (hxd : (l.pr p).pred = (d : Int)) (hxs : (l.pr p).succ = (s : Int)) (hxc : (l.pr p).cell = (c : Int)) (hxx : (l.pr p).next = (x : Int)) (hph : (l.pr p).phase = 8) :
    Calls Tryz.prog 58 #[.agg #[.slice (some ⟨G1, 0, none⟩) n c1, .slice (some ⟨G2, 0, none⟩) m c2], .int .i64 (p : Int)] w (OptP (stepV l p) l base G1 G2 c1 c2 w) := by
  have HE := Lib.hid (step_8 hph hxs hxc)
  have HK : Hid (Chg G1 G2 w _) := Lib.hid (Chg.of ((Below.refl w.heap.size w).alloc (Nat.le_refl _) (.cells #[.slice (some ⟨G1, 0, none⟩) n c1, .slice (some ⟨G2, 0, none⟩) m c2] 28)))
  have HH := Lib.hid (h.below ((Below.refl _ _).alloc (Nat.le_refl _) (.cells #[.slice (some ⟨G1, 0, none⟩) n c1, .slice (some ⟨G2, 0, none⟩) m c2] 28)))
  have HX := Lib.hid (Has.new w 28 #[.slice (some ⟨G1, 0, none⟩) n c1, .slice (some ⟨G2, 0, none⟩) m c2])
  have hbn : G1 < w.heap.size ∧ G2 < w.heap.size := ⟨h.cs.lt, h.ps.lt⟩
  have hne : ¬ G1 = G2 := h.ne
  have hne' : ¬ G2 = G1 := fun e => h.ne e.symm
  have HN := Lib.hid hn
  have HM := Lib.hid hm
  have hp' : p < l.ps.length := by rw [hm]; exact hp
  have hd' : d < l.cs.length := by rw [hn]; exact hd
  have hs' : s < l.cs.length := by rw [hn]; exact hs
  have hc' : c < l.cs.length := by rw [hn]; exact hc
  have hx' : x < l.cs.length := by rw [hn]; exact hx
  have p0 : (0 : Int) ≤ (p : Int) := by omega
  have p1 : (p : Int) < (m : Int) := by omega
  have r0 : (0 : Int) ≤ (d : Int) := by omega
  have r1 : (d : Int) < (n : Int) := by omega
  have q0 : (0 : Int) ≤ (s : Int) := by omega
  have q1 : (s : Int) < (n : Int) := by omega
  have t0 : (0 : Int) ≤ (c : Int) := by omega
  have t1 : (c : Int) < (n : Int) := by omega
  have u0 : (0 : Int) ≤ (x : Int) := by omega
  have u1 : (x : Int) < (n : Int) := by omega
  have HXD := Lib.hid hxd
  have HXS := Lib.hid hxs
  have HXC := Lib.hid hxc
  have HXX := Lib.hid hxx
  have HPH := Lib.hid hph
  obtain ⟨O, hO⟩ : ∃ O, O = stepV l p := ⟨_, rfl⟩
  rw [← hO] at HE ⊢
  replace hO := Lib.hid hO
  clear h hn hm hxd hxs hxc hxx hph
  go_enter Tryz.func58, Tryz.ntmps58
  go_upto_region 1 with fail
  generalize w.alloc (.cells #[.slice (some ⟨G1, 0, none⟩) n c1, .slice (some ⟨G2, 0, none⟩) m c2] 28) = W at *
  obtain ⟨B, hB⟩ : ∃ B, B = w.heap.size := ⟨_, rfl⟩
  rw [← hB] at HX hbn ⊢
  clear hB
  have x0 := HX.out.cell 0
  have x1 := HX.out.cell 1
  have hX1 : ¬ B = G1 := by omega
  have hX2 : ¬ B = G2 := by omega
  obtain ⟨z1, z2⟩ := HH.out.fz
  obtain ⟨a1, a2, a3, a4, a5, a6, a7⟩ := HH.out.proc hp'
  rw [HPH.out] at a3
  rw [HXD.out] at a4
  rw [HXS.out] at a5
  rw [HXX.out] at a6
  rw [HXC.out] at a2
  have HCL := Lib.hid (rchg_8 l n m p d s c x base G1 G2 c1 c2 W HN.out HM.out HH.out hp hd hs hc hx _m8 _n66 HXD.out HXS.out HXC.out HXX.out HPH.out)
  go_wp2_with fail
  refine (HCL.out).mono ?_
  rintro e w5 ⟨rfl, hm5, hb5⟩
  have HH5 := Lib.hid hm5
  have HK5 := Lib.hid (HK.out.trans hb5)
  clear x0 x1 z1 z2 a1 a2 a3 a4 a5 a6 a7 hm5 hb5
  go_wp2_with fail
  go_ret
  exact ⟨by rw [HE.out]; rfl, by rw [hO.out]; exact HH5.out, HK5.out⟩
set_option maxRecDepth 100000 in
set_option maxHeartbeats 6400000 in
theorem rstep_10 (l : Ls) (n m p d s c x base G1 G2 c1 c2 : Nat) (w : World) (hn : l.cs.length = n) (hm : l.ps.length = m) (h : MemL w base G1 G2 c1 c2 l) (hp : p < m) (hd : d < n) (hs : s < n) (hc : c < n) (hx : x < n) (_m8 : m ≤ 8) (_n66 : n ≤ 66) (hxd : (l.pr p).pred = (d : Int)) (hxs : (l.pr p).succ = (s : Int)) (hxc : (l.pr p).cell = (c : Int)) (hxx : (l.pr p).next = (x : Int)) (hph : (l.pr p).phase = 10) :
    Calls Tryz.prog 58 #[.agg #[.slice (some ⟨G1, 0, none⟩) n c1, .slice (some ⟨G2, 0, none⟩) m c2], .int .i64 (p : Int)] w (OptP (stepV l p) l base G1 G2 c1 c2 w) := by
  have HE := Lib.hid (step_10 hph hxc)
  have HK : Hid (Chg G1 G2 w _) := Lib.hid (Chg.of ((Below.refl w.heap.size w).alloc (Nat.le_refl _) (.cells #[.slice (some ⟨G1, 0, none⟩) n c1, .slice (some ⟨G2, 0, none⟩) m c2] 28)))
  have HH := Lib.hid (h.below ((Below.refl _ _).alloc (Nat.le_refl _) (.cells #[.slice (some ⟨G1, 0, none⟩) n c1, .slice (some ⟨G2, 0, none⟩) m c2] 28)))
  have HX := Lib.hid (Has.new w 28 #[.slice (some ⟨G1, 0, none⟩) n c1, .slice (some ⟨G2, 0, none⟩) m c2])
  have hbn : G1 < w.heap.size ∧ G2 < w.heap.size := ⟨h.cs.lt, h.ps.lt⟩
  have hne : ¬ G1 = G2 := h.ne
  have hne' : ¬ G2 = G1 := fun e => h.ne e.symm
  have HN := Lib.hid hn
  have HM := Lib.hid hm
  have hp' : p < l.ps.length := by rw [hm]; exact hp
  have hd' : d < l.cs.length := by rw [hn]; exact hd
  have hs' : s < l.cs.length := by rw [hn]; exact hs
  have hc' : c < l.cs.length := by rw [hn]; exact hc
  have hx' : x < l.cs.length := by rw [hn]; exact hx
  have p0 : (0 : Int) ≤ (p : Int) := by omega
  have p1 : (p : Int) < (m : Int) := by omega
  have r0 : (0 : Int) ≤ (d : Int) := by omega
  have r1 : (d : Int) < (n : Int) := by omega
  have q0 : (0 : Int) ≤ (s : Int) := by omega
  have q1 : (s : Int) < (n : Int) := by omega
  have t0 : (0 : Int) ≤ (c : Int) := by omega
  have t1 : (c : Int) < (n : Int) := by omega
  have u0 : (0 : Int) ≤ (x : Int) := by omega
  have u1 : (x : Int) < (n : Int) := by omega
  have HXD := Lib.hid hxd
  have HXS := Lib.hid hxs
  have HXC := Lib.hid hxc
  have HXX := Lib.hid hxx
  have HPH := Lib.hid hph
  obtain ⟨O, hO⟩ : ∃ O, O = stepV l p := ⟨_, rfl⟩
  rw [← hO] at HE ⊢
  replace hO := Lib.hid hO
  clear h hn hm hxd hxs hxc hxx hph
  go_enter Tryz.func58, Tryz.ntmps58
  go_upto_region 1 with fail
  generalize w.alloc (.cells #[.slice (some ⟨G1, 0, none⟩) n c1, .slice (some ⟨G2, 0, none⟩) m c2] 28) = W at *
  obtain ⟨B, hB⟩ : ∃ B, B = w.heap.size := ⟨_, rfl⟩
  rw [← hB] at HX hbn ⊢
  clear hB
  have x0 := HX.out.cell 0
  have x1 := HX.out.cell 1
  have hX1 : ¬ B = G1 := by omega
  have hX2 : ¬ B = G2 := by omega
  obtain ⟨z1, z2⟩ := HH.out.fz
  obtain ⟨a1, a2, a3, a4, a5, a6, a7⟩ := HH.out.proc hp'
  rw [HPH.out] at a3
  rw [HXD.out] at a4
  rw [HXS.out] at a5
  rw [HXX.out] at a6
  rw [HXC.out] at a2
  have HCL := Lib.hid (rchg_10 l n m p d s c x base G1 G2 c1 c2 W HN.out HM.out HH.out hp hd hs hc hx _m8 _n66 HXD.out HXS.out HXC.out HXX.out HPH.out)
  go_wp2_with fail
  refine (HCL.out).mono ?_
  rintro e w5 ⟨rfl, hm5, hb5⟩
  have HH5 := Lib.hid hm5
  have HK5 := Lib.hid (HK.out.trans hb5)
  clear x0 x1 z1 z2 a1 a2 a3 a4 a5 a6 a7 hm5 hb5
  go_wp2_with fail
  go_ret
  exact ⟨by rw [HE.out]; rfl, by rw [hO.out]; exact HH5.out, HK5.out⟩
set_option maxRecDepth 100000 in
set_option maxHeartbeats 6400000 in
theorem rstep_11 (l : Ls) (n m p d s c x base G1 G2 c1 c2 : Nat) (w : World) (hn : l.cs.length = n) (hm : l.ps.length = m) (h : MemL w base G1 G2 c1 c2 l) (hp : p < m) (hd : d < n) (hs : s < n) (hc : c < n) (hx : x < n) (_m8 : m ≤ 8) (_n66 : n ≤ 66) (hxd : (l.pr p).pred = (d : Int)) (hxs : (l.pr p).succ = (s : Int)) (hxc : (l.pr p).cell = (c : Int)) (hxx : (l.pr p).next = (x : Int)) (hph : (l.pr p).phase = 11) :
    Calls Tryz.prog 58 #[.agg #[.slice (some ⟨G1, 0, none⟩) n c1, .slice (some ⟨G2, 0, none⟩) m c2], .int .i64 (p : Int)] w (OptP (stepV l p) l base G1 G2 c1 c2 w) := by
  have HE := Lib.hid (step_11 hph hxd hxx)
  have HK : Hid (Chg G1 G2 w _) := Lib.hid (Chg.of ((Below.refl w.heap.size w).alloc (Nat.le_refl _) (.cells #[.slice (some ⟨G1, 0, none⟩) n c1, .slice (some ⟨G2, 0, none⟩) m c2] 28)))
  have HH := Lib.hid (h.below ((Below.refl _ _).alloc (Nat.le_refl _) (.cells #[.slice (some ⟨G1, 0, none⟩) n c1, .slice (some ⟨G2, 0, none⟩) m c2] 28)))
  have HX := Lib.hid (Has.new w 28 #[.slice (some ⟨G1, 0, none⟩) n c1, .slice (some ⟨G2, 0, none⟩) m c2])
  have hbn : G1 < w.heap.size ∧ G2 < w.heap.size := ⟨h.cs.lt, h.ps.lt⟩
  have hne : ¬ G1 = G2 := h.ne
  have hne' : ¬ G2 = G1 := fun e => h.ne e.symm
  have HN := Lib.hid hn
  have HM := Lib.hid hm
  have hp' : p < l.ps.length := by rw [hm]; exact hp
  have hd' : d < l.cs.length := by rw [hn]; exact hd
  have hs' : s < l.cs.length := by rw [hn]; exact hs
  have hc' : c < l.cs.length := by rw [hn]; exact hc
  have hx' : x < l.cs.length := by rw [hn]; exact hx
  have p0 : (0 : Int) ≤ (p : Int) := by omega
  have p1 : (p : Int) < (m : Int) := by omega
  have r0 : (0 : Int) ≤ (d : Int) := by omega
  have r1 : (d : Int) < (n : Int) := by omega
  have q0 : (0 : Int) ≤ (s : Int) := by omega
  have q1 : (s : Int) < (n : Int) := by omega
  have t0 : (0 : Int) ≤ (c : Int) := by omega
  have t1 : (c : Int) < (n : Int) := by omega
  have u0 : (0 : Int) ≤ (x : Int) := by omega
  have u1 : (x : Int) < (n : Int) := by omega
  have HXD := Lib.hid hxd
  have HXS := Lib.hid hxs
  have HXC := Lib.hid hxc
  have HXX := Lib.hid hxx
  have HPH := Lib.hid hph
  obtain ⟨O, hO⟩ : ∃ O, O = stepV l p := ⟨_, rfl⟩
  rw [← hO] at HE ⊢
  replace hO := Lib.hid hO
  clear h hn hm hxd hxs hxc hxx hph
  go_enter Tryz.func58, Tryz.ntmps58
  go_upto_region 1 with fail
  generalize w.alloc (.cells #[.slice (some ⟨G1, 0, none⟩) n c1, .slice (some ⟨G2, 0, none⟩) m c2] 28) = W at *
  obtain ⟨B, hB⟩ : ∃ B, B = w.heap.size := ⟨_, rfl⟩
  rw [← hB] at HX hbn ⊢
  clear hB
  have x0 := HX.out.cell 0
  have x1 := HX.out.cell 1
  have hX1 : ¬ B = G1 := by omega
  have hX2 : ¬ B = G2 := by omega
  obtain ⟨z1, z2⟩ := HH.out.fz
  obtain ⟨a1, a2, a3, a4, a5, a6, a7⟩ := HH.out.proc hp'
  rw [HPH.out] at a3
  rw [HXD.out] at a4
  rw [HXS.out] at a5
  rw [HXX.out] at a6
  rw [HXC.out] at a2
  have HCL := Lib.hid (rchg_11 l n m p d s c x base G1 G2 c1 c2 W HN.out HM.out HH.out hp hd hs hc hx _m8 _n66 HXD.out HXS.out HXC.out HXX.out HPH.out)
  go_wp2_with fail
  refine (HCL.out).mono ?_
  rintro e w5 ⟨rfl, hm5, hb5⟩
  have HH5 := Lib.hid hm5
  have HK5 := Lib.hid (HK.out.trans hb5)
  clear x0 x1 z1 z2 a1 a2 a3 a4 a5 a6 a7 hm5 hb5
  go_wp2_with fail
  go_ret
  exact ⟨by rw [HE.out]; rfl, by rw [hO.out]; exact HH5.out, HK5.out⟩
set_option maxRecDepth 100000 in
set_option maxHeartbeats 6400000 in
theorem rstep_12 (l : Ls) (n m p d s c x base G1 G2 c1 c2 : Nat) (w : World) (hn : l.cs.length = n) (hm : l.ps.length = m) (h : MemL w base G1 G2 c1 c2 l) (hp : p < m) (hd : d < n) (hs : s < n) (hc : c < n) (hx : x < n) (_m8 : m ≤ 8) (_n66 : n ≤ 66) (hxd : (l.pr p).pred = (d : Int)) (hxs : (l.pr p).succ = (s : Int)) (hxc : (l.pr p).cell = (c : Int)) (hxx : (l.pr p).next = (x : Int)) (hph : (l.pr p).phase = 12) :
    Calls Tryz.prog 58 #[.agg #[.slice (some ⟨G1, 0, none⟩) n c1, .slice (some ⟨G2, 0, none⟩) m c2], .int .i64 (p : Int)] w (OptP (stepV l p) l base G1 G2 c1 c2 w) := by
  have HE := Lib.hid (step_12 hph hxd hxx)
  have HK : Hid (Chg G1 G2 w _) := Lib.hid (Chg.of ((Below.refl w.heap.size w).alloc (Nat.le_refl _) (.cells #[.slice (some ⟨G1, 0, none⟩) n c1, .slice (some ⟨G2, 0, none⟩) m c2] 28)))
  have HH := Lib.hid (h.below ((Below.refl _ _).alloc (Nat.le_refl _) (.cells #[.slice (some ⟨G1, 0, none⟩) n c1, .slice (some ⟨G2, 0, none⟩) m c2] 28)))
  have HX := Lib.hid (Has.new w 28 #[.slice (some ⟨G1, 0, none⟩) n c1, .slice (some ⟨G2, 0, none⟩) m c2])
  have hbn : G1 < w.heap.size ∧ G2 < w.heap.size := ⟨h.cs.lt, h.ps.lt⟩
  have hne : ¬ G1 = G2 := h.ne
  have hne' : ¬ G2 = G1 := fun e => h.ne e.symm
  have HN := Lib.hid hn
  have HM := Lib.hid hm
  have hp' : p < l.ps.length := by rw [hm]; exact hp
  have hd' : d < l.cs.length := by rw [hn]; exact hd
  have hs' : s < l.cs.length := by rw [hn]; exact hs
  have hc' : c < l.cs.length := by rw [hn]; exact hc
  have hx' : x < l.cs.length := by rw [hn]; exact hx
  have p0 : (0 : Int) ≤ (p : Int) := by omega
  have p1 : (p : Int) < (m : Int) := by omega
  have r0 : (0 : Int) ≤ (d : Int) := by omega
  have r1 : (d : Int) < (n : Int) := by omega
  have q0 : (0 : Int) ≤ (s : Int) := by omega
  have q1 : (s : Int) < (n : Int) := by omega
  have t0 : (0 : Int) ≤ (c : Int) := by omega
  have t1 : (c : Int) < (n : Int) := by omega
  have u0 : (0 : Int) ≤ (x : Int) := by omega
  have u1 : (x : Int) < (n : Int) := by omega
  have HXD := Lib.hid hxd
  have HXS := Lib.hid hxs
  have HXC := Lib.hid hxc
  have HXX := Lib.hid hxx
  have HPH := Lib.hid hph
  obtain ⟨O, hO⟩ : ∃ O, O = stepV l p := ⟨_, rfl⟩
  rw [← hO] at HE ⊢
  replace hO := Lib.hid hO
  clear h hn hm hxd hxs hxc hxx hph
  go_enter Tryz.func58, Tryz.ntmps58
  go_upto_region 1 with fail
  generalize w.alloc (.cells #[.slice (some ⟨G1, 0, none⟩) n c1, .slice (some ⟨G2, 0, none⟩) m c2] 28) = W at *
  obtain ⟨B, hB⟩ : ∃ B, B = w.heap.size := ⟨_, rfl⟩
  rw [← hB] at HX hbn ⊢
  clear hB
  have x0 := HX.out.cell 0
  have x1 := HX.out.cell 1
  have hX1 : ¬ B = G1 := by omega
  have hX2 : ¬ B = G2 := by omega
  obtain ⟨z1, z2⟩ := HH.out.fz
  obtain ⟨a1, a2, a3, a4, a5, a6, a7⟩ := HH.out.proc hp'
  rw [HPH.out] at a3
  rw [HXD.out] at a4
  rw [HXS.out] at a5
  rw [HXX.out] at a6
  rw [HXC.out] at a2
  have HCL := Lib.hid (rchg_12 l n m p d s c x base G1 G2 c1 c2 W HN.out HM.out HH.out hp hd hs hc hx _m8 _n66 HXD.out HXS.out HXC.out HXX.out HPH.out)
  go_wp2_with fail
  refine (HCL.out).mono ?_
  rintro e w5 ⟨rfl, hm5, hb5⟩
  have HH5 := Lib.hid hm5
  have HK5 := Lib.hid (HK.out.trans hb5)
  clear x0 x1 z1 z2 a1 a2 a3 a4 a5 a6 a7 hm5 hb5
  go_wp2_with fail
  go_ret
  exact ⟨by rw [HE.out]; rfl, by rw [hO.out]; exact HH5.out, HK5.out⟩
end Lk
end Go.Proofs.YtmhbloefmknikaaGreatDoor
