/-
  step and Step of the reference of chapter 12. Conditions: the list is valid; it can be read, or be changed in place.
-/
import Derived.Test.YtmhbloefmknikaaGreatDoorOeF
import Derived.Test.YtmhbloefmknikaaGreatDoorMbE
namespace Go.Proofs.YtmhbloefmknikaaGreatDoor
open Go.RowKit Go.Maps
namespace Lf
open Lk
set_option maxRecDepth 100000 in
set_option maxHeartbeats 3200000 in
theorem rstF_1 (l : Ls) (n m p d s c x base G1 G2 c1 c2 : Nat) (w : World) (hn : l.cs.length = n) (hm : l.ps.length = m) (h : MemL w base G1 G2 c1 c2 l) (hp : p < m) (_hd : d < n) (hs : s < n) (hc : c < n) (_hx : x < n) (_hxd : (l.pr p).pred = (d : Int)) (hxs : (l.pr p).succ = (s : Int)) (hxc : (l.pr p).cell = (c : Int)) (_hxx : (l.pr p).next = (x : Int)) (hph : (l.pr p).phase = 1) (hkr : 1 ≤ (l.pr p).kind ∧ (l.pr p).kind ≤ 3) :
    Calls Tryz.prog 80 #[.agg #[.slice (some ⟨G1, 0, none⟩) n c1, .slice (some ⟨G2, 0, none⟩) m c2], .pointer (some ⟨G2, p * 7, none⟩)] w (StP ((stepV l p).getD l) base G1 G2 c1 c2 (.tuple #[]) w) := by
  have hp' : p < l.ps.length := by rw [hm]; exact hp
  have HK : Hid (Chg G1 G2 w _) := Lib.hid (Chg.of ((Below.refl w.heap.size w).alloc (Nat.le_refl _) (.cells #[.slice (some ⟨G1, 0, none⟩) n c1, .slice (some ⟨G2, 0, none⟩) m c2] 28)))
  have HH := Lib.hid (h.below ((Below.refl _ _).alloc (Nat.le_refl _) (.cells #[.slice (some ⟨G1, 0, none⟩) n c1, .slice (some ⟨G2, 0, none⟩) m c2] 28)))
  have HX := Lib.hid (Has.new w 28 #[.slice (some ⟨G1, 0, none⟩) n c1, .slice (some ⟨G2, 0, none⟩) m c2])
  have hbn : G1 < w.heap.size ∧ G2 < w.heap.size := ⟨h.cs.lt, h.ps.lt⟩
  have HE := Lib.hid (fnd_step hp' hph hxs hxc)
  have HN := Lib.hid hn
  have HM := Lib.hid hm
  have HF := Lib.hid (fun (U : World) (k : MemL U base G1 G2 c1 c2 l) => rfindF_any l n m p s c base G1 G2 c1 c2 U hn hm k hp hs hc hxs hxc hkr)
  have HPH := Lib.hid hph
  obtain ⟨F, hF⟩ : ∃ F, F = (stepV l p).getD l := ⟨_, rfl⟩
  have HR : Hid (F = fndV l p s c) := Lib.hid (by rw [hF, HE.out]; rfl)
  rw [← hF]
  clear h hn hm hxs hxc hph hF HE
  go_enter Tryz.func80, Tryz.ntmps80
  go_upto_region 1 with fail
  generalize w.alloc (.cells #[.slice (some ⟨G1, 0, none⟩) n c1, .slice (some ⟨G2, 0, none⟩) m c2] 28) = W at *
  obtain ⟨B, hB⟩ : ∃ B, B = w.heap.size := ⟨_, rfl⟩
  rw [← hB] at HX hbn ⊢
  clear hB
  have x0 := HX.out.cell 0
  have x1 := HX.out.cell 1
  have hX1 : ¬ B = G1 := by omega
  have hX2 : ¬ B = G2 := by omega
  obtain ⟨z1, z2⟩ := HH.out.fz
  obtain ⟨a1, a2, a3, a4, a5, a6, a7⟩ := HH.out.proc hp'
  rw [HPH.out] at a3
  go_wp2_with fail
  refine (HF.out _ HH.out).mono ?_
  rintro e w8 ⟨rfl, hm8, hb8⟩
  have HM8 := Lib.hid hm8
  have HK8 := Lib.hid (HK.out.trans hb8)
  clear hm8 hb8
  go_wp2_with fail
  go_end0
  exact ⟨rfl, by rw [HR.out]; exact HM8.out, HK8.out⟩
theorem rstF_any (l : Ls) (n m p base G1 G2 c1 c2 : Nat) (w : World) (hn : l.cs.length = n) (hm : l.ps.length = m) (h : MemL w base G1 G2 c1 c2 l) (hp : p < m) (v : Vlf l) (h0 : (l.pr p).phase ≠ 0) (h18 : (l.pr p).phase ≠ 18) :
    Calls Tryz.prog 80 #[.agg #[.slice (some ⟨G1, 0, none⟩) n c1, .slice (some ⟨G2, 0, none⟩) m c2], .pointer (some ⟨G2, p * 7, none⟩)] w (StP ((stepV l p).getD l) base G1 G2 c1 c2 (.tuple #[]) w) := by
  have hp' : p < l.ps.length := by rw [hm]; exact hp
  obtain ⟨d, hxd, hd⟩ := nat_of (v.pd hp')
  obtain ⟨s, hxs, hs⟩ := nat_of (v.sc hp')
  obtain ⟨c, hxc, hc⟩ := nat_of (v.ce hp')
  obtain ⟨x, hxx, hx⟩ := nat_of (v.nx hp')
  have hk := v.kd hp'
  have hi := v.id hp'
  rw [hn] at hd hs hc hx
  rcases v.ph p hp' with q | q | q | q | q | q | q | q
  · exact absurd q h0
  · exact rstF_1 l n m p d s c x base G1 G2 c1 c2 w hn hm h hp hd hs hc hx hxd hxs hxc hxx q ⟨by omega, hk.2⟩
  · exact rstF_6 l n m p d s c x base G1 G2 c1 c2 w hn hm h hp hd hs hc hx hxd hxs hxc hxx q
  · exact rstF_14 l n m p d s c x base G1 G2 c1 c2 w hn hm h hp hd hs hc hx hxd hxs hxc hxx q
  · exact rstF_15 l n m p d s c x base G1 G2 c1 c2 w hn hm h hp hd hs hc hx hxd hxs hxc hxx q
  · exact rstF_16 l n m p d s c x base G1 G2 c1 c2 w hn hm h hp hd hs hc hx hxd hxs hxc hxx q
  · exact rstF_17 l n m p d s c x base G1 G2 c1 c2 w hn hm h hp hd hs hc hx hxd hxs hxc hxx q
  · exact absurd q h18
end Lf
end Go.Proofs.YtmhbloefmknikaaGreatDoor
