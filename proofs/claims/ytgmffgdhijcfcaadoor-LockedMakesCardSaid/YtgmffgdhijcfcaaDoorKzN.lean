/-
  act, Step and Bound of package locked. Conditions: the list can be read; no list is long.
-/
import Derived.Test.YtgmffgdhijcfcaaDoorKzM
namespace Go.Proofs.YtgmffgdhijcfcaaDoor
open Go.RowKit Go.Maps
namespace Lk

theorem act_any (l : Ls) (n m p base G1 G2 c1 c2 : Nat) (w : World) (hn : l.cs.length = n) (hm : l.ps.length = m) (h : MemL w base G1 G2 c1 c2 l) (v : Vld l) (hp : p < m) :
    Calls Tryd.prog 49 #[.agg #[.slice (some ⟨G1, 0, none⟩) n c1, .slice (some ⟨G2, 0, none⟩) m c2], .int .i64 (p : Int)] w (OptP (stepV l p) l base G1 G2 c1 c2 w) := by
  have hp' : p < l.ps.length := by omega
  have n2 := v.n2
  have n66 : n ≤ 66 := by rw [← hn]; exact v.n66
  have m8 : m ≤ 8 := by rw [← hm]; exact v.m8
  obtain ⟨d, hxd, hd⟩ := nat_of (v.pd p hp')
  obtain ⟨s, hxs, hs⟩ := nat_of (v.sc p hp')
  obtain ⟨c, hxc, hc⟩ := nat_of (v.ce p hp')
  obtain ⟨x, hxx, hx⟩ := nat_of (v.nx p hp')
  rw [hn] at hd hs hc hx
  have hph := v.ph p hp'
  have hcs : (l.pr p).phase = 0 ∨ (l.pr p).phase = 1 ∨ (l.pr p).phase = 2 ∨ (l.pr p).phase = 3 ∨ (l.pr p).phase = 4 ∨ (l.pr p).phase = 5 ∨ (l.pr p).phase = 6 ∨ (l.pr p).phase = 7 ∨ (l.pr p).phase = 8 ∨ (l.pr p).phase = 9 ∨ (l.pr p).phase = 10 ∨ (l.pr p).phase = 11 ∨ (l.pr p).phase = 12 ∨ (l.pr p).phase = 13 ∨ (l.pr p).phase = 18 := by omega
  rcases hcs with q | q | q | q | q | q | q | q | q | q | q | q | q | q | q
  · exact act_0 l n m p d s c x base G1 G2 c1 c2 w hn hm h hp hd hs hc hx m8 n66 hxd hxs hxc hxx q
  · exact act_1 l n m p d s c x base G1 G2 c1 c2 w hn hm h hp hd hs hc hx m8 n66 hxd hxs hxc hxx q
  · exact act_2 l n m p d s c x base G1 G2 c1 c2 w hn hm h hp hd hs hc hx m8 n66 hxd hxs hxc hxx q
  · exact act_3 l n m p d s c x base G1 G2 c1 c2 w hn hm h hp hd hs hc hx m8 n66 hxd hxs hxc hxx q
  · exact act_4 l n m p d s c x base G1 G2 c1 c2 w hn hm h hp hd hs hc hx m8 n66 hxd hxs hxc hxx q
  · exact act_5 l n m p d s c x base G1 G2 c1 c2 (by omega) w hn hm h hp hd hs hc hx m8 n66 hxd hxs hxc hxx q
  · exact act_6 l n m p d s c x base G1 G2 c1 c2 w hn hm h hp hd hs hc hx m8 n66 hxd hxs hxc hxx q
  · exact act_7 l n m p d s c x base G1 G2 c1 c2 w hn hm h hp hd hs hc hx m8 n66 hxd hxs hxc hxx q
  · exact act_8 l n m p d s c x base G1 G2 c1 c2 w hn hm h hp hd hs hc hx m8 n66 hxd hxs hxc hxx q
  · obtain ⟨r, hcr, hr⟩ := nat_of (v.rg c (by omega))
    rw [hn] at hr
    exact act_9 l n m p d s c x base G1 G2 c1 c2 r hr hcr w hn hm h hp hd hs hc hx m8 n66 hxd hxs hxc hxx q
  · exact act_10 l n m p d s c x base G1 G2 c1 c2 w hn hm h hp hd hs hc hx m8 n66 hxd hxs hxc hxx q
  · exact act_11 l n m p d s c x base G1 G2 c1 c2 w hn hm h hp hd hs hc hx m8 n66 hxd hxs hxc hxx q
  · exact act_12 l n m p d s c x base G1 G2 c1 c2 w hn hm h hp hd hs hc hx m8 n66 hxd hxs hxc hxx q
  · exact act_13 l n m p d s c x base G1 G2 c1 c2 w hn hm h hp hd hs hc hx m8 n66 hxd hxs hxc hxx q
  · exact act_18 l n m p d s c x base G1 G2 c1 c2 w hn hm h hp hd hs hc hx m8 n66 hxd hxs hxc hxx q
/-- What a step leads to; none: the process is none, waits, or has nothing to do. -/
def stpO (l : Ls) (p : Int) : Option Ls := if 0 ≤ p ∧ p < (l.ps.length : Int) then stepV l p.toNat else none
/-- A list that a call returns. -/
def StpP (l : Ls) (p : Int) (n m : Nat) (w : World) (e : Ending) (w' : World) : Prop := ∃ G1 G2 d1 d2, e = .returned (.tuple #[.agg #[.slice (some ⟨G1, 0, none⟩) n d1, .slice (some ⟨G2, 0, none⟩) m d2], .bool (stpO l p).isSome]) ∧ RdL w' w.heap.size (some ⟨G1, 0, none⟩) (some ⟨G2, 0, none⟩) ((stpO l p).getD l) ∧ Below w.heap.size w w'
theorem step_end {w W4 w8 : World} {B X G1 G2 d1 d2 : Nat} {l' : Ls} (hB : B = w.heap.size) (hb : Below B w W4) (h2 : B + 1 + 1 ≤ X) (g1 : X ≤ G1) (g2 : X ≤ G2) (hc : Chg G1 G2 W4.drew w8) (hm : MemL w8 X G1 G2 d1 d2 l') (u v : Value) :
    RdL ((w8.setCell ⟨B + 1, 0, none⟩ u).setCell ⟨B + 1, 1, none⟩ v) w.heap.size (some ⟨G1, 0, none⟩) (some ⟨G2, 0, none⟩) l' ∧ Below w.heap.size w ((w8.setCell ⟨B + 1, 0, none⟩ u).setCell ⟨B + 1, 1, none⟩ v) := by
  subst hB
  have hs : w.heap.size ≤ W4.drew.heap.size := hb.size
  have h8 : Below w.heap.size w w8 := hb.drew.trans (hc.below (by omega) (by omega) hs)
  refine ⟨(hm.rd.keep (by simp [World.setCell]) fun i h1 h3 => ?_).low (by omega), (h8.setCell (p := ⟨w.heap.size + 1, 0, none⟩) (by simp only; omega) u).setCell (p := ⟨w.heap.size + 1, 1, none⟩) (by simp only; omega) v⟩
  rw [Below.heap_setCell _ ⟨w.heap.size + 1, 1, none⟩ _ _ (by simp only; omega), Below.heap_setCell _ ⟨w.heap.size + 1, 0, none⟩ _ _ (by simp only; omega)]
theorem Has.drew {w : World} {b : Nat} {t : TypeId} {cs : Array Value} (h : Has w b t cs) : Has w.drew b t cs := h
theorem rd_of {w : World} {A1 A2 : Option Addr} {l : Ls} (h : RdL w 0 A1 A2 l) (hn : 0 < l.cs.length) (hm : 0 < l.ps.length) : ∃ a1 a2, A1 = some a1 ∧ A2 = some a2 := by
  obtain ⟨b, o, e, _⟩ := h.cell hn
  obtain ⟨b', o', e', _⟩ := h.proc hm
  exact ⟨_, _, e, e'⟩
set_option maxRecDepth 100000 in
set_option maxHeartbeats 6400000 in
theorem step_any (A1 A2 : Addr) (l : Ls) (p : Int) (n m c1 c2 : Nat) (w : World) (hn : l.cs.length = n) (hm : l.ps.length = m) (h : RdL w 0 (some A1) (some A2) l) (v : Vld l) :
    Calls Tryd.prog 23 #[.agg #[.slice (some A1) n c1, .slice (some A2) m c2], .int .i64 p] w (StpP l p n m w) := by
  have n0 : 0 < n := by have := v.n2; omega
  have m0 : 0 < m := by have := v.m1; omega
  have n66 : n ≤ 66 := by rw [← hn]; exact v.n66
  have m8 : m ≤ 8 := by rw [← hm]; exact v.m8
  have hx := ((Has.new w 35 #[.slice (some A1) n c1, .slice (some A2) m c2]).below ((Below.refl _ _).alloc (Nat.le_refl _) (.cells #[.slice none 0 0, .slice none 0 0] 35)))
  have hb := ((Below.refl w.heap.size w).alloc (Nat.le_refl _) (.cells #[.slice (some A1) n c1, .slice (some A2) m c2] 35)).alloc (by rw [World.size_alloc]; omega) (.cells #[.slice none 0 0, .slice none 0 0] 35)
  have hy := Has.new (w.alloc (.cells #[.slice (some A1) n c1, .slice (some A2) m c2] 35)) 35 #[.slice none 0 0, .slice none 0 0]
  have hz : ((w.alloc (.cells #[.slice (some A1) n c1, .slice (some A2) m c2] 35)).alloc (.cells #[.slice none 0 0, .slice none 0 0] 35)).heap.size = w.heap.size + 1 + 1 := by rw [World.size_alloc, World.size_alloc]
  rw [World.size_alloc] at hy
  have HB := Lib.hid hb
  have HX := Lib.hid hx
  have HY := Lib.hid hy
  have HL := Lib.hid (h.below hb)
  have HN := Lib.hid hn
  have HM := Lib.hid hm
  have HV := Lib.hid v
  clear hx hb hy h hn hm v
  go_enter Tryd.func23, Tryd.ntmps23
  go_upto_region 1 with fail
  generalize (w.alloc (.cells #[.slice (some A1) n c1, .slice (some A2) m c2] 35)).alloc (.cells #[.slice none 0 0, .slice none 0 0] 35) = W at *
  obtain ⟨B, hB⟩ : ∃ B, B = w.heap.size := ⟨_, rfl⟩
  rw [← hB] at HX HY HB hz ⊢
  have HBB := Lib.hid hB
  clear hB
  have x0 := HX.out.cell 0
  have x1 := HX.out.cell 1
  have HVA := Lib.hid ((valid_any (some A1) (some A2) l n m c1 c2 W HN.out HM.out HL.out).mono fun e w' h => h.yes HV.out)
  go_wp2_with fail
  refine (HVA.out).mono ?_
  rintro e w2 ⟨rfl, hb2⟩
  have HX2 := Lib.hid (HX.out.below hb2)
  have HY2 := Lib.hid (HY.out.below hb2)
  have HB2 := Lib.hid (HB.out.trans (hb2.mono (by omega)))
  have hs2 : B + 1 + 1 ≤ w2.heap.size := by have := hb2.size; omega
  have HCO := Lib.hid (copied_any A1 A2 l n m c1 c2 0 w2 HN.out HM.out (HL.out.below hb2) n0 m0 (by omega) (by omega))
  clear x0 x1 hb2 hz HVA HX HY HB HL
  have x0 := HX2.out.cell 0
  have x1 := HX2.out.cell 1
  go_wp2_with fail
  refine (HCO.out).mono ?_
  rintro e w3 ⟨G1, G2, d1, d2, rfl, hM, hb3⟩
  go_upto_region 4 with fail
  have hA := (Below.refl w3.heap.size w3).alloc (Nat.le_refl _) (.cells #[.slice (some ⟨G1, 0, none⟩) n d1, .slice (some ⟨G2, 0, none⟩) m d2] 35)
  have HX4 := Lib.hid (Has.new w3 35 #[.slice (some ⟨G1, 0, none⟩) n d1, .slice (some ⟨G2, 0, none⟩) m d2])
  have HY4 := Lib.hid ((HY2.out.below hb3).below hA)
  have HM4 := Lib.hid (hM.below hA)
  have hs3 : B + 1 + 1 ≤ w3.heap.size := Nat.le_trans hs2 hb3.size
  have HB4 := Lib.hid ((HB2.out.trans (hb3.mono (by omega))).trans (hA.mono (by omega)))
  have hg1 : G1 < w3.heap.size := hM.cs.lt
  have hg2 : G2 < w3.heap.size := hM.ps.lt
  have hg3 : w2.heap.size ≤ G1 := hM.b1
  have hg4 : w2.heap.size ≤ G2 := hM.b2
  clear hA hM hb3 HX2 HY2 HB2 x0 x1 HCO
  generalize w3.alloc (.cells #[.slice (some ⟨G1, 0, none⟩) n d1, .slice (some ⟨G2, 0, none⟩) m d2] 35) = W4 at *
  obtain ⟨C, hC⟩ : ∃ C, C = w3.heap.size := ⟨_, rfl⟩
  rw [← hC] at HX4 hs3 hg1 hg2 ⊢
  clear hC
  have x0 : W4.drew.cell? ⟨C, 0, none⟩ = some (.slice (some ⟨G1, 0, none⟩) n d1) := HX4.out.cell 0
  have x1 : W4.drew.cell? ⟨C, 1, none⟩ = some (.slice (some ⟨G2, 0, none⟩) m d2) := HX4.out.cell 1
  have y0 : W4.drew.cell? ⟨B + 1, 0, none⟩ = some (.slice none 0 0) := HY4.out.cell 0
  have y1 : W4.drew.cell? ⟨B + 1, 1, none⟩ = some (.slice none 0 0) := HY4.out.cell 1
  have z0 : W4.drew.frozen? ⟨B + 1, 0, none⟩ = false := HY4.out.frozen 0
  have z1 : W4.drew.frozen? ⟨B + 1, 1, none⟩ = false := HY4.out.frozen 1
  by_cases hp : 0 ≤ p ∧ p < (m : Int)
  · obtain ⟨k, rfl, hk⟩ : ∃ k : Nat, p = (k : Int) ∧ k < m := ⟨p.toNat, by omega, by omega⟩
    have HI := Lib.hid ((isIndex_any (k : Int) (m : Int) W4.drew).mono fun e w' h => h.yes hp)
    have HAC := Lib.hid (act_any l n m k w2.heap.size G1 G2 d1 d2 W4.drew HN.out HM.out HM4.out.drew HV.out hk)
    have HEQ : Hid (stpO l (k : Int) = stepV l k) := Lib.hid (by unfold stpO; rw [if_pos ⟨by omega, by rw [HM.out]; omega⟩]; rfl)
    clear hp
    go_region_law (first | (go_simp; go_at_call 44; refine (HI.out).mono ?_; rintro e w' ⟨rfl, rfl⟩) | (go_simp; go_at_call 49; refine (HAC.out).mono ?_; rintro e w8 ⟨rfl, hm8, hc8⟩; have x0 := (hc8.has (Has.drew HX4.out) (by omega) (by omega)).cell 0; have x1 := (hc8.has (Has.drew HX4.out) (by omega) (by omega)).cell 1; have y0 := (hc8.has (Has.drew HY4.out) (by omega) (by omega)).cell 0; have y1 := (hc8.has (Has.drew HY4.out) (by omega) (by omega)).cell 1; have z0 := (hc8.has (Has.drew HY4.out) (by omega) (by omega)).frozen 0; have z1 := (hc8.has (Has.drew HY4.out) (by omega) (by omega)).frozen 1))
    all_goals
      have HE := Lib.hid (step_end HBB.out HB4.out hs2 hg3 hg4 hc8 hm8 (.slice (some ⟨G1, 0, none⟩) n d1) (.slice (some ⟨G2, 0, none⟩) m d2))
      clear hm8 hc8
      go_wp2_with fail
      (try simp only [Exit.inBlock, Exit.then])
      have h2 := twice0 w8 (B + 1) (.slice (some ⟨G1, 0, none⟩) n d1) (.slice (some ⟨G2, 0, none⟩) m d2) _ _ y0 y1
      refine bodyPost_ret (results_list1 rfl _ _ (B + 1) rfl h2.1 h2.2) rfl ⟨G1, G2, d1, d2, ?_, ?_⟩
      · rw [HEQ.out]; rfl
      · rw [HEQ.out]; exact HE.out
  · have HI := Lib.hid ((isIndex_any p (m : Int) W4.drew).mono fun e w' h => h.no hp)
    have HEQ : Hid (stpO l p = none) := Lib.hid (by unfold stpO; rw [if_neg (by rw [HM.out]; exact hp)])
    have HM8 := Lib.hid HM4.out.drew
    clear hp
    have x0' : W4.cell? ⟨C, 0, none⟩ = some (.slice (some ⟨G1, 0, none⟩) n d1) := x0
    have x1' : W4.cell? ⟨C, 1, none⟩ = some (.slice (some ⟨G2, 0, none⟩) m d2) := x1
    have y0' : W4.cell? ⟨B + 1, 0, none⟩ = some (.slice none 0 0) := y0
    have y1' : W4.cell? ⟨B + 1, 1, none⟩ = some (.slice none 0 0) := y1
    have z0' : W4.frozen? ⟨B + 1, 0, none⟩ = false := z0
    have z1' : W4.frozen? ⟨B + 1, 1, none⟩ = false := z1
    first | (go_region_with (go_at_call 44; refine (HI.out).mono ?_; rintro e w' ⟨rfl, rfl⟩)) | fail
    all_goals
      have HE := Lib.hid (step_end HBB.out HB4.out hs2 hg3 hg4 Chg.refl HM8.out (.slice (some ⟨G1, 0, none⟩) n d1) (.slice (some ⟨G2, 0, none⟩) m d2))
      go_wp2_with fail
      (try simp only [Exit.inBlock, Exit.then])
      have h2 := twice0 W4.drew (B + 1) (.slice (some ⟨G1, 0, none⟩) n d1) (.slice (some ⟨G2, 0, none⟩) m d2) _ _ y0 y1
      refine bodyPost_ret (results_list1 rfl _ _ (B + 1) rfl h2.1 h2.2) rfl ⟨G1, G2, d1, d2, ?_, ?_⟩
      · rw [HEQ.out]; rfl
      · rw [HEQ.out]; exact HE.out
end Lk
end Go.Proofs.YtgmffgdhijcfcaaDoor
