/-
  Step of the reference of chapter 12. Conditions: the list can be read; no list is long.
-/
import Derived.Test.YtmhbloefmknikaaGreatDoorOeG
import Derived.Test.YtmhbloefmknikaaGreatDoorMbI
import Derived.Test.YtmhbloefmknikaaGreatDoorMbJ
import Derived.Test.YtmhbloefmknikaaGreatDoorLzJ
import Derived.Deep.RegionHeld3
namespace Go.Proofs.YtmhbloefmknikaaGreatDoor
open Go.RowKit Go.Maps
namespace Lf
open Lk
/-- An active process can always step. -/
theorem stp_some {l : Ls} {k : Nat} (h : isPh (l.pr k).phase) (h0 : (l.pr k).phase ≠ 0) (h18 : (l.pr k).phase ≠ 18) : ∃ l', stepV l k = some l' := by
  unfold stepV
  rcases h with q | q | q | q | q | q | q | q
  · exact absurd q h0
  all_goals first | exact absurd q h18 | skip
  all_goals simp only [q]
  all_goals (repeat' split)
  all_goals first | exact ⟨_, rfl⟩ | contradiction | omega
theorem stp_no {l : Ls} {k : Nat} (h : (l.pr k).phase = 0 ∨ (l.pr k).phase = 18) : stepV l k = none := by
  unfold stepV
  rcases h with q | q <;> simp [q]
/-- What Step answers, for any list. -/
def StqF (l : Ls) (p : Int) (n m : Nat) (w : World) (e : Ending) (w' : World) : Prop :=
  (¬ Vlf l ∧ e = .returned (.tuple #[zeroL, .bool false]) ∧ Below w.heap.size w w') ∨ (Vlf l ∧ StpP l p n m w e w')
set_option maxRecDepth 100000 in
set_option maxHeartbeats 6400000 in
theorem rstepF_any (A1 A2 : Option Addr) (l : Ls) (p : Int) (n m c1 c2 : Nat) (w : World) (hn : l.cs.length = n) (hm : l.ps.length = m) (h : RdL w 0 A1 A2 l) (n9 : n ≤ 1000000) (m9 : m ≤ 1000000) :
    Calls Tryz.prog 34 #[.agg #[.slice A1 n c1, .slice A2 m c2], .int .i64 p] w (StqF l p n m w) := by
  have hx := ((Has.new w 28 #[.slice A1 n c1, .slice A2 m c2]).below ((Below.refl _ _).alloc (Nat.le_refl _) (.cells #[.slice none 0 0, .slice none 0 0] 28)))
  have hb := ((Below.refl w.heap.size w).alloc (Nat.le_refl _) (.cells #[.slice A1 n c1, .slice A2 m c2] 28)).alloc (by rw [World.size_alloc]; omega) (.cells #[.slice none 0 0, .slice none 0 0] 28)
  have hy := Has.new (w.alloc (.cells #[.slice A1 n c1, .slice A2 m c2] 28)) 28 #[.slice none 0 0, .slice none 0 0]
  have hz : ((w.alloc (.cells #[.slice A1 n c1, .slice A2 m c2] 28)).alloc (.cells #[.slice none 0 0, .slice none 0 0] 28)).heap.size = w.heap.size + 1 + 1 := by rw [World.size_alloc, World.size_alloc]
  rw [World.size_alloc] at hy
  have HB := Lib.hid hb
  have HX := Lib.hid hx
  have HY := Lib.hid hy
  have HL := Lib.hid (h.below hb)
  have HN := Lib.hid hn
  have HM := Lib.hid hm
  clear hx hb hy h hn hm
  go_enter Tryz.func34, Tryz.ntmps34
  go_upto_region 1 with fail
  generalize (w.alloc (.cells #[.slice A1 n c1, .slice A2 m c2] 28)).alloc (.cells #[.slice none 0 0, .slice none 0 0] 28) = W at *
  obtain ⟨B, hB⟩ : ∃ B, B = w.heap.size := ⟨_, rfl⟩
  rw [← hB] at HX HY HB hz ⊢
  have HBB := Lib.hid hB
  clear hB
  have x0 := HX.out.cell 0
  have x1 := HX.out.cell 1
  have HVA := Lib.hid (rvalidF_any A1 A2 l n m c1 c2 W HN.out HM.out HL.out n9 m9)
  by_cases v : Vlf l
  · have HV := Lib.hid v
    replace HVA := Lib.hid (HVA.out.mono fun e w' h => h.yes v)
    have n66 : n ≤ 66 := by rw [← HN.out]; exact v.n66
    have m8 : m ≤ 8 := by rw [← HM.out]; exact v.m8
    have n0 : 0 < n := by have := v.n2; have := HN.out; omega
    have m0 : 0 < m := by have := v.m1; have := HM.out; omega
    obtain ⟨a1, a2, rfl, rfl⟩ := rd_of HL.out (by have := HN.out; omega) (by have := HM.out; omega)
    clear v
    go_wp2_with fail
    refine (HVA.out).mono ?_
    rintro e w2 ⟨rfl, hb2⟩
    have HX2 := Lib.hid (HX.out.below hb2)
    have HY2 := Lib.hid (HY.out.below hb2)
    have HB2 := Lib.hid (HB.out.trans (hb2.mono (by omega)))
    have HL2 := Lib.hid (HL.out.below hb2)
    have hs2 : B + 1 + 1 ≤ w2.heap.size := by have := hb2.size; omega
    clear x0 x1 hb2 hz HVA HX HY HB HL
    have x0 := HX2.out.cell 0
    have x1 := HX2.out.cell 1
    have HCO := Lib.hid (fun (V : World) (q : Below w2.heap.size w2 V) => (rcopy_any (some a1) (some a2) l n m c1 c2 0 V HN.out HM.out (HL2.out.below q) n9 m9).mono fun e w' h => copG_mem h n m HN.out HM.out n0 m0)
    go_wp2_with fail
    refine (HCO.out w2 (Below.refl _ _)).mono ?_
    rintro e w3 ⟨G1, G2, d1, d2, rfl, hM, hb3⟩
    go_upto_region 4 with fail
    have hA := (Below.refl w3.heap.size w3).alloc (Nat.le_refl _) (.cells #[.slice (some ⟨G1, 0, none⟩) n d1, .slice (some ⟨G2, 0, none⟩) m d2] 28)
    have HX4 := Lib.hid (Has.new w3 28 #[.slice (some ⟨G1, 0, none⟩) n d1, .slice (some ⟨G2, 0, none⟩) m d2])
    have HY4 := Lib.hid ((HY2.out.below hb3).below hA)
    have HZ4 := Lib.hid ((HX2.out.below hb3).below hA)
    have HM4 := Lib.hid (hM.below hA)
    have HL4 := Lib.hid ((HL2.out.below hb3).below hA)
    have hs3 : B + 1 + 1 ≤ w3.heap.size := Nat.le_trans hs2 hb3.size
    have HW4 : Hid (Below w2.heap.size w2 _) := Lib.hid (hb3.trans (hA.mono hb3.size))
    have HB4 := Lib.hid ((HB2.out.trans (hb3.mono (by omega))).trans (hA.mono (by omega)))
    have hg1 : G1 < w3.heap.size := hM.cs.lt
    have hg2 : G2 < w3.heap.size := hM.ps.lt
    have hg3 : w2.heap.size ≤ G1 := hM.b1
    have hg4 : w2.heap.size ≤ G2 := hM.b2
    clear hA hM hb3 HX2 HY2 HB2 x0 x1
    generalize w3.alloc (.cells #[.slice (some ⟨G1, 0, none⟩) n d1, .slice (some ⟨G2, 0, none⟩) m d2] 28) = W4 at *
    obtain ⟨C, hC⟩ : ∃ C, C = w3.heap.size := ⟨_, rfl⟩
    rw [← hC] at HX4 hs3 hg1 hg2 ⊢
    clear hC
    have x0 := HX4.out.cell 0
    have x1 := HX4.out.cell 1
    have v0 := HZ4.out.cell 0
    have v1 := HZ4.out.cell 1
    have y0 := HY4.out.cell 0
    have y1 := HY4.out.cell 1
    have z0 := HY4.out.frozen 0
    have z1 := HY4.out.frozen 1
    by_cases t0 : p < 0
    · have HEQ : Hid (stpO l p = none) := Lib.hid (by unfold stpO; rw [if_neg (by rw [HM.out]; omega)])
      go_wp2_with fail
      have HE := Lib.hid (own_end HBB.out HB4.out hs2 ((HM4.out).rd) (.slice (some ⟨G1, 0, none⟩) n d1) (.slice (some ⟨G2, 0, none⟩) m d2))
      (try simp only [Exit.inBlock, Exit.then])
      have h2 := twice0 W4 (B + 1) (.slice (some ⟨G1, 0, none⟩) n d1) (.slice (some ⟨G2, 0, none⟩) m d2) _ _ y0 y1
      refine bodyPost_ret (results_list1 rfl _ _ (B + 1) rfl h2.1 h2.2) rfl (.inr ⟨HV.out, G1, G2, d1, d2, ?_, ?_⟩)
      · rw [HEQ.out]; rfl
      · rw [HEQ.out]; exact HE.out
    · skip
      by_cases t1 : p ≥ (m : Int)
      · have HEQ : Hid (stpO l p = none) := Lib.hid (by unfold stpO; rw [if_neg (by rw [HM.out]; omega)])
        go_wp2_with fail
        have HE := Lib.hid (own_end HBB.out HB4.out hs2 ((HM4.out).rd) (.slice (some ⟨G1, 0, none⟩) n d1) (.slice (some ⟨G2, 0, none⟩) m d2))
        (try simp only [Exit.inBlock, Exit.then])
        have h2 := twice0 W4 (B + 1) (.slice (some ⟨G1, 0, none⟩) n d1) (.slice (some ⟨G2, 0, none⟩) m d2) _ _ y0 y1
        refine bodyPost_ret (results_list1 rfl _ _ (B + 1) rfl h2.1 h2.2) rfl (.inr ⟨HV.out, G1, G2, d1, d2, ?_, ?_⟩)
        · rw [HEQ.out]; rfl
        · rw [HEQ.out]; exact HE.out
      · skip
        obtain ⟨k, rfl, hkm⟩ : ∃ k : Nat, p = (k : Int) ∧ k < m := ⟨p.toNat, by omega, by omega⟩
        have k0 : (0 : Int) ≤ (k : Int) := by omega
        have k1 : (k : Int) < (m : Int) := by omega
        have hk' : k < l.ps.length := by rw [HM.out]; exact hkm
        have HES : Hid (stpO l (k : Int) = stepV l k) := Lib.hid (by unfold stpO; rw [if_pos ⟨by omega, by rw [HM.out]; omega⟩]; rfl)
        obtain ⟨b, o, e, -, hbz, f0, f1, f2, f3, f4, f5, f6⟩ := HL4.out.proc hk'
        injection e with e
        subst e
        have HUW := Lib.hid (ract_any (l.pr k) W4)
        by_cases hu : (l.pr k).phase ≠ 0 ∧ (l.pr k).phase ≠ 18
        · have HU := Lib.hid (HUW.out.mono fun e w' h => h.yes hu)
          have HST := Lib.hid (fun (V : World) (q : Below W4.heap.size W4 V) => rstF_any l n m k w2.heap.size G1 G2 d1 d2 V HN.out HM.out (HM4.out.below q) hkm HV.out hu.1 hu.2)
          have HSO := Lib.hid (stp_some (HV.out.ph k hk') hu.1 hu.2)
          clear HUW hu
          generalize l.pr k = x at *
          obtain ⟨xk, xc, xp, xd, xs, xx, xr⟩ := x
          simp only at f0 f1 f2 f3 f4 f5 f6
          go_wp2_with (go_at_call 56; with_reducible refine (HU.out).mono ?_; rintro e w5 ⟨rfl, hb5⟩; have x0 := (HX4.out.below hb5).cell 0; have x1 := (HX4.out.below hb5).cell 1)
          have hb6 := hb5.drew
          have hS5 : w5.drew.cell? ⟨C, 0, none⟩ = some (.slice (some ⟨G1, 0, none⟩) n d1) ∧ w5.drew.cell? ⟨C, 1, none⟩ = some (.slice (some ⟨G2, 0, none⟩) m d2) := ⟨(HX4.out.below hb6).cell 0, (HX4.out.below hb6).cell 1⟩
          have hgs : C ≤ W4.heap.size := by have := HX4.out.lt; omega
          go_region_held3 (fun U => U.cell? ⟨C, 0, none⟩ = some (.slice (some ⟨G1, 0, none⟩) n d1) ∧ U.cell? ⟨C, 1, none⟩ = some (.slice (some ⟨G2, 0, none⟩) m d2)) (first | with_reducible exact hS8 | with_reducible exact hS5 | with_reducible assumption) ((go_at_call 80; (with_reducible refine (HST.out _ hb6).mono ?_); rintro e w8 ⟨rfl, hm8, hc8⟩; have HX8 := Lib.hid (hc8.has (HX4.out.below hb6) (by omega) (by omega)); have hS8 : w8.cell? ⟨C, 0, none⟩ = some (.slice (some ⟨G1, 0, none⟩) n d1) ∧ w8.cell? ⟨C, 1, none⟩ = some (.slice (some ⟨G2, 0, none⟩) m d2) := ⟨HX8.out.cell 0, HX8.out.cell 1⟩))
          have HM8 := Lib.hid hm8
          have HY8 := Lib.hid (hc8.has (HY4.out.below hb6) (by omega) (by omega))
          have HW8 : Hid (Below w2.heap.size w2 w8) := Lib.hid ((HW4.out.trans (hb6.mono HW4.out.size)).trans (hc8.below hg3 hg4 (Nat.le_trans HW4.out.size hb6.size)))
          have HB8 : Hid (Below B w w8) := Lib.hid ((HB4.out.trans (hb6.mono (by omega))).trans (hc8.below (by omega) (by omega) (by have := HB4.out.size; have := hb6.size; have := HBB.out; omega)))
          clear x0 x1 v0 v1 y0 y1 z0 z1 f0 f1 f2 f3 f4 f5 f6 hm8 hc8 hb5 hb6 hS5 hS8 HX4 HY4 HZ4 HM4 HST HW4 HB4
          have x0 := HX8.out.cell 0
          have x1 := HX8.out.cell 1
          have y0 := HY8.out.cell 0
          have y1 := HY8.out.cell 1
          have z0 := HY8.out.frozen 0
          have z1 := HY8.out.frozen 1
          obtain ⟨l', hO⟩ := HSO.out
          rw [hO] at HES HM8
          have HEQ := Lib.hid HES.out
          clear hO
          go_wp2_with fail
          have HE := Lib.hid (own_end HBB.out HB8.out hs2 ((HM8.out).rd) (.slice (some ⟨G1, 0, none⟩) n d1) (.slice (some ⟨G2, 0, none⟩) m d2))
          (try simp only [Exit.inBlock, Exit.then])
          have h2 := twice0 w8 (B + 1) (.slice (some ⟨G1, 0, none⟩) n d1) (.slice (some ⟨G2, 0, none⟩) m d2) _ _ y0 y1
          refine bodyPost_ret (results_list1 rfl _ _ (B + 1) rfl h2.1 h2.2) rfl (.inr ⟨HV.out, G1, G2, d1, d2, ?_, ?_⟩)
          · rw [HEQ.out]; rfl
          · rw [HEQ.out]; exact HE.out
        · have HU := Lib.hid (HUW.out.mono fun e w' h => h.no hu)
          have HEQ : Hid (stpO l (k : Int) = none) := Lib.hid (by rw [HES.out]; exact stp_no (by omega))
          clear HUW hu
          generalize l.pr k = x at *
          obtain ⟨xk, xc, xp, xd, xs, xx, xr⟩ := x
          simp only at f0 f1 f2 f3 f4 f5 f6
          go_wp2_with (go_at_call 56; with_reducible refine (HU.out).mono ?_; rintro e w5 ⟨rfl, hb5⟩; have x0 := (HX4.out.below hb5).cell 0; have x1 := (HX4.out.below hb5).cell 1; have y0 := (HY4.out.below hb5).cell 0; have y1 := (HY4.out.below hb5).cell 1; have z0 := (HY4.out.below hb5).frozen 0; have z1 := (HY4.out.below hb5).frozen 1)
          have HE := Lib.hid (own_end HBB.out (HB4.out.trans (hb5.mono (by have := HB4.out.size; have := HBB.out; omega))) hs2 ((HM4.out.below hb5).rd) (.slice (some ⟨G1, 0, none⟩) n d1) (.slice (some ⟨G2, 0, none⟩) m d2))
          (try simp only [Exit.inBlock, Exit.then])
          have h2 := twice0 w5 (B + 1) (.slice (some ⟨G1, 0, none⟩) n d1) (.slice (some ⟨G2, 0, none⟩) m d2) _ _ y0 y1
          refine bodyPost_ret (results_list1 rfl _ _ (B + 1) rfl h2.1 h2.2) rfl (.inr ⟨HV.out, G1, G2, d1, d2, ?_, ?_⟩)
          · rw [HEQ.out]; rfl
          · rw [HEQ.out]; exact HE.out
  · replace HVA := Lib.hid (HVA.out.mono fun e w' h => h.no v)
    have HV := Lib.hid v
    clear v
    go_wp2_with fail
    refine (HVA.out).mono ?_
    rintro e w2 ⟨rfl, hb2⟩
    have HY2 := Lib.hid (HY.out.below hb2)
    have HB2 := Lib.hid (HB.out.trans (hb2.mono (by omega)))
    clear x0 x1 hb2 hz HVA HX HY HB HL
    have y0 := HY2.out.cell 0
    have y1 := HY2.out.cell 1
    have z0 := HY2.out.frozen 0
    have z1 := HY2.out.frozen 1
    go_wp2_with fail
    (try simp only [Exit.inBlock, Exit.then])
    have h2 := twice0 w2 (B + 1) (.slice none 0 0) (.slice none 0 0) _ _ y0 y1
    refine bodyPost_ret (results_list1 rfl _ _ (B + 1) rfl h2.1 h2.2) rfl (.inl ⟨HV.out, rfl, ?_⟩)
    rw [← HBB.out]
    exact (HB2.out.setCell (p := ⟨B + 1, 0, none⟩) (by simp only; omega) _).setCell (p := ⟨B + 1, 1, none⟩) (by simp only; omega) _
end Lf
end Go.Proofs.YtmhbloefmknikaaGreatDoor
