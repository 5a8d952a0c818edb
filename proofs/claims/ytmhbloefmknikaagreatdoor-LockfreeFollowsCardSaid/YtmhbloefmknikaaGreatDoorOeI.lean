/-
  Start of the reference of chapter 12. Conditions: the list can be read; no list is long.
-/
import Derived.Test.YtmhbloefmknikaaGreatDoorOeA
import Derived.Test.YtmhbloefmknikaaGreatDoorMbI
import Derived.Test.YtmhbloefmknikaaGreatDoorObF
namespace Go.Proofs.YtmhbloefmknikaaGreatDoor
open Go.RowKit Go.Maps
namespace Lf
open Lk
set_option maxRecDepth 100000 in
set_option maxHeartbeats 12800000 in
theorem rstartF_any (A1 A2 : Option Addr) (l : Ls) (p kd c : Int) (n m c1 c2 : Nat) (w : World) (hn : l.cs.length = n) (hm : l.ps.length = m) (h : RdL w 0 A1 A2 l) (n9 : n ≤ 1000000) (m9 : m ≤ 1000000) :
    Calls Tryz.prog 32 #[.agg #[.slice A1 n c1, .slice A2 m c2], .int .i64 p, .int .i64 kd, .int .i64 c] w (StaP l p kd c n m w) := by
  have hx := ((Has.new w 28 #[.slice A1 n c1, .slice A2 m c2]).below ((Below.refl _ _).alloc (Nat.le_refl _) (.cells #[.slice none 0 0, .slice none 0 0] 28)))
  have hb := ((Below.refl w.heap.size w).alloc (Nat.le_refl _) (.cells #[.slice A1 n c1, .slice A2 m c2] 28)).alloc (by rw [World.size_alloc]; omega) (.cells #[.slice none 0 0, .slice none 0 0] 28)
  have hy := Has.new (w.alloc (.cells #[.slice A1 n c1, .slice A2 m c2] 28)) 28 #[.slice none 0 0, .slice none 0 0]
  have hz : ((w.alloc (.cells #[.slice A1 n c1, .slice A2 m c2] 28)).alloc (.cells #[.slice none 0 0, .slice none 0 0] 28)).heap.size = w.heap.size + 1 + 1 := by rw [World.size_alloc, World.size_alloc]
  rw [World.size_alloc] at hy
  have HB := Lib.hid hb
  have HX := Lib.hid hx
  have HY := Lib.hid hy
  have HL := Lib.hid (h.below hb)
  have HN := Lib.hid hn
  have HM := Lib.hid hm
  clear hx hb hy h hn hm
  go_enter Tryz.func32, Tryz.ntmps32
  go_upto_region 1 with fail
  generalize (w.alloc (.cells #[.slice A1 n c1, .slice A2 m c2] 28)).alloc (.cells #[.slice none 0 0, .slice none 0 0] 28) = W at *
  obtain ⟨B, hB⟩ : ∃ B, B = w.heap.size := ⟨_, rfl⟩
  rw [← hB] at HX HY HB hz ⊢
  have HBB := Lib.hid hB
  clear hB
  have x0 := HX.out.cell 0
  have x1 := HX.out.cell 1
  have HVA := Lib.hid (rvalidF_any A1 A2 l n m c1 c2 W HN.out HM.out HL.out n9 m9)
  by_cases v : Vlf l
  · have HVB := Lib.hid (vldB_yes v)
    replace HVA := Lib.hid (HVA.out.mono fun e w' h => h.yes v)
    have n66 : n ≤ 66 := by rw [← HN.out]; exact v.n66
    have m8 : m ≤ 8 := by rw [← HM.out]; exact v.m8
    have n0 : 0 < n := by have := v.n2; have := HN.out; omega
    have m0 : 0 < m := by have := v.m1; have := HM.out; omega
    obtain ⟨a1, a2, rfl, rfl⟩ := rd_of HL.out (by have := HN.out; omega) (by have := HM.out; omega)
    clear v
    go_wp2_with fail
    refine (HVA.out).mono ?_
    rintro e w2 ⟨rfl, hb2⟩
    have HX2 := Lib.hid (HX.out.below hb2)
    have HY2 := Lib.hid (HY.out.below hb2)
    have HB2 := Lib.hid (HB.out.trans (hb2.mono (by omega)))
    have HL2 := Lib.hid (HL.out.below hb2)
    have hs2 : B + 1 + 1 ≤ w2.heap.size := by have := hb2.size; omega
    clear x0 x1 hb2 hz HVA HX HY HB HL
    have x0 := HX2.out.cell 0
    have x1 := HX2.out.cell 1
    have y0 := HY2.out.cell 0
    have y1 := HY2.out.cell 1
    have z0 := HY2.out.frozen 0
    have z1 := HY2.out.frozen 1
    by_cases t0 : p < 0
    · have HEQ : Hid (staE l p kd c = 2) := Lib.hid (by unfold staE; rw [HVB.out, if_neg (by decide), if_pos (by rw [HM.out]; omega)])
      have HNE : Hid (staE l p kd c ≠ 0) := Lib.hid (by rw [HEQ.out]; decide)
      go_wp2_with fail
      (try simp only [Exit.inBlock, Exit.then])
      have h2 := twice0 w2 (B + 1) (.slice none 0 0) (.slice none 0 0) _ _ y0 y1
      refine bodyPost_ret (results_list1 rfl _ _ (B + 1) rfl h2.1 h2.2) rfl (.inl ⟨HNE.out, ?_, ?_⟩)
      · rw [HEQ.out]; rfl
      · rw [← HBB.out]
        exact (HB2.out.setCell (p := ⟨B + 1, 0, none⟩) (by simp only; omega) _).setCell (p := ⟨B + 1, 1, none⟩) (by simp only; omega) _
    · skip
      by_cases t1 : p ≥ (m : Int)
      · have HEQ : Hid (staE l p kd c = 2) := Lib.hid (by unfold staE; rw [HVB.out, if_neg (by decide), if_pos (by rw [HM.out]; omega)])
        have HNE : Hid (staE l p kd c ≠ 0) := Lib.hid (by rw [HEQ.out]; decide)
        go_wp2_with fail
        (try simp only [Exit.inBlock, Exit.then])
        have h2 := twice0 w2 (B + 1) (.slice none 0 0) (.slice none 0 0) _ _ y0 y1
        refine bodyPost_ret (results_list1 rfl _ _ (B + 1) rfl h2.1 h2.2) rfl (.inl ⟨HNE.out, ?_, ?_⟩)
        · rw [HEQ.out]; rfl
        · rw [← HBB.out]
          exact (HB2.out.setCell (p := ⟨B + 1, 0, none⟩) (by simp only; omega) _).setCell (p := ⟨B + 1, 1, none⟩) (by simp only; omega) _
      · skip
        by_cases t2 : c < 2
        · have HEQ : Hid (staE l p kd c = 6) := Lib.hid (by unfold staE; rw [HVB.out, if_neg (by decide), if_neg (by rw [HM.out]; omega), if_pos (by rw [HN.out]; omega)])
          have HNE : Hid (staE l p kd c ≠ 0) := Lib.hid (by rw [HEQ.out]; decide)
          go_wp2_with fail
          (try simp only [Exit.inBlock, Exit.then])
          have h2 := twice0 w2 (B + 1) (.slice none 0 0) (.slice none 0 0) _ _ y0 y1
          refine bodyPost_ret (results_list1 rfl _ _ (B + 1) rfl h2.1 h2.2) rfl (.inl ⟨HNE.out, ?_, ?_⟩)
          · rw [HEQ.out]; rfl
          · rw [← HBB.out]
            exact (HB2.out.setCell (p := ⟨B + 1, 0, none⟩) (by simp only; omega) _).setCell (p := ⟨B + 1, 1, none⟩) (by simp only; omega) _
        · skip
          by_cases t3 : c ≥ (n : Int)
          · have HEQ : Hid (staE l p kd c = 6) := Lib.hid (by unfold staE; rw [HVB.out, if_neg (by decide), if_neg (by rw [HM.out]; omega), if_pos (by rw [HN.out]; omega)])
            have HNE : Hid (staE l p kd c ≠ 0) := Lib.hid (by rw [HEQ.out]; decide)
            go_wp2_with fail
            (try simp only [Exit.inBlock, Exit.then])
            have h2 := twice0 w2 (B + 1) (.slice none 0 0) (.slice none 0 0) _ _ y0 y1
            refine bodyPost_ret (results_list1 rfl _ _ (B + 1) rfl h2.1 h2.2) rfl (.inl ⟨HNE.out, ?_, ?_⟩)
            · rw [HEQ.out]; rfl
            · rw [← HBB.out]
              exact (HB2.out.setCell (p := ⟨B + 1, 0, none⟩) (by simp only; omega) _).setCell (p := ⟨B + 1, 1, none⟩) (by simp only; omega) _
          · skip
            by_cases t4 : kd < 1
            · have HEQ : Hid (staE l p kd c = 1) := Lib.hid (by unfold staE; rw [HVB.out, if_neg (by decide), if_neg (by rw [HM.out]; omega), if_neg (by rw [HN.out]; omega), if_pos (by omega)])
              have HNE : Hid (staE l p kd c ≠ 0) := Lib.hid (by rw [HEQ.out]; decide)
              go_wp2_with fail
              (try simp only [Exit.inBlock, Exit.then])
              have h2 := twice0 w2 (B + 1) (.slice none 0 0) (.slice none 0 0) _ _ y0 y1
              refine bodyPost_ret (results_list1 rfl _ _ (B + 1) rfl h2.1 h2.2) rfl (.inl ⟨HNE.out, ?_, ?_⟩)
              · rw [HEQ.out]; rfl
              · rw [← HBB.out]
                exact (HB2.out.setCell (p := ⟨B + 1, 0, none⟩) (by simp only; omega) _).setCell (p := ⟨B + 1, 1, none⟩) (by simp only; omega) _
            · skip
              by_cases t5 : kd > 3
              · have HEQ : Hid (staE l p kd c = 1) := Lib.hid (by unfold staE; rw [HVB.out, if_neg (by decide), if_neg (by rw [HM.out]; omega), if_neg (by rw [HN.out]; omega), if_pos (by omega)])
                have HNE : Hid (staE l p kd c ≠ 0) := Lib.hid (by rw [HEQ.out]; decide)
                go_wp2_with fail
                (try simp only [Exit.inBlock, Exit.then])
                have h2 := twice0 w2 (B + 1) (.slice none 0 0) (.slice none 0 0) _ _ y0 y1
                refine bodyPost_ret (results_list1 rfl _ _ (B + 1) rfl h2.1 h2.2) rfl (.inl ⟨HNE.out, ?_, ?_⟩)
                · rw [HEQ.out]; rfl
                · rw [← HBB.out]
                  exact (HB2.out.setCell (p := ⟨B + 1, 0, none⟩) (by simp only; omega) _).setCell (p := ⟨B + 1, 1, none⟩) (by simp only; omega) _
              · skip
                obtain ⟨k, rfl, hkm⟩ : ∃ k : Nat, p = (k : Int) ∧ k < m := ⟨p.toNat, by omega, by omega⟩
                have k0 : (0 : Int) ≤ (k : Int) := by omega
                have k1 : (k : Int) < (m : Int) := by omega
                have hk' : k < l.ps.length := by rw [HM.out]; exact hkm
                obtain ⟨b, o, e, -, hbz, f0, f1, f2, f3, f4, f5, f6⟩ := HL2.out.proc hk'
                injection e with e
                subst e
                have HUW := Lib.hid (ract_any (l.pr k) w2)
                by_cases hu : (l.pr k).phase ≠ 0 ∧ (l.pr k).phase ≠ 18
                · have HEQ : Hid (staE l (k : Int) kd c = 7) := Lib.hid (by unfold staE; rw [HVB.out, if_neg (by decide), if_neg (by rw [HM.out]; omega), if_neg (by rw [HN.out]; omega), if_neg (by omega), if_pos (by exact hu)])
                  have HNE : Hid (staE l (k : Int) kd c ≠ 0) := Lib.hid (by rw [HEQ.out]; decide)
                  have HU := Lib.hid (HUW.out.mono fun e w' h => h.yes hu)
                  clear HUW hu
                  generalize l.pr k = x at *
                  obtain ⟨xk, xc, xp, xd, xs, xx, xr⟩ := x
                  simp only at f0 f1 f2 f3 f4 f5 f6
                  go_wp2_with (go_at_call 56; with_reducible refine (HU.out).mono ?_; rintro e w4 ⟨rfl, hb4⟩; have y0 := (HY2.out.below hb4).cell 0; have y1 := (HY2.out.below hb4).cell 1; have z0 := (HY2.out.below hb4).frozen 0; have z1 := (HY2.out.below hb4).frozen 1; have HB4 := Lib.hid (HB2.out.trans (hb4.mono (by omega))))
                  (try simp only [Exit.inBlock, Exit.then])
                  have h2 := twice0 w4 (B + 1) (.slice none 0 0) (.slice none 0 0) _ _ y0 y1
                  refine bodyPost_ret (results_list1 rfl _ _ (B + 1) rfl h2.1 h2.2) rfl (.inl ⟨HNE.out, ?_, ?_⟩)
                  · rw [HEQ.out]; rfl
                  · rw [← HBB.out]
                    exact (HB4.out.setCell (p := ⟨B + 1, 0, none⟩) (by simp only; omega) _).setCell (p := ⟨B + 1, 1, none⟩) (by simp only; omega) _
                · have HU := Lib.hid (HUW.out.mono fun e w' h => h.no hu)
                  have HU0 := Lib.hid hu
                  clear HUW hu
                  have HCO := Lib.hid (fun (V : World) (q : Below w2.heap.size w2 V) => (rcopy_any (some a1) (some ⟨b, o, none⟩) l n m c1 c2 0 V HN.out HM.out (HL2.out.below q) n9 m9).mono fun e w' h => copG_mem h n m HN.out HM.out n0 m0)
                  have HXB := Lib.hid (fun (V : World) (q : Below w2.heap.size w2 V) => HX2.out.below q)
                  obtain ⟨cb, co, ec, -, hcz, -, -, r2, -⟩ := HL2.out.cell (i := 0) (by rw [HN.out]; exact n0)
                  injection ec with ec
                  subst ec
                  rw [Nat.zero_mul, Nat.add_zero] at r2
                  obtain ⟨q, rfl, hqn⟩ : ∃ q : Nat, c = (q : Int) ∧ q < n := ⟨c.toNat, by omega, by omega⟩
                  have hq' : q < l.cs.length := by rw [HN.out]; exact hqn
                  have q0 : (0 : Int) ≤ (q : Int) := by omega
                  have q1 : (q : Int) < (n : Int) := by omega
                  obtain ⟨cb0, co0, ec0, -, -, -, -, -, s3, -⟩ := HL2.out.cell hq'
                  injection ec0 with ec0
                  injection ec0 with ec1 ec2
                  subst ec1 ec2
                  by_cases hk1 : kd = 1
                  · by_cases hl1 : (l.at_ q).lock = 1
                    · have HLO : Hid (kd = 1 ∧ (l.at_ q).lock = 1) := Lib.hid ⟨hk1, hl1⟩
                      have HEQ : Hid (staE l (k : Int) kd (q : Int) = 5) := Lib.hid (by unfold staE; rw [HVB.out, if_neg (by decide), if_neg (by rw [HM.out]; omega), if_neg (by rw [HN.out]; omega), if_neg (by omega), if_neg (by exact HU0.out), if_pos (by rw [Int.toNat_natCast]; exact HLO.out)])
                      have HNE : Hid (staE l (k : Int) kd (q : Int) ≠ 0) := Lib.hid (by rw [HEQ.out]; decide)
                      have e1 : (kd == 1) = true := by simpa using hk1
                      rw [hl1] at s3
                      clear hk1 hl1
                      generalize l.pr k = x at *
                      obtain ⟨xk, xc, xp, xd, xs, xx, xr⟩ := x
                      simp only at f0 f1 f2 f3 f4 f5 f6
                      go_wp2_with (go_at_call 56; with_reducible refine (HU.out).mono ?_; rintro e w4 ⟨rfl, hb4⟩; have x0 := (HXB.out w4 hb4).cell 0; have x1 := (HXB.out w4 hb4).cell 1; have s4 := (hb4.cell (p := ⟨cb, co + q * 5 + 3, none⟩) hcz).trans s3; have y0 := (HY2.out.below hb4).cell 0; have y1 := (HY2.out.below hb4).cell 1; have z0 := (HY2.out.below hb4).frozen 0; have z1 := (HY2.out.below hb4).frozen 1; have HB4 := Lib.hid (HB2.out.trans (hb4.mono (by omega))))
                      (try simp only [Exit.inBlock, Exit.then])
                      have h2 := twice0 w4 (B + 1) (.slice none 0 0) (.slice none 0 0) _ _ y0 y1
                      refine bodyPost_ret (results_list1 rfl _ _ (B + 1) rfl h2.1 h2.2) rfl (.inl ⟨HNE.out, ?_, ?_⟩)
                      · rw [HEQ.out]; rfl
                      · rw [← HBB.out]
                        exact (HB4.out.setCell (p := ⟨B + 1, 0, none⟩) (by simp only; omega) _).setCell (p := ⟨B + 1, 1, none⟩) (by simp only; omega) _
                    · have HLO : Hid (¬ (kd = 1 ∧ (l.at_ q).lock = 1)) := Lib.hid (fun z => hl1 z.2)
                      have HK1 := Lib.hid hk1
                      have HEQ0 : Hid (staE l (k : Int) kd (q : Int) = 0) := Lib.hid (by unfold staE; rw [HVB.out, if_neg (by decide), if_neg (by rw [HM.out]; omega), if_neg (by rw [HN.out]; omega), if_neg (by omega), if_neg (by exact HU0.out), if_neg (by rw [Int.toNat_natCast]; exact HLO.out)])
                      have HBG : Hid (begV l k kd (q : Int) = (l.setP k ⟨kd, (q : Int), 1, 0, (l.at_ 0).right, 0, false⟩).setC q { (l.setP k ⟨kd, (q : Int), 1, 0, (l.at_ 0).right, 0, false⟩).at_ q with lock := 1 }) := Lib.hid (by unfold begV; rw [if_pos HK1.out, Int.toNat_natCast]; rfl)
                      have e1 : (kd == 1) = true := by simpa using hk1
                      have e2 : ((l.at_ q).lock == 1) = false := by simpa using hl1
                      clear hk1 hl1
                      generalize (l.at_ 0).right = rt at *
                      generalize l.pr k = x at *
                      obtain ⟨xk, xc, xp, xd, xs, xx, xr⟩ := x
                      simp only at f0 f1 f2 f3 f4 f5 f6
                      go_wp2_with (go_at_call 56; with_reducible refine (HU.out).mono ?_; rintro e w4 ⟨rfl, hb4⟩; have y0 := (HXB.out w4 hb4).cell 0; have y1 := (HXB.out w4 hb4).cell 1; have s4 := (hb4.cell (p := ⟨cb, co + q * 5 + 3, none⟩) hcz).trans s3)
                      refine (HCO.out w4 hb4).mono ?_
                      rintro e w3 ⟨G1, G2, d1, d2, rfl, hM, hb3⟩
                      have HY3 := Lib.hid ((HY2.out.below hb4).below hb3)
                      have HX3 := Lib.hid ((HX2.out.below hb4).below hb3)
                      have r3 := (hb3.cell (p := ⟨cb, co + 2, none⟩) (Nat.lt_of_lt_of_le hcz hb4.size)).trans ((hb4.cell (p := ⟨cb, co + 2, none⟩) hcz).trans r2)
                      have hcz3 : cb < w3.heap.size := Nat.lt_of_lt_of_le hcz (Nat.le_trans hb4.size hb3.size)
                      have hs4 : w2.heap.size ≤ w4.heap.size := hb4.size
                      have HB3 := Lib.hid ((HB2.out.trans (hb4.mono (by omega))).trans (hb3.mono (by omega)))
                      clear hb4 x0 x1 y0 y1 z0 z1 f0 f1 f2 f3 f4 f5 f6 HXB HCO r2 hcz hbz s3 s4
                      go_upto_region 14 with fail
                      have hA := (Below.refl w3.heap.size w3).alloc (Nat.le_refl _) (.cells #[.slice (some ⟨G1, 0, none⟩) n d1, .slice (some ⟨G2, 0, none⟩) m d2] 28)
                      have HX4 := Lib.hid (Has.new w3 28 #[.slice (some ⟨G1, 0, none⟩) n d1, .slice (some ⟨G2, 0, none⟩) m d2])
                      have HY4 := Lib.hid (HY3.out.below hA)
                      have HZ4 := Lib.hid (HX3.out.below hA)
                      have HM4 := Lib.hid (hM.below hA)
                      have r4 := (hA.cell (p := ⟨cb, co + 2, none⟩) hcz3).trans r3
                      have hs3 : B + 1 + 1 ≤ w3.heap.size := Nat.le_trans hs2 (Nat.le_trans hs4 hb3.size)
                      have HB4 := Lib.hid (HB3.out.trans (hA.mono (by omega)))
                      have hg1 : G1 < w3.heap.size := hM.cs.lt
                      have hg2 : G2 < w3.heap.size := hM.ps.lt
                      have hg3 : B + 1 + 1 ≤ G1 := Nat.le_trans hs2 (Nat.le_trans hs4 hM.b1)
                      have hg4 : B + 1 + 1 ≤ G2 := Nat.le_trans hs2 (Nat.le_trans hs4 hM.b2)
                      have HML := Lib.hid (show ∀ V, MemL V w4.heap.size G1 G2 d1 d2 (begV l k kd (q : Int)) → RdL V (B + 1 + 1) (some ⟨G1, 0, none⟩) (some ⟨G2, 0, none⟩) (begV l k kd (q : Int)) from fun V q => q.rd.low (by omega))
                      clear hA hM hb3 HX2 HY2 HB2 r3 HX3 HY3
                      generalize w3.alloc (.cells #[.slice (some ⟨G1, 0, none⟩) n d1, .slice (some ⟨G2, 0, none⟩) m d2] 28) = W4 at *
                      obtain ⟨C, hC⟩ : ∃ C, C = w3.heap.size := ⟨_, rfl⟩
                      rw [← hC] at HX4 hs3 hg1 hg2 hcz3 ⊢
                      clear hC
                      have x0 := HX4.out.cell 0
                      have x1 := HX4.out.cell 1
                      have v0 := HZ4.out.cell 0
                      have v1 := HZ4.out.cell 1
                      have nn : (0 : Int) < (n : Int) := by omega
                      obtain ⟨z1, z2⟩ := HM4.out.fz
                      obtain ⟨g0, g1, g2, g3, g4, g5, g6⟩ := HM4.out.proc hk'
                      go_region
                      have HM5 := Lib.hid (MemL.drew (HM4.out.seven hk' ⟨kd, (q : Int), 1, 0, rt, 0, false⟩))
                      have HC5 := Lib.hid (Chg.drew (Chg.seven (p := k) (Chg.refl (G1 := G1) (G2 := G2) (a := W4)) (.int .i64 kd) (.int .i64 (q : Int)) (.int .i64 1) (.int .i64 0) (.int .i64 rt) (.int .i64 0) (.bool false)))
                      clear x0 x1 z1 z2 g0 g1 g2 g3 g4 g5 g6 v0 v1 r4
                      simp only at HM5
                      generalize World.drew _ = w5 at *
                      have HX5 := Lib.hid (HC5.out.has HX4.out (by omega) (by omega))
                      have HY5 := Lib.hid (HC5.out.has HY4.out (by omega) (by omega))
                      have x0 := HX5.out.cell 0
                      have x1 := HX5.out.cell 1
                      obtain ⟨z1, z2⟩ := HM5.out.fz
                      obtain ⟨g0, g1, g2, g3, g4⟩ := HM5.out.cell (i := q) hq'
                      have HM6' := Lib.hid (HM5.out.setC (i := q) hq' 3 (by decide) (.int .i64 1) { (l.setP k ⟨kd, (q : Int), 1, 0, rt, 0, false⟩).at_ q with lock := 1 } rfl)
                      have HC6 := Lib.hid (HC5.out.set1 (q * 5 + 3) (.int .i64 1))
                      go_upto_region 17 with fail
                      clear x0 x1 z1 z2 g0 g1 g2 g3 g4 HX5 HY5 HM5 HC5
                      generalize w5.setCell ⟨G1, q * 5 + 3, none⟩ (.int .i64 1) = w6 at *
                      have HC5 := HC6
                      have HM5 : Hid (MemL w6 w4.heap.size G1 G2 d1 d2 (begV l k kd (q : Int))) := Lib.hid (by rw [HBG.out]; exact HM6'.out)
                      have HX6 := Lib.hid (HC5.out.has HX4.out (by omega) (by omega))
                      have HY6 := Lib.hid (HC5.out.has HY4.out (by omega) (by omega))
                      have HM6 := Lib.hid (HML.out w6 HM5.out)
                      have x0 := HX6.out.cell 0
                      have x1 := HX6.out.cell 1
                      have y0 := HY6.out.cell 0
                      have y1 := HY6.out.cell 1
                      have z0 := HY6.out.frozen 0
                      have z1 := HY6.out.frozen 1
                      go_wp2_with fail
                      (try simp only [Exit.inBlock, Exit.then])
                      have h2 := twice0 w6 (B + 1) (.slice (some ⟨G1, 0, none⟩) n d1) (.slice (some ⟨G2, 0, none⟩) m d2) _ _ y0 y1
                      refine bodyPost_ret (results_list1 rfl _ _ (B + 1) rfl h2.1 h2.2) rfl (.inr ⟨HEQ0.out, G1, G2, d1, d2, rfl, ?_, ?_⟩)
                      · refine RdL.low (lo := B + 1 + 1) (HM6.out.keep (by simp [World.setCell]) fun i q1 q2 => ?_) (by rw [← HBB.out]; omega)
                        rw [Below.heap_setCell _ ⟨B + 1, 1, none⟩ _ _ (by simp only; omega), Below.heap_setCell _ ⟨B + 1, 0, none⟩ _ _ (by simp only; omega)]
                      · rw [← HBB.out]
                        have hs5 := HB4.out.size
                        rw [← HBB.out] at hs5
                        have h8 : Below B w w6 := HB4.out.trans (HC5.out.below (by omega) (by omega) hs5)
                        exact (h8.setCell (p := ⟨B + 1, 0, none⟩) (by simp only; omega) _).setCell (p := ⟨B + 1, 1, none⟩) (by simp only; omega) _
                  · have HLO : Hid (¬ (kd = 1 ∧ (l.at_ q).lock = 1)) := Lib.hid (fun z => hk1 z.1)
                    have HK1 := Lib.hid hk1
                    have HEQ0 : Hid (staE l (k : Int) kd (q : Int) = 0) := Lib.hid (by unfold staE; rw [HVB.out, if_neg (by decide), if_neg (by rw [HM.out]; omega), if_neg (by rw [HN.out]; omega), if_neg (by omega), if_neg (by exact HU0.out), if_neg (by rw [Int.toNat_natCast]; exact HLO.out)])
                    have HBG : Hid (begV l k kd (q : Int) = l.setP k ⟨kd, (q : Int), 1, 0, (l.at_ 0).right, 0, false⟩) := Lib.hid (by unfold begV; rw [if_neg HK1.out])
                    have e1 : (kd == 1) = false := by simpa using hk1
                    clear hk1
                    generalize (l.at_ 0).right = rt at *
                    generalize l.pr k = x at *
                    obtain ⟨xk, xc, xp, xd, xs, xx, xr⟩ := x
                    simp only at f0 f1 f2 f3 f4 f5 f6
                    go_wp2_with (go_at_call 56; with_reducible refine (HU.out).mono ?_; rintro e w4 ⟨rfl, hb4⟩; have y0 := (HXB.out w4 hb4).cell 0; have y1 := (HXB.out w4 hb4).cell 1; have s4 := (hb4.cell (p := ⟨cb, co + q * 5 + 3, none⟩) hcz).trans s3)
                    refine (HCO.out w4 hb4).mono ?_
                    rintro e w3 ⟨G1, G2, d1, d2, rfl, hM, hb3⟩
                    have HY3 := Lib.hid ((HY2.out.below hb4).below hb3)
                    have HX3 := Lib.hid ((HX2.out.below hb4).below hb3)
                    have r3 := (hb3.cell (p := ⟨cb, co + 2, none⟩) (Nat.lt_of_lt_of_le hcz hb4.size)).trans ((hb4.cell (p := ⟨cb, co + 2, none⟩) hcz).trans r2)
                    have hcz3 : cb < w3.heap.size := Nat.lt_of_lt_of_le hcz (Nat.le_trans hb4.size hb3.size)
                    have hs4 : w2.heap.size ≤ w4.heap.size := hb4.size
                    have HB3 := Lib.hid ((HB2.out.trans (hb4.mono (by omega))).trans (hb3.mono (by omega)))
                    clear hb4 x0 x1 y0 y1 z0 z1 f0 f1 f2 f3 f4 f5 f6 HXB HCO r2 hcz hbz s3 s4
                    go_upto_region 14 with fail
                    have hA := (Below.refl w3.heap.size w3).alloc (Nat.le_refl _) (.cells #[.slice (some ⟨G1, 0, none⟩) n d1, .slice (some ⟨G2, 0, none⟩) m d2] 28)
                    have HX4 := Lib.hid (Has.new w3 28 #[.slice (some ⟨G1, 0, none⟩) n d1, .slice (some ⟨G2, 0, none⟩) m d2])
                    have HY4 := Lib.hid (HY3.out.below hA)
                    have HZ4 := Lib.hid (HX3.out.below hA)
                    have HM4 := Lib.hid (hM.below hA)
                    have r4 := (hA.cell (p := ⟨cb, co + 2, none⟩) hcz3).trans r3
                    have hs3 : B + 1 + 1 ≤ w3.heap.size := Nat.le_trans hs2 (Nat.le_trans hs4 hb3.size)
                    have HB4 := Lib.hid (HB3.out.trans (hA.mono (by omega)))
                    have hg1 : G1 < w3.heap.size := hM.cs.lt
                    have hg2 : G2 < w3.heap.size := hM.ps.lt
                    have hg3 : B + 1 + 1 ≤ G1 := Nat.le_trans hs2 (Nat.le_trans hs4 hM.b1)
                    have hg4 : B + 1 + 1 ≤ G2 := Nat.le_trans hs2 (Nat.le_trans hs4 hM.b2)
                    have HML := Lib.hid (show ∀ V, MemL V w4.heap.size G1 G2 d1 d2 (begV l k kd (q : Int)) → RdL V (B + 1 + 1) (some ⟨G1, 0, none⟩) (some ⟨G2, 0, none⟩) (begV l k kd (q : Int)) from fun V q => q.rd.low (by omega))
                    clear hA hM hb3 HX2 HY2 HB2 r3 HX3 HY3
                    generalize w3.alloc (.cells #[.slice (some ⟨G1, 0, none⟩) n d1, .slice (some ⟨G2, 0, none⟩) m d2] 28) = W4 at *
                    obtain ⟨C, hC⟩ : ∃ C, C = w3.heap.size := ⟨_, rfl⟩
                    rw [← hC] at HX4 hs3 hg1 hg2 hcz3 ⊢
                    clear hC
                    have x0 := HX4.out.cell 0
                    have x1 := HX4.out.cell 1
                    have v0 := HZ4.out.cell 0
                    have v1 := HZ4.out.cell 1
                    have nn : (0 : Int) < (n : Int) := by omega
                    obtain ⟨z1, z2⟩ := HM4.out.fz
                    obtain ⟨g0, g1, g2, g3, g4, g5, g6⟩ := HM4.out.proc hk'
                    go_region
                    have HM5 := Lib.hid (MemL.drew (HM4.out.seven hk' ⟨kd, (q : Int), 1, 0, rt, 0, false⟩))
                    have HC5 := Lib.hid (Chg.drew (Chg.seven (p := k) (Chg.refl (G1 := G1) (G2 := G2) (a := W4)) (.int .i64 kd) (.int .i64 (q : Int)) (.int .i64 1) (.int .i64 0) (.int .i64 rt) (.int .i64 0) (.bool false)))
                    clear x0 x1 z1 z2 g0 g1 g2 g3 g4 g5 g6 v0 v1 r4
                    simp only at HM5
                    rw [← HBG.out] at HM5
                    generalize World.drew _ = w6 at *
                    have HX6 := Lib.hid (HC5.out.has HX4.out (by omega) (by omega))
                    have HY6 := Lib.hid (HC5.out.has HY4.out (by omega) (by omega))
                    have HM6 := Lib.hid (HML.out w6 HM5.out)
                    have x0 := HX6.out.cell 0
                    have x1 := HX6.out.cell 1
                    have y0 := HY6.out.cell 0
                    have y1 := HY6.out.cell 1
                    have z0 := HY6.out.frozen 0
                    have z1 := HY6.out.frozen 1
                    go_wp2_with fail
                    (try simp only [Exit.inBlock, Exit.then])
                    have h2 := twice0 w6 (B + 1) (.slice (some ⟨G1, 0, none⟩) n d1) (.slice (some ⟨G2, 0, none⟩) m d2) _ _ y0 y1
                    refine bodyPost_ret (results_list1 rfl _ _ (B + 1) rfl h2.1 h2.2) rfl (.inr ⟨HEQ0.out, G1, G2, d1, d2, rfl, ?_, ?_⟩)
                    · refine RdL.low (lo := B + 1 + 1) (HM6.out.keep (by simp [World.setCell]) fun i q1 q2 => ?_) (by rw [← HBB.out]; omega)
                      rw [Below.heap_setCell _ ⟨B + 1, 1, none⟩ _ _ (by simp only; omega), Below.heap_setCell _ ⟨B + 1, 0, none⟩ _ _ (by simp only; omega)]
                    · rw [← HBB.out]
                      have hs5 := HB4.out.size
                      rw [← HBB.out] at hs5
                      have h8 : Below B w w6 := HB4.out.trans (HC5.out.below (by omega) (by omega) hs5)
                      exact (h8.setCell (p := ⟨B + 1, 0, none⟩) (by simp only; omega) _).setCell (p := ⟨B + 1, 1, none⟩) (by simp only; omega) _
  · replace HVA := Lib.hid (HVA.out.mono fun e w' h => h.no v)
    have HVB := Lib.hid (vldB_no v)
    clear v
    go_wp2_with fail
    refine (HVA.out).mono ?_
    rintro e w2 ⟨rfl, hb2⟩
    have HY2 := Lib.hid (HY.out.below hb2)
    have HB2 := Lib.hid (HB.out.trans (hb2.mono (by omega)))
    clear x0 x1 hb2 hz HVA HX HY HB HL
    have y0 := HY2.out.cell 0
    have y1 := HY2.out.cell 1
    have z0 := HY2.out.frozen 0
    have z1 := HY2.out.frozen 1
    have HEQ : Hid (staE l p kd c = 1) := Lib.hid (by unfold staE; rw [if_pos HVB.out])
    have HNE : Hid (staE l p kd c ≠ 0) := Lib.hid (by rw [HEQ.out]; decide)
    go_wp2_with fail
    (try simp only [Exit.inBlock, Exit.then])
    have h2 := twice0 w2 (B + 1) (.slice none 0 0) (.slice none 0 0) _ _ y0 y1
    refine bodyPost_ret (results_list1 rfl _ _ (B + 1) rfl h2.1 h2.2) rfl (.inl ⟨HNE.out, ?_, ?_⟩)
    · rw [HEQ.out]; rfl
    · rw [← HBB.out]
      exact (HB2.out.setCell (p := ⟨B + 1, 0, none⟩) (by simp only; omega) _).setCell (p := ⟨B + 1, 1, none⟩) (by simp only; omega) _
end Lf
end Go.Proofs.YtmhbloefmknikaaGreatDoor
