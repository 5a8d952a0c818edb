/-
  Start of package locked. Conditions: the list can be read; no list is long.
-/
import Derived.Test.YtgmffgdhijcfcaaDoorKzN
namespace Go.Proofs.YtgmffgdhijcfcaaDoor
open Go.RowKit Go.Maps
namespace Lk

/-- The error of Start. -/
noncomputable def staE (l : Ls) (p kd c : Int) : Int :=
  if vldB l = false then 1 else if ¬ (0 ≤ p ∧ p < (l.ps.length : Int)) then 2 else if c < 2 ∨ ¬ (0 ≤ c ∧ c < (l.cs.length : Int)) then 6 else if kd = 0 ∨ ¬ (0 ≤ kd ∧ kd ≤ 3) then 1 else if (l.pr p.toNat).phase ≠ 0 ∧ (l.pr p.toNat).phase ≠ 18 then 7 else 0
theorem vldB_yes {l : Ls} (v : Vld l) : vldB l = true := by unfold vldB; exact @decide_eq_true _ (Classical.propDecidable _) v
theorem vldB_no {l : Ls} (v : ¬ Vld l) : vldB l = false := by unfold vldB; exact @decide_eq_false _ (Classical.propDecidable _) v
def zeroL : Value := .agg #[.slice none 0 0, .slice none 0 0]
def StaP (l : Ls) (p kd c : Int) (n m : Nat) (w : World) (e : Ending) (w' : World) : Prop :=
  (staE l p kd c ≠ 0 ∧ e = .returned (.tuple #[zeroL, .int .i64 (staE l p kd c)]) ∧ Below w.heap.size w w') ∨
  (staE l p kd c = 0 ∧ ∃ G1 G2 d1 d2, e = .returned (.tuple #[.agg #[.slice (some ⟨G1, 0, none⟩) n d1, .slice (some ⟨G2, 0, none⟩) m d2], .int .i64 0]) ∧ RdL w' w.heap.size (some ⟨G1, 0, none⟩) (some ⟨G2, 0, none⟩) (begV l p.toNat kd c) ∧ Below w.heap.size w w')
theorem beg_is (l : Ls) {p : Nat} (hp : p < l.ps.length) (kd c : Int) : (l.setP p ⟨kd, c, 0, 0, 0, 0, false⟩).setP p { (l.setP p ⟨kd, c, 0, 0, 0, 0, false⟩).pr p with pred := 0, succ := ((l.setP p ⟨kd, c, 0, 0, 0, 0, false⟩).at_ 0).right, phase := 1 } = begV l p kd c := by
  rw [Ls.setP_setP, Ls.pr_self l hp]
  rfl
/-- A record put anew, all seven cells of it. -/
theorem MemL.seven {w : World} {base G1 G2 c1 c2 : Nat} {l : Ls} (h : MemL w base G1 G2 c1 c2 l) {p : Nat} (hp : p < l.ps.length) (y : Po) :
    MemL (((((((w.setCell ⟨G2, p * 7, none⟩ (.int .i64 y.kind)).setCell ⟨G2, p * 7 + 1, none⟩ (.int .i64 y.cell)).setCell ⟨G2, p * 7 + 2, none⟩ (.int .i64 y.phase)).setCell ⟨G2, p * 7 + 3, none⟩ (.int .i64 y.pred)).setCell ⟨G2, p * 7 + 4, none⟩ (.int .i64 y.succ)).setCell ⟨G2, p * 7 + 5, none⟩ (.int .i64 y.next)).setCell ⟨G2, p * 7 + 6, none⟩ (.bool y.res)) base G1 G2 c1 c2 (l.setP p y) := by
  obtain ⟨k, c, ph, pd, sc, nx, rs⟩ := y
  have h0 := (h.init hp).up hp 0 (by decide) (.int .i64 k) { l.pr p with kind := k } rfl
  have h1 := h0.up hp 1 (by decide) (.int .i64 c) { l.pr p with kind := k, cell := c } rfl
  have h2 := h1.up hp 2 (by decide) (.int .i64 ph) { l.pr p with kind := k, cell := c, phase := ph } rfl
  have h3 := h2.up hp 3 (by decide) (.int .i64 pd) { l.pr p with kind := k, cell := c, phase := ph, pred := pd } rfl
  have h4 := h3.up hp 4 (by decide) (.int .i64 sc) { l.pr p with kind := k, cell := c, phase := ph, pred := pd, succ := sc } rfl
  have h5 := h4.up hp 5 (by decide) (.int .i64 nx) { l.pr p with kind := k, cell := c, phase := ph, pred := pd, succ := sc, next := nx } rfl
  exact h5.up hp 6 (by decide) (.bool rs) ⟨k, c, ph, pd, sc, nx, rs⟩ rfl
theorem Chg.seven {w a : World} {G1 G2 p : Nat} (h : Chg G1 G2 w a) (u0 u1 u2 u3 u4 u5 u6 : Value) :
    Chg G1 G2 w (((((((a.setCell ⟨G2, p * 7, none⟩ u0).setCell ⟨G2, p * 7 + 1, none⟩ u1).setCell ⟨G2, p * 7 + 2, none⟩ u2).setCell ⟨G2, p * 7 + 3, none⟩ u3).setCell ⟨G2, p * 7 + 4, none⟩ u4).setCell ⟨G2, p * 7 + 5, none⟩ u5).setCell ⟨G2, p * 7 + 6, none⟩ u6) := ((((((h.set2 _ _).set2 _ _).set2 _ _).set2 _ _).set2 _ _).set2 _ _).set2 _ _
set_option maxRecDepth 100000 in
set_option maxHeartbeats 6400000 in
theorem start_any (A1 A2 : Option Addr) (l : Ls) (p kd c : Int) (n m c1 c2 : Nat) (w : World) (hn : l.cs.length = n) (hm : l.ps.length = m) (h : RdL w 0 A1 A2 l) :
    Calls Tryd.prog 22 #[.agg #[.slice A1 n c1, .slice A2 m c2], .int .i64 p, .int .i64 kd, .int .i64 c] w (StaP l p kd c n m w) := by
  have hx := ((Has.new w 35 #[.slice A1 n c1, .slice A2 m c2]).below ((Below.refl _ _).alloc (Nat.le_refl _) (.cells #[.slice none 0 0, .slice none 0 0] 35)))
  have hb := ((Below.refl w.heap.size w).alloc (Nat.le_refl _) (.cells #[.slice A1 n c1, .slice A2 m c2] 35)).alloc (by rw [World.size_alloc]; omega) (.cells #[.slice none 0 0, .slice none 0 0] 35)
  have hy := Has.new (w.alloc (.cells #[.slice A1 n c1, .slice A2 m c2] 35)) 35 #[.slice none 0 0, .slice none 0 0]
  have hz : ((w.alloc (.cells #[.slice A1 n c1, .slice A2 m c2] 35)).alloc (.cells #[.slice none 0 0, .slice none 0 0] 35)).heap.size = w.heap.size + 1 + 1 := by rw [World.size_alloc, World.size_alloc]
  rw [World.size_alloc] at hy
  have HB := Lib.hid hb
  have HX := Lib.hid hx
  have HY := Lib.hid hy
  have HL := Lib.hid (h.below hb)
  have HN := Lib.hid hn
  have HM := Lib.hid hm
  clear hx hb hy h hn hm
  go_enter Tryd.func22, Tryd.ntmps22
  go_upto_region 1 with fail
  generalize (w.alloc (.cells #[.slice A1 n c1, .slice A2 m c2] 35)).alloc (.cells #[.slice none 0 0, .slice none 0 0] 35) = W at *
  obtain ⟨B, hB⟩ : ∃ B, B = w.heap.size := ⟨_, rfl⟩
  rw [← hB] at HX HY HB hz ⊢
  have HBB := Lib.hid hB
  clear hB
  have x0 := HX.out.cell 0
  have x1 := HX.out.cell 1
  have HVA := Lib.hid (valid_any A1 A2 l n m c1 c2 W HN.out HM.out HL.out)
  by_cases v : Vld l
  · have HVB := Lib.hid (vldB_yes v)
    have HV := Lib.hid v
    replace HVA := Lib.hid (HVA.out.mono fun e w' h => h.yes v)
    have n66 : n ≤ 66 := by rw [← HN.out]; exact v.n66
    have m8 : m ≤ 8 := by rw [← HM.out]; exact v.m8
    have n0 : 0 < n := by have := v.n2; have := HN.out; omega
    have m0 : 0 < m := by have := v.m1; have := HM.out; omega
    obtain ⟨a1, a2, rfl, rfl⟩ := rd_of HL.out (by have := HN.out; omega) (by have := HM.out; omega)
    clear v
    go_wp2_with fail
    refine (HVA.out).mono ?_
    rintro e w2 ⟨rfl, hb2⟩
    have HX2 := Lib.hid (HX.out.below hb2)
    have HY2 := Lib.hid (HY.out.below hb2)
    have HB2 := Lib.hid (HB.out.trans (hb2.mono (by omega)))
    have HL2 := Lib.hid (HL.out.below hb2)
    have hs2 : B + 1 + 1 ≤ w2.heap.size := by have := hb2.size; omega
    clear x0 x1 hb2 hz HVA HX HY HB HL
    have x0 := HX2.out.cell 0
    have x1 := HX2.out.cell 1
    have y0 := HY2.out.cell 0
    have y1 := HY2.out.cell 1
    have z0 := HY2.out.frozen 0
    have z1 := HY2.out.frozen 1
    by_cases hp : 0 ≤ p ∧ p < (m : Int)
    · have HI := Lib.hid ((isIndex_any p (m : Int) w2).mono fun e w' h => h.yes hp)
      by_cases hc : c < 2
      · have hcd : decide (c < 2) = true := decide_eq_true hc
        have HEQ : Hid (staE l p kd c = 6) := Lib.hid (by unfold staE; rw [HVB.out, if_neg (by decide), if_neg (by rw [HM.out]; exact fun q => q hp), if_pos (.inl hc)])
        have HNE : Hid (staE l p kd c ≠ 0) := Lib.hid (by rw [HEQ.out]; decide)
        go_wp2_with (first | (go_at_call 44; with_reducible refine (HI.out).mono ?_; rintro e w' ⟨rfl, rfl⟩))
        (try simp only [Exit.inBlock, Exit.then])
        have h2 := twice0 w2 (B + 1) (.slice none 0 0) (.slice none 0 0) _ _ y0 y1
        refine bodyPost_ret (results_list1 rfl _ _ (B + 1) rfl h2.1 h2.2) rfl (.inl ⟨HNE.out, ?_, ?_⟩)
        · rw [HEQ.out]; rfl
        · rw [← HBB.out]
          exact (HB2.out.setCell (p := ⟨B + 1, 0, none⟩) (by simp only; omega) _).setCell (p := ⟨B + 1, 1, none⟩) (by simp only; omega) _
      · have hcd : decide (c < 2) = false := decide_eq_false hc
        by_cases hc2 : 0 ≤ c ∧ c < (n : Int)
        · have HC := Lib.hid ((isIndex_any c (n : Int) w2).mono fun e w' h => h.yes hc2)
          have HCC : Hid (¬ (c < 2 ∨ ¬ (0 ≤ c ∧ c < (l.cs.length : Int)))) := Lib.hid (by rw [HN.out]; exact fun q => q.elim hc (fun q => q hc2))
          by_cases hk : kd = 0
          · have hkd : decide (kd = 0) = true := decide_eq_true hk
            have HEQ : Hid (staE l p kd c = 1) := Lib.hid (by unfold staE; rw [HVB.out, if_neg (by decide), if_neg (by rw [HM.out]; exact fun q => q hp), if_neg HCC.out, if_pos (.inl hk)])
            have HNE : Hid (staE l p kd c ≠ 0) := Lib.hid (by rw [HEQ.out]; decide)
            go_wp2_with (first | (go_at_call 44; with_reducible refine (HI.out).mono ?_; rintro e w' ⟨rfl, rfl⟩) | (go_at_call 44; with_reducible refine (HC.out).mono ?_; rintro e w' ⟨rfl, rfl⟩))
            (try simp only [Exit.inBlock, Exit.then])
            have h2 := twice0 w2 (B + 1) (.slice none 0 0) (.slice none 0 0) _ _ y0 y1
            refine bodyPost_ret (results_list1 rfl _ _ (B + 1) rfl h2.1 h2.2) rfl (.inl ⟨HNE.out, ?_, ?_⟩)
            · rw [HEQ.out]; rfl
            · rw [← HBB.out]
              exact (HB2.out.setCell (p := ⟨B + 1, 0, none⟩) (by simp only; omega) _).setCell (p := ⟨B + 1, 1, none⟩) (by simp only; omega) _
          · have hkd : decide (kd = 0) = false := decide_eq_false hk
            by_cases hk2 : 0 ≤ kd ∧ kd ≤ 3
            · have HK := Lib.hid ((isKind_any kd w2).mono fun e w' h => h.yes hk2)
              have HKK : Hid (¬ (kd = 0 ∨ ¬ (0 ≤ kd ∧ kd ≤ 3))) := Lib.hid (by exact fun q => q.elim hk (fun q => q hk2))
              obtain ⟨k, rfl, hkm⟩ : ∃ k : Nat, p = (k : Int) ∧ k < m := ⟨p.toNat, by omega, by omega⟩
              have k0 : (0 : Int) ≤ (k : Int) := by omega
              have k1 : (k : Int) < (m : Int) := by omega
              have hk' : k < l.ps.length := by rw [HM.out]; exact hkm
              obtain ⟨b, o, e, -, hbz, f0, f1, f2, f3, f4, f5, f6⟩ := HL2.out.proc hk'
              injection e with e
              subst e
              have HUW := Lib.hid (underWay_any (l.pr k) w2)
              by_cases hu : (l.pr k).phase ≠ 0 ∧ (l.pr k).phase ≠ 18
              · have HEQ0 : Hid (staE l (k : Int) kd c = 7) := Lib.hid (by unfold staE; rw [HVB.out, if_neg (by decide), if_neg (by rw [HM.out]; exact fun q => q hp), if_neg HCC.out, if_neg HKK.out, if_pos (by exact hu)])
                have HU := Lib.hid (HUW.out.mono fun e w' h => h.yes hu)
                clear HUW hu
                generalize l.pr k = x at *
                obtain ⟨xk, xc, xp, xd, xs, xx, xr⟩ := x
                simp only at f0 f1 f2 f3 f4 f5 f6
                have HEQ : Hid (staE l (k : Int) kd c = 7) := Lib.hid (by exact HEQ0.out)
                have HNE : Hid (staE l (k : Int) kd c ≠ 0) := Lib.hid (by rw [HEQ.out]; decide)
                go_wp2_with (first | (go_at_call 44; with_reducible refine (HI.out).mono ?_; rintro e w' ⟨rfl, rfl⟩) | (go_at_call 44; with_reducible refine (HC.out).mono ?_; rintro e w' ⟨rfl, rfl⟩) | (go_at_call 45; with_reducible refine (HK.out).mono ?_; rintro e w' ⟨rfl, rfl⟩) | (go_at_call 46; with_reducible refine (HU.out).mono ?_; rintro e w4 ⟨rfl, hb4⟩; have y0 := (HY2.out.below hb4).cell 0; have y1 := (HY2.out.below hb4).cell 1; have z0 := (HY2.out.below hb4).frozen 0; have z1 := (HY2.out.below hb4).frozen 1; have HB4 := Lib.hid (HB2.out.trans (hb4.mono (by omega)))))
                (try simp only [Exit.inBlock, Exit.then])
                have h2 := twice0 w4 (B + 1) (.slice none 0 0) (.slice none 0 0) _ _ y0 y1
                refine bodyPost_ret (results_list1 rfl _ _ (B + 1) rfl h2.1 h2.2) rfl (.inl ⟨HNE.out, ?_, ?_⟩)
                · rw [HEQ.out]; rfl
                · rw [← HBB.out]
                  exact (HB4.out.setCell (p := ⟨B + 1, 0, none⟩) (by simp only; omega) _).setCell (p := ⟨B + 1, 1, none⟩) (by simp only; omega) _
              · have HEQ0 : Hid (staE l (k : Int) kd c = 0) := Lib.hid (by unfold staE; rw [HVB.out, if_neg (by decide), if_neg (by rw [HM.out]; exact fun q => q hp), if_neg HCC.out, if_neg HKK.out, if_neg (by exact hu)])
                have HU := Lib.hid (HUW.out.mono fun e w' h => h.no hu)
                clear HUW hu
                have HCO := Lib.hid (fun (V : World) (q : Below w2.heap.size w2 V) => copied_any ⟨_, _, _⟩ ⟨_, _, _⟩ l n m c1 c2 0 V HN.out HM.out (HL2.out.below q) n0 m0 (by omega) (by omega))
                have HXB := Lib.hid (fun (V : World) (q : Below w2.heap.size w2 V) => HX2.out.below q)
                generalize l.pr k = x at *
                obtain ⟨xk, xc, xp, xd, xs, xx, xr⟩ := x
                simp only at f0 f1 f2 f3 f4 f5 f6
                go_wp2_with (first | (go_at_call 44; with_reducible refine (HI.out).mono ?_; rintro e w' ⟨rfl, rfl⟩) | (go_at_call 44; with_reducible refine (HC.out).mono ?_; rintro e w' ⟨rfl, rfl⟩) | (go_at_call 45; with_reducible refine (HK.out).mono ?_; rintro e w' ⟨rfl, rfl⟩) | (go_at_call 46; with_reducible refine (HU.out).mono ?_; rintro e w4 ⟨rfl, hb4⟩; have y0 := (HXB.out w4 hb4).cell 0; have y1 := (HXB.out w4 hb4).cell 1))
                refine (HCO.out w4 hb4).mono ?_
                rintro e w3 ⟨G1, G2, d1, d2, rfl, hM, hb3⟩
                have HY3 := Lib.hid ((HY2.out.below hb4).below hb3)
                have hs4 : w2.heap.size ≤ w4.heap.size := hb4.size
                have HB3 := Lib.hid ((HB2.out.trans (hb4.mono (by omega))).trans (hb3.mono (by omega)))
                clear hb4 x0 x1 y0 y1 z0 z1 f0 f1 f2 f3 f4 f5 f6 HXB HCO
                go_upto_region 12 with fail
                have hA := (Below.refl w3.heap.size w3).alloc (Nat.le_refl _) (.cells #[.slice (some ⟨G1, 0, none⟩) n d1, .slice (some ⟨G2, 0, none⟩) m d2] 35)
                have HX4 := Lib.hid (Has.new w3 35 #[.slice (some ⟨G1, 0, none⟩) n d1, .slice (some ⟨G2, 0, none⟩) m d2])
                have HY4 := Lib.hid (HY3.out.below hA)
                have HM4 := Lib.hid (hM.below hA)
                have hs3 : B + 1 + 1 ≤ w3.heap.size := Nat.le_trans hs2 (Nat.le_trans hs4 hb3.size)
                have HB4 := Lib.hid (HB3.out.trans (hA.mono (by omega)))
                have hg1 : G1 < w3.heap.size := hM.cs.lt
                have hg2 : G2 < w3.heap.size := hM.ps.lt
                have hg3 : B + 1 + 1 ≤ G1 := Nat.le_trans hs2 (Nat.le_trans hs4 hM.b1)
                have hg4 : B + 1 + 1 ≤ G2 := Nat.le_trans hs2 (Nat.le_trans hs4 hM.b2)
                have HML := Lib.hid (show ∀ V, MemL V w4.heap.size G1 G2 d1 d2 (begV l k kd c) → RdL V (B + 1 + 1) (some ⟨G1, 0, none⟩) (some ⟨G2, 0, none⟩) (begV l k kd c) from fun V q => q.rd.low (by omega))
                clear hA hM hb3 HX2 HY2 HB2
                generalize w3.alloc (.cells #[.slice (some ⟨G1, 0, none⟩) n d1, .slice (some ⟨G2, 0, none⟩) m d2] 35) = W4 at *
                obtain ⟨C, hC⟩ : ∃ C, C = w3.heap.size := ⟨_, rfl⟩
                rw [← hC] at HX4 hs3 hg1 hg2 ⊢
                clear hC
                have x0 := HX4.out.cell 0
                have x1 := HX4.out.cell 1
                obtain ⟨z1, z2⟩ := HM4.out.fz
                obtain ⟨g0, g1, g2, g3, g4, g5, g6⟩ := HM4.out.proc hk'
                go_upto_region 13 with fail
                have HM5 := Lib.hid (HM4.out.seven hk' ⟨kd, c, 0, 0, 0, 0, false⟩)
                have HC5 := Lib.hid (Chg.seven (p := k) (Chg.refl (G1 := G1) (G2 := G2) (a := W4)) (.int .i64 kd) (.int .i64 c) (.int .i64 0) (.int .i64 0) (.int .i64 0) (.int .i64 0) (.bool false))
                clear x0 x1 z1 z2 g0 g1 g2 g3 g4 g5 g6
                simp only at HM5
                generalize ((((((W4.setCell ⟨G2, k * 7, none⟩ (.int .i64 kd)).setCell ⟨G2, k * 7 + 1, none⟩ (.int .i64 c)).setCell ⟨G2, k * 7 + 2, none⟩ (.int .i64 0)).setCell ⟨G2, k * 7 + 3, none⟩ (.int .i64 0)).setCell ⟨G2, k * 7 + 4, none⟩ (.int .i64 0)).setCell ⟨G2, k * 7 + 5, none⟩ (.int .i64 0)).setCell ⟨G2, k * 7 + 6, none⟩ (.bool false) = W5 at *
                have HX5 := Lib.hid (HC5.out.has HX4.out (by omega) (by omega))
                have x0 := HX5.out.cell 0
                have x1 := HX5.out.cell 1
                have HBE := Lib.hid (begin_any (l.setP k ⟨kd, c, 0, 0, 0, 0, false⟩) n m k w4.heap.size G1 G2 d1 d2 W5 HN.out (by rw [Ls.len_setP]; exact HM.out) HM5.out hkm n0)
                rw [beg_is l hk' kd c] at HBE
                go_wp2_with fail
                refine (HBE.out).mono ?_
                rintro e w6 ⟨rfl, hm6, hc6⟩
                have HC6 := Lib.hid (HC5.out.trans hc6)
                have HX6 := Lib.hid (HC6.out.has HX4.out (by omega) (by omega))
                have HY6 := Lib.hid (HC6.out.has HY4.out (by omega) (by omega))
                have HM6 := Lib.hid (HML.out w6 hm6)
                clear x0 x1 hm6 hc6 HBE
                have x0 := HX6.out.cell 0
                have x1 := HX6.out.cell 1
                have y0 := HY6.out.cell 0
                have y1 := HY6.out.cell 1
                have z0 := HY6.out.frozen 0
                have z1 := HY6.out.frozen 1
                go_wp2_with fail
                (try simp only [Exit.inBlock, Exit.then])
                have h2 := twice0 w6 (B + 1) (.slice (some ⟨G1, 0, none⟩) n d1) (.slice (some ⟨G2, 0, none⟩) m d2) _ _ y0 y1
                refine bodyPost_ret (results_list1 rfl _ _ (B + 1) rfl h2.1 h2.2) rfl (.inr ⟨HEQ0.out, G1, G2, d1, d2, rfl, ?_, ?_⟩)
                · refine RdL.low (lo := B + 1 + 1) (HM6.out.keep (by simp [World.setCell]) fun i q1 q2 => ?_) (by rw [← HBB.out]; omega)
                  rw [Below.heap_setCell _ ⟨B + 1, 1, none⟩ _ _ (by simp only; omega), Below.heap_setCell _ ⟨B + 1, 0, none⟩ _ _ (by simp only; omega)]
                · rw [← HBB.out]
                  have hs5 := HB4.out.size
                  rw [← HBB.out] at hs5
                  have h8 : Below B w w6 := HB4.out.trans (HC6.out.below (by omega) (by omega) hs5)
                  exact (h8.setCell (p := ⟨B + 1, 0, none⟩) (by simp only; omega) _).setCell (p := ⟨B + 1, 1, none⟩) (by simp only; omega) _
            · have HK := Lib.hid ((isKind_any kd w2).mono fun e w' h => h.no hk2)
              have HEQ : Hid (staE l p kd c = 1) := Lib.hid (by unfold staE; rw [HVB.out, if_neg (by decide), if_neg (by rw [HM.out]; exact fun q => q hp), if_neg HCC.out, if_pos (.inr hk2)])
              have HNE : Hid (staE l p kd c ≠ 0) := Lib.hid (by rw [HEQ.out]; decide)
              go_wp2_with (first | (go_at_call 44; with_reducible refine (HI.out).mono ?_; rintro e w' ⟨rfl, rfl⟩) | (go_at_call 44; with_reducible refine (HC.out).mono ?_; rintro e w' ⟨rfl, rfl⟩) | (go_at_call 45; with_reducible refine (HK.out).mono ?_; rintro e w' ⟨rfl, rfl⟩))
              (try simp only [Exit.inBlock, Exit.then])
              have h2 := twice0 w2 (B + 1) (.slice none 0 0) (.slice none 0 0) _ _ y0 y1
              refine bodyPost_ret (results_list1 rfl _ _ (B + 1) rfl h2.1 h2.2) rfl (.inl ⟨HNE.out, ?_, ?_⟩)
              · rw [HEQ.out]; rfl
              · rw [← HBB.out]
                exact (HB2.out.setCell (p := ⟨B + 1, 0, none⟩) (by simp only; omega) _).setCell (p := ⟨B + 1, 1, none⟩) (by simp only; omega) _
        · have HC := Lib.hid ((isIndex_any c (n : Int) w2).mono fun e w' h => h.no hc2)
          have HEQ : Hid (staE l p kd c = 6) := Lib.hid (by unfold staE; rw [HVB.out, if_neg (by decide), if_neg (by rw [HM.out]; exact fun q => q hp), if_pos (.inr (by rw [HN.out]; exact hc2))])
          have HNE : Hid (staE l p kd c ≠ 0) := Lib.hid (by rw [HEQ.out]; decide)
          go_wp2_with (first | (go_at_call 44; with_reducible refine (HI.out).mono ?_; rintro e w' ⟨rfl, rfl⟩) | (go_at_call 44; with_reducible refine (HC.out).mono ?_; rintro e w' ⟨rfl, rfl⟩))
          (try simp only [Exit.inBlock, Exit.then])
          have h2 := twice0 w2 (B + 1) (.slice none 0 0) (.slice none 0 0) _ _ y0 y1
          refine bodyPost_ret (results_list1 rfl _ _ (B + 1) rfl h2.1 h2.2) rfl (.inl ⟨HNE.out, ?_, ?_⟩)
          · rw [HEQ.out]; rfl
          · rw [← HBB.out]
            exact (HB2.out.setCell (p := ⟨B + 1, 0, none⟩) (by simp only; omega) _).setCell (p := ⟨B + 1, 1, none⟩) (by simp only; omega) _
    · have HI := Lib.hid ((isIndex_any p (m : Int) w2).mono fun e w' h => h.no hp)
      have HEQ : Hid (staE l p kd c = 2) := Lib.hid (by unfold staE; rw [HVB.out, if_neg (by decide), if_pos (by rw [HM.out]; exact hp)])
      have HNE : Hid (staE l p kd c ≠ 0) := Lib.hid (by rw [HEQ.out]; decide)
      go_wp2_with (first | (go_at_call 44; with_reducible refine (HI.out).mono ?_; rintro e w' ⟨rfl, rfl⟩))
      (try simp only [Exit.inBlock, Exit.then])
      have h2 := twice0 w2 (B + 1) (.slice none 0 0) (.slice none 0 0) _ _ y0 y1
      refine bodyPost_ret (results_list1 rfl _ _ (B + 1) rfl h2.1 h2.2) rfl (.inl ⟨HNE.out, ?_, ?_⟩)
      · rw [HEQ.out]; rfl
      · rw [← HBB.out]
        exact (HB2.out.setCell (p := ⟨B + 1, 0, none⟩) (by simp only; omega) _).setCell (p := ⟨B + 1, 1, none⟩) (by simp only; omega) _
  · replace HVA := Lib.hid (HVA.out.mono fun e w' h => h.no v)
    have HVB := Lib.hid (vldB_no v)
    clear v
    go_wp2_with fail
    refine (HVA.out).mono ?_
    rintro e w2 ⟨rfl, hb2⟩
    have HY2 := Lib.hid (HY.out.below hb2)
    have HB2 := Lib.hid (HB.out.trans (hb2.mono (by omega)))
    clear x0 x1 hb2 hz HVA HX HY HB HL
    have y0 := HY2.out.cell 0
    have y1 := HY2.out.cell 1
    have z0 := HY2.out.frozen 0
    have z1 := HY2.out.frozen 1
    have HEQ : Hid (staE l p kd c = 1) := Lib.hid (by unfold staE; rw [if_pos HVB.out])
    have HNE : Hid (staE l p kd c ≠ 0) := Lib.hid (by rw [HEQ.out]; decide)
    go_wp2_with fail
    (try simp only [Exit.inBlock, Exit.then])
    have h2 := twice0 w2 (B + 1) (.slice none 0 0) (.slice none 0 0) _ _ y0 y1
    refine bodyPost_ret (results_list1 rfl _ _ (B + 1) rfl h2.1 h2.2) rfl (.inl ⟨HNE.out, ?_, ?_⟩)
    · rw [HEQ.out]; rfl
    · rw [← HBB.out]
      exact (HB2.out.setCell (p := ⟨B + 1, 0, none⟩) (by simp only; omega) _).setCell (p := ⟨B + 1, 1, none⟩) (by simp only; omega) _
end Lk
end Go.Proofs.YtgmffgdhijcfcaaDoor
