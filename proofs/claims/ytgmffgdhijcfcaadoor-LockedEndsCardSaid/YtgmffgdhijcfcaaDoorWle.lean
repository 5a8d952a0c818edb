/-
  The walk of LockedEnds: from whatever numbers it answers true and only makes memory. Conditions: the argument can be read; 'letters' is as its initialiser lays it.
-/
import Derived.Test.YtgmffgdhijcfcaaDoorMaP
import Derived.Test.YtgmffgdhijcfcaaDoorMaM
import Derived.Test.YtgmffgdhijcfcaaDoorMaS
import Derived.Test.YtgmffgdhijcfcaaDoorMaA
namespace Go.Proofs.YtgmffgdhijcfcaaDoor
open Go.RowKit Go.Maps
namespace Lk
/-- What a round of LockedEnds keeps. -/
def EnR (w1 : World) (B lo g : Nat) (l : Ls) (n m G1 G2 d1 d2 : Nat) (wx : World) : Prop := HoL wx B lo l n m G1 G2 d1 d2 ∧ TStep w1 g wx ∧ B + 1 ≤ wx.heap.size
theorem EnR.but {w1 w6 wx : World} {B lo g : Nat} {l : Ls} {n m G1 G2 d1 d2 X : Nat} (h1 : HoL w6 B lo l n m G1 G2 d1 d2) (h3 : TStep w1 g w6) (h4 : B + 1 ≤ w6.heap.size) (v : Vld l) (hX : B + 1 ≤ X) (g1 : G1 < X) (g2 : G2 < X) (hB : w1.heap.size ≤ B) (hg : g < w1.heap.size) (k : But X w6 wx) : EnR w1 B lo g l n m G1 G2 d1 d2 wx :=
  ⟨k.hol h1 v (by omega) (by omega) (by omega), tover h3 hg (k.below (by omega) h3.2.size), Nat.le_trans h4 k.size⟩
theorem mod_all {m f q : Nat} (hq : q < m) (hf : f < m) : ∃ j, j < m ∧ (f + j) % m = q := by
  rcases Nat.lt_or_ge q f with h | h
  · refine ⟨m - f + q, by omega, ?_⟩
    rw [show f + (m - f + q) = m + q by omega, Nat.add_mod_left, Nat.mod_eq_of_lt hq]
  · refine ⟨q - f, by omega, ?_⟩
    rw [show f + (q - f) = q by omega, Nat.mod_eq_of_lt hq]
set_option maxRecDepth 100000 in
set_option maxHeartbeats 6400000 in
theorem ends_walk (A : Option Addr) (n0 cp : Nat) (w : World) (hL : Lets w) (hnc : n0 ≤ cp) (hc : cp ≤ maxLen) (hN : Nums w w.heap.size A n0) :
    Calls Tryd.prog 7 #[.slice A n0 cp] w (LawP w) := by
  go_enter Tryd.func7, Tryd.ntmps7
  go_wp2_with fail
  refine (Go.Proofs.YtgmffgdhijcfcaaDoor.new_any A n0 cp _ hnc hc hN).mono ?_
  rintro e w1 ⟨g, hg1, rfl, hTp, hb1⟩
  have hne2 : 0 ≠ g := by have := hL.lt; omega
  have l1 := hL.below hb1
  have hgw := hTp.lt
  have HB1 := Lib.hid hb1
  clear hN hnc hc hL hb1
  go_wp2_with fail
  refine (made_any g w1 hTp l1 hne2 hgw).mono ?_
  rintro e w2 ⟨l0, n, m, J1, J2, c1, c2, rfl, hfr, hrd, hst⟩
  have hm4 : 2 ≤ m ∧ m ≤ 4 := ⟨hfr.m2, hfr.m4⟩
  have HFR := Lib.hid hfr
  have HLA := Lib.hid (HoL.new (d1 := c1) (d2 := c2) (t := 35) (n := n) (m := m) (RdL.low hrd (Nat.le_refl _)) hfr.led.1 hst.2.size hfr.hn hfr.hm)
  have HTA := Lib.hid (hst.below ((Below.refl w2.heap.size w2).alloc (Nat.le_refl _) (.cells #[.slice (some ⟨J1, 0, none⟩) n c1, .slice (some ⟨J2, 0, none⟩) m c2] 35)))
  have hsz : (w2.alloc (.cells #[.slice (some ⟨J1, 0, none⟩) n c1, .slice (some ⟨J2, 0, none⟩) m c2] 35)).heap.size = w2.heap.size + 1 := World.size_alloc _ _
  have hs2 := hst.2.size
  clear hfr hrd hst hTp l1
  go_upto_region 3 with fail
  generalize w2.alloc (.cells #[.slice (some ⟨J1, 0, none⟩) n c1, .slice (some ⟨J2, 0, none⟩) m c2] 35) = W at *
  obtain ⟨B, hB⟩ : ∃ B, B = w2.heap.size := ⟨_, rfl⟩
  rw [← hB] at HLA hsz hs2 ⊢
  clear hB
  have y0 := HLA.out.x0
  have y1 := HLA.out.x1
  go_wp2_with fail
  refine (play_any g w1.heap.size l0 n m 60 J1 J2 c1 c2 W HTA.out.1 hgw (by omega) HFR.out.led HLA.out.hn HLA.out.hm HLA.out.rd (by omega)).mono ?_
  rintro e w5 ⟨l5, st, K1, K2, f1, f2, rfl, hld5, hn5, hm5, hr5, hst5, hor⟩
  have hlt4 := HLA.out.lt
  have hx1 := HLA.out.n1
  have hx2 := HLA.out.n2
  have HL5 := Lib.hid (HLA.out.step hgw hst5)
  have HLS := Lib.hid (HoL.mk2 (w := w5) (d1 := f1) (d2 := f2) (n := n) (m := m) (by rw [HL5.out.x0]; simp) (by rw [HL5.out.x1]; simp) HL5.out.fz HL5.out.lB hr5 (by omega) (by omega) hn5 hm5)
  have HTS := Lib.hid ((HTA.out.trans hst5).set (p := ⟨B, 0, none⟩) HLA.out.lB hgw (.slice (some ⟨K1, 0, none⟩) n f1) |>.set (p := ⟨B, 1, none⟩) HLA.out.lB hgw (.slice (some ⟨K2, 0, none⟩) m f2))
  have hs5 := hst5.2.size
  have HLD5 := Lib.hid hld5
  have z0 := HL5.out.fz 0
  have z1 := HL5.out.fz 1
  replace y0 := HL5.out.x0
  replace y1 := HL5.out.x1
  clear hst5 hor hr5 hld5 hn5 hm5 hx1 hx2
  go_upto_region 6 with fail
  have hszS : B + 1 ≤ ((w5.setCell ⟨B, 0, none⟩ (.slice (some ⟨K1, 0, none⟩) n f1)).setCell ⟨B, 1, none⟩ (.slice (some ⟨K2, 0, none⟩) m f2)).heap.size := by simp only [World.size_setCell]; omega
  generalize (w5.setCell ⟨B, 0, none⟩ (.slice (some ⟨K1, 0, none⟩) n f1)).setCell ⟨B, 1, none⟩ (.slice (some ⟨K2, 0, none⟩) m f2) = V at *
  clear y0 y1 z0 z1
  have y0 := HLS.out.x0
  have y1 := HLS.out.x1
  go_wp2_with fail
  refine (bound_any (some ⟨K1, 0, none⟩) (some ⟨K2, 0, none⟩) l5 n m f1 f2 V HLS.out.hn HLS.out.hm (HLS.out.rd.low (Nat.zero_le _))).mono ?_
  rw [vldB_yes HLD5.out.1, if_pos rfl]
  have HLK := Lib.hid (led_bound HLD5.out)
  have hM6 := bnd_small HLD5.out.1
  generalize bndV l5 = M at *
  rintro e w6 ⟨rfl, hb6⟩
  have HL6 := Lib.hid (HLS.out.below hb6)
  have HT6 := Lib.hid (HTS.out.below hb6)
  have hs6 : B + 1 ≤ w6.heap.size := by have := hb6.size; omega
  clear hb6 y0 y1
  go_wp2_with fail
  go_loopw [7] (fun v7 wr => ∃ (l : Ls) (i k G1 G2 d1 d2 : Nat), v7 = .int .i64 (i : Int) ∧ i + k ≤ M ∧ HoL wr B w1.heap.size l n m G1 G2 d1 d2 ∧ Hid (LedK l k) ∧ TStep w1 g wr ∧ B + 1 ≤ wr.heap.size) (fun v7 _ => M - (intOf v7).toNat)
  case atStart => exact ⟨l5, 0, M, K1, K2, f1, f2, rfl, by omega, HL6.out, HLK, HT6.out, hs6⟩
  case round =>
    clear HL6 HT6 hs6 HLA HTA hsz HFR HL5 HLS HTS HLD5 HLK hszS hs5 hlt4
    obtain ⟨l, i, k, G1, G2, d1, d2, rfl, hik, hl, HLK, ht, hs⟩ := hrel
    have HL := Lib.hid hl
    have HT := Lib.hid ht
    have HLD := Lib.hid (ledK_led HLK.out)
    have y0 := hl.x0
    have y1 := hl.x1
    clear hl ht
    go_wp2_with fail
    refine (rbusy_any (some ⟨G1, 0, none⟩) (some ⟨G2, 0, none⟩) l n m d1 d2 _ wr HL.out.hm HL.out.rd.ps HLD.out.1).mono ?_
    rintro e w7 ⟨rfl, hb7⟩
    have HL7 := Lib.hid (HL.out.below hb7)
    have HT7 := Lib.hid (HT.out.below hb7)
    have hs7 : B + 1 ≤ w7.heap.size := by have := hb7.size; omega
    replace y0 := HL7.out.x0
    replace y1 := HL7.out.x1
    clear hb7
    by_cases hbz : 0 < busV l
    · have HSO := Lib.hid (led_some HLD.out hbz)
      have hd : decide ((0 : Int) < (busV l : Int)) = true := by simp; omega
      have hdn : decide (0 < busV l) = true := by simpa using hbz
      generalize busV l = bz at *
      go_wp2_with fail
      refine (next_any g (m : Int) w7 HT7.out.1 (by omega)).mono ?_
      rintro e w8 ⟨r, r0, r1, rfl, hst8⟩
      obtain ⟨f, rfl⟩ := Int.eq_ofNat_of_zero_le r0
      have hf : f < m := by omega
      have HL8 := Lib.hid (HL7.out.step hgw hst8)
      have HT8 := Lib.hid (HT7.out.trans hst8)
      have hs8 : B + 1 ≤ w8.heap.size := by have := hst8.2.size; omega
      clear hst8 r0 r1 y0 y1 hd hdn hbz
      go_wp2_with fail
      go_loopw [9, 10] (fun v9 v10 wr => ∃ (l' : Ls) (j H1 H2 e1 e2 : Nat) (b : Bool), v9 = .bool b ∧ v10 = .int .i64 (j : Int) ∧ j ≤ m ∧ HoL wr B w1.heap.size l' n m H1 H2 e1 e2 ∧ TStep w1 g wr ∧ B + 1 ≤ wr.heap.size ∧ Hid (Led l') ∧ Hid (b = false → l = l' ∧ ∀ x, x < j → stepV l ((f + x) % m) = none) ∧ Hid (b = true → 0 < k ∧ LedK l' (k - 1))) (fun _ v10 _ => m - (intOf v10).toNat)
      case atStart => exact ⟨l, 0, G1, G2, d1, d2, false, rfl, rfl, Nat.zero_le _, HL8.out, HT8.out, hs8, HLD, Lib.hid (fun _ => ⟨rfl, fun x hx => absurd hx (Nat.not_lt_zero _)⟩), Lib.hid (fun h => nomatch h)⟩
      case round =>
        clear HL8 HT8 hs8 HL7 HT7 hs7 HL HT hs
        obtain ⟨l', j, H1, H2, e1, e2, b, rfl, rfl, hj, hl, ht, hs, HLD', HF, HTR⟩ := hrel
        have HL := Lib.hid hl
        have HT := Lib.hid ht
        have y0 := hl.x0
        have y1 := hl.x1
        have z0 := hl.fz 0
        have z1 := hl.fz 1
        clear hl ht
        cases b with
        | true =>
          obtain ⟨k0, hk1⟩ := HTR.out rfl
          have HLK1 := Lib.hid hk1
          have hM1 : decide ((M : Int) < (i : Int) + 1) = false := by simp; omega
          have hM2 : decide ((i : Int) + 1 > (M : Int)) = false := by simp; omega
          have hm0 : ((m : Int) == 0) = false := by simp; omega
          have hw : IntKind.i64.wrap ((i : Int) + 1) = (i : Int) + 1 := IntWalk.i64_in _ (by omega)
          clear hk1 HF HTR
          by_cases hjm : j < m
          · have hd : decide ((j : Int) < (m : Int)) = true := by simp; omega
            go_wp2_with fail
            exact ⟨⟨l', i + 1, k - 1, H1, H2, e1, e2, by go_num, by omega, HL.out, HLK1, HT.out, hs⟩, by simp [intOf]; omega⟩
          · have hd : decide ((j : Int) < (m : Int)) = false := by simp; omega
            go_wp2_with fail
            exact ⟨⟨l', i + 1, k - 1, H1, H2, e1, e2, by go_num, by omega, HL.out, HLK1, HT.out, hs⟩, by simp [intOf]; omega⟩
        | false =>
          obtain ⟨rfl, hnone⟩ := HF.out rfl
          have hjm : j < m := by
            rcases Nat.lt_or_ge j m with h | h
            · exact h
            · exfalso
              obtain ⟨q, l2, hq, hq2⟩ := HSO.out
              rw [HL.out.hm] at hq
              obtain ⟨x, hx, ex⟩ := mod_all hq hf
              have := hnone x (by omega)
              rw [ex, hq2] at this
              cases this
          have HNO := Lib.hid hnone
          have hd : decide ((j : Int) < (m : Int)) = true := by simp; omega
          have hqm : (f + j) % m < m := Nat.mod_lt _ (by omega)
          have hw : IntKind.i64.wrap ((f : Int) + (j : Int)) = (f : Int) + (j : Int) := IntWalk.i64_in _ (by omega)
          obtain ⟨q, hq⟩ : ∃ q, q = (f + j) % m := ⟨_, rfl⟩
          have hrem : ((f : Int) + (j : Int)).tmod (m : Int) = (q : Int) := by
            rw [Int.tmod_eq_emod_of_nonneg (by omega), hq]
            simp
          have hm0 : ¬ (m : Int) = 0 := by omega
          have hm0n : ¬ m = 0 := by omega
          rw [← hq] at hqm
          have HQ := Lib.hid hq
          clear hnone HF HTR hq
          go_upto_region 12 with fail
          have hgl := HL.out.glt HLD.out.1
          have hal := ((Below.refl wr.heap.size wr).alloc (Nat.le_refl _) (.cells #[.slice none 0 0, .slice none 0 0] 35)).drew
          have HLD1 : Hid (HoL wr.drew B w1.heap.size l n m H1 H2 e1 e2) := Lib.hid HL.out.drew
          have HLD2 := Lib.hid (HL.out.below hal)
          have HTD1 : Hid (TStep w1 g wr.drew) := Lib.hid (HT.out.below (Below.refl _ wr).drew)
          have HTD2 := Lib.hid (HT.out.below hal)
          have HZ2 := Lib.hid ((Has.new wr 35 #[.slice none 0 0, .slice none 0 0]).below (Below.refl _ _).drew)
          have hq3 : (wr.alloc (.cells #[.slice none 0 0, .slice none 0 0] 35)).drew.heap.size = wr.heap.size + 1 := World.size_alloc _ _
          have x0f : (wr.alloc (.cells #[.slice none 0 0, .slice none 0 0] 35)).cell? ⟨B, 0, none⟩ = some (.slice (some ⟨H1, 0, none⟩) n e1) := HLD2.out.x0
          have x1f : (wr.alloc (.cells #[.slice none 0 0, .slice none 0 0] 35)).cell? ⟨B, 1, none⟩ = some (.slice (some ⟨H2, 0, none⟩) m e2) := HLD2.out.x1
          have HSP1 := Lib.hid (step_any ⟨H1, 0, none⟩ ⟨H2, 0, none⟩ l (q : Int) n m e1 e2 wr.drew HL.out.hn HL.out.hm (HLD1.out.rd.low (Nat.zero_le _)) HLD.out.1)
          have HSP2 := Lib.hid (step_any ⟨H1, 0, none⟩ ⟨H2, 0, none⟩ l (q : Int) n m e1 e2 (wr.alloc (.cells #[.slice none 0 0, .slice none 0 0] 35)).drew HL.out.hn HL.out.hm (HLD2.out.rd.low (Nat.zero_le _)) HLD.out.1)
          clear hal
          go_cut [11, 12] (fun s11 s12 wx => SpRel (EnR w1 B w1.heap.size g l n m H1 H2 e1 e2) l (q : Int) n m (B + 1) s11 s12 wx)
          case first =>
            go_region_law (go_simp; go_at_call 23; first | ((refine (HSP1.out).mono ?_); rintro e w6 ⟨K1, K2, f1, f2, rfl, hr6, hb6⟩; obtain ⟨b6, hbb⟩ : ∃ b6, b6 = (stpO l (q : Int)).isSome := ⟨_, rfl⟩; rw [← hbb]; have HBB6 := Lib.hid hbb; have HR6 : Hid (RdL w6 wr.heap.size (some ⟨K1, 0, none⟩) (some ⟨K2, 0, none⟩) ((stpO l (q : Int)).getD l)) := Lib.hid hr6; have HL6 := Lib.hid (HLD1.out.below hb6); have HT6 := Lib.hid (HTD1.out.below hb6); have hs6 : wr.heap.size ≤ w6.heap.size := hb6.size; clear hbb hr6 hb6) | ((refine (HSP2.out).mono ?_); rintro e w6 ⟨K1, K2, f1, f2, rfl, hr6, hb6⟩; obtain ⟨b6, hbb⟩ : ∃ b6, b6 = (stpO l (q : Int)).isSome := ⟨_, rfl⟩; rw [← hbb]; have HBB6 := Lib.hid hbb; have HR6 : Hid (RdL w6 (wr.heap.size + 1) (some ⟨K1, 0, none⟩) (some ⟨K2, 0, none⟩) ((stpO l (q : Int)).getD l)) := Lib.hid (hr6.low (Nat.le_of_eq hq3.symm)); have HL6 := Lib.hid (HLD2.out.below hb6); have HT6 := Lib.hid (HTD2.out.below hb6); have HZ6 := Lib.hid (HZ2.out.below hb6); have c0 := HZ6.out.cell 0; have c1' := HZ6.out.cell 1; have z2 := HZ6.out.frozen 0; have z3 := HZ6.out.frozen 1; have hs6 : wr.heap.size ≤ w6.heap.size := (by have := hb6.size; rw [hq3] at this; omega); clear hbb hr6 hb6))
            all_goals (go_wp2_with fail; go_meet)
            all_goals first
              | exact SpRel.mk HBB6.out HR6.out (by omega) (fun k => EnR.but HL6.out HT6.out (by omega) HLD.out.1 (by omega) (by omega) (by omega) hs2 hgw k) (But.of ((Below.refl _ _).alloc (Nat.le_refl _) _)) ((Has.new _ _ _).cell 0) ((Has.new _ _ _).cell 1) (.inr (Nat.le_refl _))
              | exact SpRel.mk HBB6.out HR6.out (by omega) (fun k => EnR.but HL6.out HT6.out (by omega) HLD.out.1 (by omega) (by omega) (by omega) hs2 hgw k) ((But.refl.set (p := ⟨wr.heap.size, 0, none⟩) rfl _).set (p := ⟨wr.heap.size, 1, none⟩) rfl _) (twice0 _ _ _ _ _ _ c0 c1').1 (twice0 _ _ _ _ _ _ c0 c1').2 (.inl (Nat.lt_succ_self _))
          case rest =>
            obtain ⟨X, G1', G2', f1, f2, b, rfl, rfl, x0, x1, ⟨hlr, htr, hsr⟩, HBS, hr⟩ := hcut
            clear HSP1 HSP2 HLD1 HLD2 HTD1 HTD2 HZ2 hq3 x0f x1f y0 y1 z0 z1
            have y0 := hlr.x0
            have y1 := hlr.x1
            have z0 := hlr.fz 0
            have z1 := hlr.fz 1
            have hstp : stpO l (q : Int) = stepV l q := by unfold stpO; rw [if_pos ⟨by omega, by rw [hlr.hm]; omega⟩, Int.toNat_natCast]
            rw [hstp] at hr
            have HBS2 : Hid (b = (stepV l q).isSome) := Lib.hid (by rw [← hstp]; exact HBS.out)
            have hw2 : IntKind.i64.wrap ((j : Int) + 1) = (j : Int) + 1 := IntWalk.i64_in _ (by omega)
            cases b with
            | true =>
              obtain ⟨l2, e2'⟩ := Option.isSome_iff_exists.1 HBS2.out.symm
              rw [e2', Option.getD_some] at hr
              have hkk := ledK_step HLK.out (p := q) (by rw [hlr.hm]; exact hqm) e2'
              have hln := bus_step HLD.out.1 (p := q) (by rw [hlr.hm]; exact hqm) e2'
              have hld2 := ledK_led hkk.2
              have hk := rd_lo hr hld2.1
              have HLS := Lib.hid (HoL.mk2 (w := wc) (d1 := f1) (d2 := f2) (n := n) (m := m) (by rw [y0]; simp) (by rw [y1]; simp) hlr.fz hlr.lB (hr.low (by omega)) (by omega) (by omega) (hln.1.trans hlr.hn) (hln.2.trans hlr.hm))
              have HTS := Lib.hid (htr.set (p := ⟨B, 0, none⟩) hlr.lB hgw (.slice (some ⟨G1', 0, none⟩) n f1) |>.set (p := ⟨B, 1, none⟩) hlr.lB hgw (.slice (some ⟨G2', 0, none⟩) m f2))
              have HLD3 := Lib.hid hld2
              have HKK := Lib.hid hkk
              clear hr hkk hln hld2 hk hlr htr hstp HBS HBS2 e2'
              go_wp2_with fail
              exact ⟨⟨l2, j + 1, G1', G2', f1, f2, true, rfl, by go_num, hjm, HLS.out, HTS.out, by simp only [World.size_setCell]; exact hsr, HLD3, Lib.hid (fun h => nomatch h), Lib.hid (fun _ => HKK.out)⟩, by simp [intOf]; omega⟩
            | false =>
              have e2' : stepV l q = none := by
                cases e3 : stepV l q with
                | none => rfl
                | some l2 => have := HBS2.out; rw [e3] at this; cases this
              have HN2 : Hid (∀ x, x < j + 1 → stepV l ((f + x) % m) = none) := Lib.hid (fun x hx => by
                rcases Nat.lt_or_ge x j with h | h
                · exact HNO.out x h
                · obtain rfl : x = j := by omega
                  rw [← HQ.out]
                  exact e2')
              have HLR := Lib.hid hlr
              have HTR2 := Lib.hid htr
              clear hr hlr htr hstp HBS HBS2 e2'
              go_wp2_with fail
              exact ⟨⟨l, j + 1, H1, H2, e1, e2, false, rfl, by go_num, hjm, HLR.out, HTR2.out, hsr, HLD, Lib.hid (fun _ => ⟨rfl, HN2.out⟩), Lib.hid (fun h => nomatch h)⟩, by simp [intOf]; omega⟩
    · have hbz0 : busV l = 0 := by omega
      have HRE := Lib.hid (led_rest HLD.out hbz0)
      have hd : decide ((0 : Int) < (busV l : Int)) = false := by rw [hbz0]; rfl
      have hdn : decide (0 < busV l) = false := by simpa using hbz
      generalize busV l = bz at *
      have n66 : n ≤ 66 := by have := HLD.out.1.n66; have := HL7.out.hn; omega
      clear hbz hbz0 HL HT
      go_wp2_with fail
      go_loopw [13] (fun v13 wr => ∃ j : Nat, v13 = .int .i64 (j : Int) ∧ j ≤ n ∧ w7 = wr) (fun v13 _ => n - (intOf v13).toNat)
      case atStart => exact ⟨0, rfl, Nat.zero_le _, rfl⟩
      case round =>
        obtain ⟨j, rfl, hj, rfl⟩ := hrel
        by_cases hjn : j < n
        · have hd : decide ((j : Int) < (n : Int)) = true := by simp; omega
          have i0 : (0 : Int) ≤ (j : Int) := by omega
          have i1 : (j : Int) < (n : Int) := by omega
          obtain ⟨b, o, e, -, -, f0, f1, f2, f3, f4⟩ := HL7.out.rd.cell (i := j) (by rw [HL7.out.hn]; exact hjn)
          injection e with e
          injection e with e1 e2 _
          subst e1 e2
          rw [HRE.out j (by rw [HL7.out.hn]; exact hjn)] at f3
          clear f0 f1 f2 f4
          rw [Nat.zero_add] at f3
          go_wp2_with fail
          exact ⟨⟨j + 1, by go_num, hjn, trivial⟩, by simp [intOf]; omega⟩
        · have hd : decide ((j : Int) < (n : Int)) = false := by simp; omega
          go_wp2_with fail
          refine (check_any (some ⟨G1, 0, none⟩) (some ⟨G2, 0, none⟩) l n m d1 d2 w7 HL7.out.hn HL7.out.hm (HL7.out.rd.low (Nat.zero_le _))).mono ?_
          intro e w8 h8
          obtain ⟨rfl, hb8⟩ := h8.yes (led_chk HLD.out)
          go_wp2_with fail
          refine (sane11_any w8).mono ?_
          rintro e w' ⟨rfl, hb⟩
          go_wp2_with fail
          go_ret
          exact ⟨rfl, (HB1.out.grown HT7.out.2 HB1.out.size (fun j e => by have := Option.some.inj e; omega)).trans ((hb8.trans (hb.mono hb8.size)).mono (by have := HT7.out.2.size; have := HB1.out.size; omega))⟩
end Lk
end Go.Proofs.YtgmffgdhijcfcaaDoor
