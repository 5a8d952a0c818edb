/-
  The walk of LockedSerial: from whatever numbers it answers true and only makes memory. Conditions: the argument can be read; 'letters' is as its initialiser lays it.
-/
import Derived.Test.YtgmffgdhijcfcaaDoorMaO
import Derived.Test.YtgmffgdhijcfcaaDoorMaM
import Derived.Test.YtgmffgdhijcfcaaDoorMaS
import Derived.Test.YtgmffgdhijcfcaaDoorMaA
namespace Go.Proofs.YtgmffgdhijcfcaaDoor
open Go.RowKit Go.Maps
namespace Lk
theorem sta_ser {l : Ls} (h : Led l) (hb : busV l = 0) {kd c : Int} (hk : 1 ≤ kd ∧ kd ≤ 3) (hc : 2 ≤ c) : (c < (l.cs.length : Int) → staE l 0 kd c = 0) ∧ (¬ c < (l.cs.length : Int) → staE l 0 kd c = 6) := by
  have hm := h.1.m1
  have hr := rest_ph h.1 hb 0
  unfold staE
  rw [vldB_yes h.1, if_neg (by decide), if_neg (by omega)]
  constructor
  · intro q
    rw [if_neg (by omega), if_neg (by omega), if_neg (by show ¬ ((l.pr 0).phase ≠ 0 ∧ (l.pr 0).phase ≠ 18); omega)]
  · intro q
    rw [if_pos (by omega)]
theorem memV_len (l : Ls) : (memV l).length ≤ l.cs.length := by
  unfold memV memI
  rw [List.length_mergeSort]
  exact Nat.le_trans (List.length_filter_le _ _) (by simp)
/-- What drawn numbers leave. -/
def DrR (R : World → Prop) (n : Nat) (s1 s2 : Value) (wx : World) : Prop := ∃ kd c : Nat, s1 = .int .i64 (kd : Int) ∧ s2 = .int .i64 (c : Int) ∧ 1 ≤ kd ∧ kd ≤ 3 ∧ 2 ≤ c ∧ c ≤ n ∧ R wx
def SeR (w1 : World) (B lo g : Nat) (l : Ls) (n m G1 G2 d1 d2 : Nat) (A : Option Addr) (ids : List Int) (wx : World) : Prop := HoL wx B lo l n m G1 G2 d1 d2 ∧ TStep w1 g wx ∧ B + 1 ≤ wx.heap.size ∧ RdR nrow 1 wx (B + 1) A ids
set_option maxRecDepth 100000 in
set_option maxHeartbeats 20000000 in
theorem serial_walk (A : Option Addr) (n0 cp : Nat) (w : World) (hL : Lets w) (hnc : n0 ≤ cp) (hc : cp ≤ maxLen) (hN : Nums w w.heap.size A n0) :
    Calls Tryd.prog 8 #[.slice A n0 cp] w (LawP w) := by
  go_enter Tryd.func8, Tryd.ntmps8
  go_wp2_with fail
  refine (Go.Proofs.YtgmffgdhijcfcaaDoor.new_any A n0 cp _ hnc hc hN).mono ?_
  rintro e w1 ⟨g, hg1, rfl, hTp, hb1⟩
  have hne2 : 0 ≠ g := by have := hL.lt; omega
  have l1 := hL.below hb1
  have hgw := hTp.lt
  have HB1 := Lib.hid hb1
  clear hN hnc hc hL hb1
  go_wp2_with fail
  refine (made_any g w1 hTp l1 hne2 hgw).mono ?_
  rintro e w2 ⟨l0, n, m, J1, J2, c1, c2, rfl, hfr, hrd, hst⟩
  have hm4 : 2 ≤ m ∧ m ≤ 4 := ⟨hfr.m2, hfr.m4⟩
  have hn8 : 2 ≤ n ∧ n ≤ 8 := ⟨by rw [← hfr.hn]; exact hfr.led.1.n2, hfr.n8⟩
  have HFR := Lib.hid hfr
  have HLA := Lib.hid (HoL.new (d1 := c1) (d2 := c2) (t := 35) (n := n) (m := m) (RdL.low hrd (Nat.le_refl _)) hfr.led.1 hst.2.size hfr.hn hfr.hm)
  have HTA := Lib.hid (hst.below ((Below.refl w2.heap.size w2).alloc (Nat.le_refl _) (.cells #[.slice (some ⟨J1, 0, none⟩) n c1, .slice (some ⟨J2, 0, none⟩) m c2] 35)))
  have hsz : (w2.alloc (.cells #[.slice (some ⟨J1, 0, none⟩) n c1, .slice (some ⟨J2, 0, none⟩) m c2] 35)).heap.size = w2.heap.size + 1 := World.size_alloc _ _
  have hs2 := hst.2.size
  clear hfr hrd hst hTp l1
  go_upto_region 3 with fail
  generalize w2.alloc (.cells #[.slice (some ⟨J1, 0, none⟩) n c1, .slice (some ⟨J2, 0, none⟩) m c2] 35) = W at *
  obtain ⟨B, hB⟩ : ∃ B, B = w2.heap.size := ⟨_, rfl⟩
  rw [← hB] at HLA hsz hs2 ⊢
  clear hB
  have y0 := HLA.out.x0
  have y1 := HLA.out.x1
  go_wp2_with fail
  refine (Members_any (some ⟨J1, 0, none⟩) (some ⟨J2, 0, none⟩) l0 n m c1 c2 W HLA.out.hn HLA.out.hm (HLA.out.rd.low (Nat.zero_le _))).mono ?_
  rw [vldB_yes HFR.out.led.1, if_pos rfl]
  rintro e w3 ⟨A3, k3, e3, rfl, hk3, -, -, hr3, hb3⟩
  have HL3 := Lib.hid (HLA.out.below hb3)
  have HT3 := Lib.hid (HTA.out.below hb3)
  have hs3 : B + 1 ≤ w3.heap.size := by have := hb3.size; omega
  have HR3 := Lib.hid (RdR.low hr3 (Nat.le_of_eq hsz.symm))
  have HK3 := Lib.hid hk3
  have HBU : Hid (busV l0 = 0) := Lib.hid (by
    have hz : ∀ q, act ((toSt l0).p q) = true → False := fun q h => by
      rcases Nat.lt_or_ge q l0.ps.length with hq | hq
      · have := (act_ph HFR.out.led.1 hq).1 h
        rw [HFR.out.pr q] at this
        exact this.1 rfl
      · have : (toSt l0).p q = toPr Po.zero := by show toPr (l0.pr q) = _; rw [pr_out hq]
        rw [this] at h
        exact absurd h (by decide)
    rcases Nat.eq_zero_or_pos (busV l0) with h | h
    · exact h
    · obtain ⟨q, l', hq, e⟩ := led_some HFR.out.led h
      rw [stepV_idle (.inl (by rw [HFR.out.pr q]; rfl))] at e
      cases e)
  have HLD0 := Lib.hid HFR.out.led
  clear hk3 hr3 hb3 y0 y1 HLA HTA HFR hsz
  go_wp2_with fail
  go_loopw [6, 7] (fun v6 v7 wr => ∃ (l : Ls) (i k G1 G2 d1 d2 cc : Nat) (A : Option Addr), v6 = .slice A k cc ∧ v7 = .int .i64 (i : Int) ∧ i ≤ 8 ∧ HoL wr B w1.heap.size l n m G1 G2 d1 d2 ∧ Hid (Led l) ∧ Hid (busV l = 0) ∧ TStep w1 g wr ∧ B + 1 ≤ wr.heap.size ∧ Hid ((nat2 (memV l)).length = k) ∧ RdR nrow 1 wr (B + 1) A (nat2 (memV l))) (fun _ v7 _ => 8 - (intOf v7).toNat)
  case atStart => exact ⟨l0, 0, k3, J1, J2, c1, c2, e3, A3, rfl, rfl, Nat.zero_le _, HL3.out, HLD0, HBU, HT3.out, hs3, HK3, HR3.out⟩
  case round =>
    clear HL3 HT3 hs3 HK3 HR3 HLD0 HBU
    obtain ⟨l, i, k, G1, G2, d1, d2, cc, AA, rfl, rfl, hi, hl, HLD, HBU, ht, hs, HK, hr⟩ := hrel
    have HL := Lib.hid hl
    have HT := Lib.hid ht
    have HR := Lib.hid hr
    clear hl ht hr
    by_cases hlt : i < 8
    · have hd : decide ((i : Int) < 8) = true := by simp; omega
      go_wp2_with fail
      refine (left_any g wr HT.out.1).mono ?_
      rintro e w4 ⟨b4, rfl, hst4⟩
      have HL4 := Lib.hid (HL.out.step hgw hst4)
      have HT4 := Lib.hid (HT.out.trans hst4)
      have HR4 := Lib.hid (RdR.step HR.out (Nat.lt_of_lt_of_le hgw (by omega : w1.heap.size ≤ B + 1)) hst4)
      have hs4 : B + 1 ≤ w4.heap.size := Nat.le_trans hs hst4.2.size
      clear hst4
      cases b4 with
      | true =>
        have y0 := HL4.out.x0
        have y1 := HL4.out.x1
        go_upto_region 9 with fail
        have HLE : Hid (HoL w4.drew B w1.heap.size l n m G1 G2 d1 d2) := Lib.hid HL4.out.drew
        have HTE : Hid (TStep w1 g w4.drew) := Lib.hid (HT4.out.below (Below.refl _ w4).drew)
        have HRE : Hid (RdR nrow 1 w4.drew (B + 1) AA (nat2 (memV l))) := Lib.hid (RdR.below HR4.out (Below.refl _ w4).drew)
        go_cut [8, 9] (fun s8 s9 wx => DrR (SeR w1 B w1.heap.size g l n m G1 G2 d1 d2 AA (nat2 (memV l))) n s8 s9 wx)
        case first =>
          obtain ⟨n2, hn2⟩ : ∃ n2 : Nat, n = n2 + 2 := ⟨n - 2, by omega⟩
          have HN2 := Lib.hid hn2
          have hw9 : IntKind.i64.wrap ((n : Int) - 2) = (n2 : Int) := by rw [IntWalk.i64_in _ (by omega)]; omega
          clear hn2
          have hS4 : w4.drew.cell? ⟨B, 0, none⟩ = some (.slice (some ⟨G1, 0, none⟩) n d1) := HLE.out.x0
          rcases Nat.eq_zero_or_pos n2 with h0 | h0
          · subst h0
            go_region_held3 (fun w' => w'.cell? ⟨B, 0, none⟩ = some (.slice (some ⟨G1, 0, none⟩) n d1))
              (first | with_reducible exact hS6 | with_reducible exact hS5 | with_reducible exact hS4 | with_reducible exact y0 | with_reducible assumption)
              (first | (go_at_call 12; (with_reducible refine (next_any g 3 w4.drew (tstp_tape HTE.out) (by omega)).mono ?_); rintro e w5 ⟨r5, r50, r51, rfl, hst5⟩; have hr5 : 0 ≤ r5 ∧ r5 ≤ 2 := (by omega); have e5 : IntKind.i64.wrap (1 + r5) = 1 + r5 := (IntWalk.i64_in _ (by omega)); have HL5 := Lib.hid (HLE.out.step hgw hst5); have HT5 := Lib.hid (HTE.out.trans hst5); have HR5 := Lib.hid (RdR.step HRE.out (Nat.lt_of_lt_of_le hgw (by omega : w1.heap.size ≤ B + 1)) hst5); have hs5 : B + 1 ≤ w5.heap.size := Nat.le_trans hs4 hst5.2.size; have hS5 := HL5.out.x0; clear hst5 r50 r51) | (go_at_call 12; (with_reducible refine (next_any g _ w5 (tstp_tape HT5.out) (by omega)).mono ?_); rintro e w6 ⟨r6, r60, r61, rfl, hst6⟩; have hr6 : 0 ≤ r6 ∧ 2 + r6 ≤ (n : Int) := (by have := HN2.out; omega); have e6 : IntKind.i64.wrap (2 + r6) = 2 + r6 := (IntWalk.i64_in _ (by omega)); have HL6 := Lib.hid (HL5.out.step hgw hst6); have HT6 := Lib.hid (HT5.out.trans hst6); have HR6 := Lib.hid (RdR.step HR5.out (Nat.lt_of_lt_of_le hgw (by omega : w1.heap.size ≤ B + 1)) hst6); have hs6 : B + 1 ≤ w6.heap.size := Nat.le_trans hs5 hst6.2.size; have hS6 := HL6.out.x0; clear hst6 r60 r61))
            all_goals (go_wp2_with fail; go_meet; exact ⟨(1 + r5).toNat, (2 + r6).toNat, by rw [Int.toNat_of_nonneg (by omega)], by rw [Int.toNat_of_nonneg (by omega)], by omega, by omega, by omega, by omega, HL6.out, HT6.out, hs6, HR6.out⟩)
          · have h1 : ¬ n2 < 1 := by omega
            have h2 : ¬ n2 = 0 := by omega
            have h3 : decide ((n2 : Int) < 1) = false := by simp; omega
            have hn26 : n2 ≤ 6 := by have := HN2.out; omega
            go_region_held3 (fun w' => w'.cell? ⟨B, 0, none⟩ = some (.slice (some ⟨G1, 0, none⟩) n d1))
              (first | with_reducible exact hS6 | with_reducible exact hS5 | with_reducible exact hS4 | with_reducible exact y0 | with_reducible assumption)
              (first | (go_at_call 12; (with_reducible refine (next_any g 3 w4.drew (tstp_tape HTE.out) (by omega)).mono ?_); rintro e w5 ⟨r5, r50, r51, rfl, hst5⟩; have hr5 : 0 ≤ r5 ∧ r5 ≤ 2 := (by omega); have e5 : IntKind.i64.wrap (1 + r5) = 1 + r5 := (IntWalk.i64_in _ (by omega)); have HL5 := Lib.hid (HLE.out.step hgw hst5); have HT5 := Lib.hid (HTE.out.trans hst5); have HR5 := Lib.hid (RdR.step HRE.out (Nat.lt_of_lt_of_le hgw (by omega : w1.heap.size ≤ B + 1)) hst5); have hs5 : B + 1 ≤ w5.heap.size := Nat.le_trans hs4 hst5.2.size; have hS5 := HL5.out.x0; clear hst5 r50 r51) | (go_at_call 12; (with_reducible refine (next_any g _ w5 (tstp_tape HT5.out) (by omega)).mono ?_); rintro e w6 ⟨r6, r60, r61, rfl, hst6⟩; have hr6 : 0 ≤ r6 ∧ 2 + r6 ≤ (n : Int) := (by have := HN2.out; omega); have e6 : IntKind.i64.wrap (2 + r6) = 2 + r6 := (IntWalk.i64_in _ (by omega)); have HL6 := Lib.hid (HL5.out.step hgw hst6); have HT6 := Lib.hid (HT5.out.trans hst6); have HR6 := Lib.hid (RdR.step HR5.out (Nat.lt_of_lt_of_le hgw (by omega : w1.heap.size ≤ B + 1)) hst6); have hs6 : B + 1 ≤ w6.heap.size := Nat.le_trans hs5 hst6.2.size; have hS6 := HL6.out.x0; clear hst6 r60 r61))
            all_goals (go_wp2_with fail; go_meet; exact ⟨(1 + r5).toNat, (2 + r6).toNat, by rw [Int.toNat_of_nonneg (by omega)], by rw [Int.toNat_of_nonneg (by omega)], by omega, by omega, by omega, by omega, HL6.out, HT6.out, hs6, HR6.out⟩)
        case rest =>
          obtain ⟨kd, c, rfl, rfl, k1, k3, c2, cn, hlr, htr, hsr, hrr⟩ := hcut
          clear HLE HTE HRE HL4 HT4 HR4 hs4 y0 y1 HL HT HR
          have HLR := Lib.hid hlr
          have HTR := Lib.hid htr
          have HRR := Lib.hid hrr
          have y0 := hlr.x0
          have y1 := hlr.x1
          clear hlr htr hrr
          go_wp2_with fail
          refine (start_any (some ⟨G1, 0, none⟩) (some ⟨G2, 0, none⟩) l 0 (kd : Int) (c : Int) n m d1 d2 wc HLR.out.hn HLR.out.hm (HLR.out.rd.low (Nat.zero_le _))).mono ?_
          intro e w6 h6
          have HSE := Lib.hid (sta_ser HLD.out HBU.out (kd := (kd : Int)) (c := (c : Int)) (by omega) (by omega))
          have hd0 : (decide (kd = 0)) = false := by simp; omega
          rcases h6 with ⟨h0, rfl, hb6⟩ | ⟨h0, K1, K2, f1, f2, rfl, hr6, hb6⟩
          · have hcn : ¬ (c : Int) < (n : Int) := fun q => h0 (HSE.out.1 (by rw [HLR.out.hn]; exact q))
            rw [HSE.out.2 (by rw [HLR.out.hn]; exact hcn)]
            have hcn2 : decide ((c : Int) ≥ (n : Int)) = true := by simp; omega
            have hcn3 : decide ((n : Int) ≤ (c : Int)) = true := by simp; omega
            have hcn4 : c = n := by omega
            have hsz6 := hb6.size
            have HL6 := Lib.hid (HLR.out.below hb6)
            have HT6 := Lib.hid (HTR.out.below hb6)
            replace y0 := HL6.out.x0
            replace y1 := HL6.out.x1
            have HB6 := Lib.hid hb6
            clear hb6 h0
            unfold zeroL
            go_upto_region 12 with fail
            have x0 : (w6.alloc (.cells #[.slice none 0 0, .slice none 0 0] 35)).cell? ⟨B, 0, none⟩ = some (.slice (some ⟨G1, 0, none⟩) n d1) := (HL6.out.below ((Below.refl w6.heap.size w6).alloc (Nat.le_refl _) _)).x0
            go_wp2_with fail
            refine (sane11_any _).mono ?_
            rintro e w' ⟨rfl, hb⟩
            go_wp2_with fail
            go_ret
            have hbs := hb.size
            rw [World.size_alloc] at hb
            exact ⟨rfl, (HB1.out.grown HT6.out.2 HB1.out.size (fun j e => by have := Option.some.inj e; omega)).trans ((((Below.refl w6.heap.size w6).alloc (Nat.le_refl _) _).trans (hb.mono (by omega))).mono (by have := HT6.out.2.size; have := HB1.out.size; omega))⟩
          · have hcn : (c : Int) < (n : Int) := by
              rcases Int.lt_or_le (c : Int) (n : Int) with q | q
              · exact q
              · rw [HSE.out.2 (by rw [HLR.out.hn]; omega)] at h0; cases h0
            obtain ⟨was, missed, hse⟩ := ser_beg HLD.out HBU.out (k := (kd : Int)) (c := (c : Int)) (by have := HLR.out.hn; omega) (by omega)
            have hsz6 := hb6.size
            have HL6 := Lib.hid (HLR.out.below hb6)
            have HT6 := Lib.hid (HTR.out.below hb6)
            have HR6 := Lib.hid (RdR.below HRR.out hb6)
            have hr6' : RdL w6 wc.heap.size (some ⟨K1, 0, none⟩) (some ⟨K2, 0, none⟩) (begV l 0 (kd : Int) (c : Int)) := hr6
            have HQ6 := Lib.hid hr6'
            have HSR := Lib.hid hse
            replace y0 := HL6.out.x0
            replace y1 := HL6.out.x1
            have z0 := HL6.out.fz 0
            have z1 := HL6.out.fz 1
            clear hb6 h0 hr6 hr6' hse HSE
            have HLx := Lib.hid (HoL.mk2 (w := w6.alloc (.cells #[.slice (some ⟨K1, 0, none⟩) n f1, .slice (some ⟨K2, 0, none⟩) m f2] 35)) (d1 := f1) (d2 := f2) (n := n) (m := m) (by rw [(HL6.out.below ((Below.refl w6.heap.size w6).alloc (Nat.le_refl _) (.cells #[.slice (some ⟨K1, 0, none⟩) n f1, .slice (some ⟨K2, 0, none⟩) m f2] 35))).x0]; simp) (by rw [(HL6.out.below ((Below.refl w6.heap.size w6).alloc (Nat.le_refl _) (.cells #[.slice (some ⟨K1, 0, none⟩) n f1, .slice (some ⟨K2, 0, none⟩) m f2] 35))).x1]; simp) (HL6.out.below ((Below.refl w6.heap.size w6).alloc (Nat.le_refl _) (.cells #[.slice (some ⟨K1, 0, none⟩) n f1, .slice (some ⟨K2, 0, none⟩) m f2] 35))).fz HL6.out.lB ((HQ6.out.low (show w1.heap.size ≤ wc.heap.size by omega)).below ((Below.refl w6.heap.size w6).alloc (Nat.le_refl _) (.cells #[.slice (some ⟨K1, 0, none⟩) n f1, .slice (some ⟨K2, 0, none⟩) m f2] 35))) (by have := rd_lo HQ6.out (ledK_led HSR.out.led).1; omega) (by have := rd_lo HQ6.out (ledK_led HSR.out.led).1; omega) ((beg_len l 0 (kd : Int) (c : Int)).1.trans HLR.out.hn) ((beg_len l 0 (kd : Int) (c : Int)).2.trans HLR.out.hm))
            have HTx := Lib.hid ((HT6.out.alloc (.cells #[.slice (some ⟨K1, 0, none⟩) n f1, .slice (some ⟨K2, 0, none⟩) m f2] 35)).set (p := ⟨B, 0, none⟩) HL6.out.lB hgw (.slice (some ⟨K1, 0, none⟩) n f1) |>.set (p := ⟨B, 1, none⟩) HL6.out.lB hgw (.slice (some ⟨K2, 0, none⟩) m f2))
            have HRx := Lib.hid (rdr_set2 (RdR.below HR6.out ((Below.refl w6.heap.size w6).alloc (Nat.le_refl _) (.cells #[.slice (some ⟨K1, 0, none⟩) n f1, .slice (some ⟨K2, 0, none⟩) m f2] 35))) (Nat.lt_succ_self B) (.slice (some ⟨K1, 0, none⟩) n f1) (.slice (some ⟨K2, 0, none⟩) m f2))
            have hsx : B + 1 ≤ (((w6.alloc (.cells #[.slice (some ⟨K1, 0, none⟩) n f1, .slice (some ⟨K2, 0, none⟩) m f2] 35)).setCell ⟨B, 0, none⟩ (.slice (some ⟨K1, 0, none⟩) n f1)).setCell ⟨B, 1, none⟩ (.slice (some ⟨K2, 0, none⟩) m f2)).heap.size := by simp only [World.size_setCell]; rw [World.size_alloc]; omega
            have yA := (HL6.out.below ((Below.refl w6.heap.size w6).alloc (Nat.le_refl _) (.cells #[.slice (some ⟨K1, 0, none⟩) n f1, .slice (some ⟨K2, 0, none⟩) m f2] 35))).x0
            have yB := (HL6.out.below ((Below.refl w6.heap.size w6).alloc (Nat.le_refl _) (.cells #[.slice (some ⟨K1, 0, none⟩) n f1, .slice (some ⟨K2, 0, none⟩) m f2] 35))).x1
            have zA := (HL6.out.below ((Below.refl w6.heap.size w6).alloc (Nat.le_refl _) (.cells #[.slice (some ⟨K1, 0, none⟩) n f1, .slice (some ⟨K2, 0, none⟩) m f2] 35))).fz 0
            have zB := (HL6.out.below ((Below.refl w6.heap.size w6).alloc (Nat.le_refl _) (.cells #[.slice (some ⟨K1, 0, none⟩) n f1, .slice (some ⟨K2, 0, none⟩) m f2] 35))).fz 1
            clear HLR HTR HRR HL6 HT6 HR6 HQ6 y0 y1 z0 z1
            go_upto_region 14 with fail
            clear yA yB zA zB
            generalize ((w6.alloc (.cells #[.slice (some ⟨K1, 0, none⟩) n f1, .slice (some ⟨K2, 0, none⟩) m f2] 35)).setCell ⟨B, 0, none⟩ (.slice (some ⟨K1, 0, none⟩) n f1)).setCell ⟨B, 1, none⟩ (.slice (some ⟨K2, 0, none⟩) m f2) = V at *
            go_wp2_with fail
            go_loopw [12] (fun v12 wr => ∃ (l' : Ls) (nn k H1 H2 e1 e2 : Nat) (did was missed : Bool), v12 = .int .i64 (nn : Int) ∧ nn + k ≤ 40 ∧ HoL wr B w1.heap.size l' n m H1 H2 e1 e2 ∧ Hid (Ser (memV l) (kd : Int) (c : Int) l' k did was missed) ∧ TStep w1 g wr ∧ B + 1 ≤ wr.heap.size ∧ RdR nrow 1 wr (B + 1) AA (nat2 (memV l))) (fun v12 _ => 40 - (intOf v12).toNat)
            case atStart => exact ⟨begV l 0 (kd : Int) (c : Int), 0, _, K1, K2, f1, f2, false, was, missed, rfl, by have := HLx.out.hn; have := (beg_len l 0 (kd : Int) (c : Int)).1; omega, HLx.out, HSR, HTx.out, hsx, HRx.out⟩
            case round =>
              clear HLx HTx HRx hsx HSR
              obtain ⟨l', nn, kf, H1, H2, e1, e2, did, was, missed, rfl, hnk, hl, HSR, ht, hs, hr⟩ := hrel
              have HL := Lib.hid hl
              have HT := Lib.hid ht
              have HR := Lib.hid hr
              have HLD' := Lib.hid (ledK_led HSR.out.led)
              have y0 := hl.x0
              have y1 := hl.x1
              clear hl ht hr
              go_wp2_with fail
              refine (rbusy_any (some ⟨H1, 0, none⟩) (some ⟨H2, 0, none⟩) l' n m e1 e2 _ wr HL.out.hm HL.out.rd.ps HLD'.out.1).mono ?_
              rintro e w7 ⟨rfl, hb7⟩
              have HL7 := Lib.hid (HL.out.below hb7)
              have HT7 := Lib.hid (HT.out.below hb7)
              have HR7 := Lib.hid (RdR.below HR.out hb7)
              have hs7 : B + 1 ≤ w7.heap.size := by have := hb7.size; omega
              replace y0 := HL7.out.x0
              replace y1 := HL7.out.x1
              clear hb7 HL HT HR hs
              by_cases hbz : 0 < busV l'
              · have HCA := Lib.hid (ser_can HSR.out hbz)
                have hd : decide ((0 : Int) < (busV l' : Int)) = true := by simp; omega
                have hdn : decide (0 < busV l') = true := by simpa using hbz
                generalize busV l' = bz at *
                obtain ⟨l2, hl2⟩ := HCA.out
                have hse2 := ser_step HSR.out hl2
                have hstp : stpO l' 0 = some l2 := by
                  unfold stpO
                  rw [if_pos ⟨by decide, by have := HL7.out.hm; omega⟩]
                  exact hl2
                have HSE2 := Lib.hid hse2
                have HST := Lib.hid hstp
                have HLN := Lib.hid (stp_len HLD'.out.1 hstp)
                have h60 : decide ((nn : Int) > 60) = false := by simp; omega
                have h60b : decide ((60 : Int) < (nn : Int)) = false := by simp; omega
                clear hse2 hstp hl2
                go_wp2_with fail
                refine (step_any ⟨H1, 0, none⟩ ⟨H2, 0, none⟩ l' 0 n m e1 e2 w7 HL7.out.hn HL7.out.hm (HL7.out.rd.low (Nat.zero_le _)) HLD'.out.1).mono ?_
                rintro e w8 ⟨K1, K2, f1, f2, rfl, hr8, hb8⟩
                rw [HST.out] at hr8 ⊢
                have hr8' : RdL w8 w7.heap.size (some ⟨K1, 0, none⟩) (some ⟨K2, 0, none⟩) l2 := hr8
                obtain ⟨hk0, did2, was2, mis2, hse3⟩ := HSE2.out
                have hb9 := hb8.trans ((((Below.refl w8.heap.size w8).alloc (Nat.le_refl _) (.cells #[.slice (some ⟨K1, 0, none⟩) n f1, .slice (some ⟨K2, 0, none⟩) m f2] 35))).mono hb8.size)
                have hlr9 := HL7.out.below hb9
                have hlo9 := rd_lo hr8' (ledK_led hse3.led).1
                have HLx := Lib.hid (HoL.mk2 (w := w8.alloc (.cells #[.slice (some ⟨K1, 0, none⟩) n f1, .slice (some ⟨K2, 0, none⟩) m f2] 35)) (d1 := f1) (d2 := f2) (n := n) (m := m) (by rw [hlr9.x0]; simp) (by rw [hlr9.x1]; simp) hlr9.fz hlr9.lB ((hr8'.low (show w1.heap.size ≤ w7.heap.size by omega)).below ((Below.refl w8.heap.size w8).alloc (Nat.le_refl _) (.cells #[.slice (some ⟨K1, 0, none⟩) n f1, .slice (some ⟨K2, 0, none⟩) m f2] 35))) (by omega) (by omega) (HLN.out.1.trans HL7.out.hn) (HLN.out.2.trans HL7.out.hm))
                have HTx := Lib.hid ((HT7.out.below hb9).set (p := ⟨B, 0, none⟩) hlr9.lB hgw (.slice (some ⟨K1, 0, none⟩) n f1) |>.set (p := ⟨B, 1, none⟩) hlr9.lB hgw (.slice (some ⟨K2, 0, none⟩) m f2))
                have HRx := Lib.hid (rdr_set2 (RdR.below HR7.out hb9) (Nat.lt_succ_self B) (.slice (some ⟨K1, 0, none⟩) n f1) (.slice (some ⟨K2, 0, none⟩) m f2))
                have hsx : B + 1 ≤ (((w8.alloc (.cells #[.slice (some ⟨K1, 0, none⟩) n f1, .slice (some ⟨K2, 0, none⟩) m f2] 35)).setCell ⟨B, 0, none⟩ (.slice (some ⟨K1, 0, none⟩) n f1)).setCell ⟨B, 1, none⟩ (.slice (some ⟨K2, 0, none⟩) m f2)).heap.size := by simp only [World.size_setCell]; have := hb9.size; omega
                have HSE3 := Lib.hid hse3
                have yA := hlr9.x0
                have yB := hlr9.x1
                have zA := hlr9.fz 0
                have zB := hlr9.fz 1
                clear hse3 hr8 hr8' hb8 hb9 hlr9 hlo9 y0 y1
                go_wp2_with fail
                exact ⟨⟨l2, nn + 1, kf - 1, K1, K2, f1, f2, did2, was2, mis2, by go_num, by omega, HLx.out, HSE3, HTx.out, hsx, HRx.out⟩, by simp [intOf]; omega⟩
              · have hbz0 : busV l' = 0 := by omega
                have hd : decide ((0 : Int) < (busV l' : Int)) = false := by rw [hbz0]; rfl
                have hdn : decide (0 < busV l') = false := by simpa using hbz
                have hp18 : (l'.pr 0).phase = 18 := by
                  rcases rest_ph HLD'.out.1 hbz0 0 with h | h
                  · have := (HLD'.out.1.id 0 (by have := HL7.out.hm; omega)).2 h
                    rw [HSR.out.kd] at this
                    omega
                  · exact h
                have HEN := Lib.hid (ser_end HSR.out (by omega) hp18)
                have HKB : Hid (k ≤ 100) := Lib.hid (by have h1 := memV_len l; have h2 := HLD.out.1.n66; rw [← HK.out, nat2_len]; omega)
                have HBU9 : Hid (busV l' = 0) := Lib.hid hbz0
                obtain ⟨bz, hbe⟩ : ∃ bz, bz = busV l' := ⟨_, rfl⟩
                rw [← hbe] at hd hdn ⊢
                clear hbe hbz hbz0 hp18
                go_wp2_with fail
                refine (has_any AA (nat2 (memV l)) k cc (B + 1) (c : Int) w7 HK.out HR7.out (by have := HKB.out; omega)).mono ?_
                rintro e w' ⟨rfl, rfl⟩
                rw [has_dec]
                obtain ⟨D, hD⟩ : ∃ D, D = decide (c ∈ memV l) := ⟨_, rfl⟩
                rw [← hD]
                obtain ⟨bq, oq, eq, -, -, f0, f1', f2', f3, f4, f5, f6⟩ := HL7.out.rd.proc (i := 0) (by have := HL7.out.hm; omega)
                injection eq with eq
                injection eq with eq1 eq2 _
                subst eq1 eq2
                have i0 : 0 < m := by omega
                clear f0 f1' f2' f3 f4 f5
                replace f6 : w7.cell? ⟨H2, 6, none⟩ = some (.bool (l'.pr 0).res) := f6
                obtain rfl | rfl | rfl : kd = 1 ∨ kd = 2 ∨ kd = 3 := by omega
                · have hres : (l'.pr 0).res = (!D) := by
                    rw [hD, Bool.eq_iff_iff, HEN.out.1, Int.toNat_natCast]
                    simp
                  rw [hres] at f6
                  cases D
                  all_goals
                    clear hres hD
                    go_wp2_with fail
                    refine (Members_any (some ⟨H1, 0, none⟩) (some ⟨H2, 0, none⟩) l' n m e1 e2 w7 HL7.out.hn HL7.out.hm (HL7.out.rd.low (Nat.zero_le _))).mono ?_
                    rw [vldB_yes HLD'.out.1, if_pos rfl]
                    rintro e w9 ⟨A9, k9, c9, rfl, hk9, -, -, hr9, hb9⟩
                    have HL9 := Lib.hid (HL7.out.below hb9)
                    have HT9 := Lib.hid (HT7.out.below hb9)
                    have HRM9 := Lib.hid (RdR.below HR7.out hb9)
                    have HR9 := Lib.hid (RdR.low hr9 hs7)
                    have hs9 : B + 1 ≤ w9.heap.size := by have := hb9.size; omega
                    have HK9 := Lib.hid hk9
                    have HKB9 : Hid (k9 ≤ 100) := Lib.hid (by have h1 := memV_len l'; have h2 := HLD'.out.1.n66; rw [← hk9, nat2_len]; omega)
                    clear hr9 hb9 hk9 f6 y0 y1
                    go_wp2_with fail
                    refine (has_any A9 (nat2 (memV l')) k9 c9 (B + 1) (c : Int) w9 HK9.out HR9.out (by have := HKB9.out; omega)).mono ?_
                    rintro e w' ⟨rfl, rfl⟩
                    rw [has_dec, decide_eq_true (by have := HEN.out.2.2.1 rfl; rwa [Int.toNat_natCast] at this)]
                    have HL10 := HL9
                    have HT10 := HT9
                    have HR10 := HR9
                    have HRM10 := HRM9
                    have hs10 : B + 1 ≤ w9.heap.size := hs9
                    have HKQ := HK9
                    clear HL9 HT9 HR9 HRM9 HK9
                    have y0 := HL10.out.x0
                    have y1 := HL10.out.x1
                    go_wp2_with fail
                    go_loopw [17] (fun v17 wr => ∃ j : Nat, v17 = .int .i64 (j : Int) ∧ 2 ≤ j ∧ j ≤ n ∧ w9 = wr) (fun v17 _ => n - (intOf v17).toNat)
                    case atStart => exact ⟨2, rfl, Nat.le_refl _, hn8.1, rfl⟩
                    case round =>
                      obtain ⟨j, rfl, hj2, hj, rfl⟩ := hrel
                      by_cases hjn : j < n
                      · have hd : decide ((j : Int) < (n : Int)) = true := by simp; omega
                        by_cases hjc : j = c
                        · subst hjc
                          have hq : ((j : Int) != (j : Int)) = false := by simp
                          go_wp2_with fail
                          exact ⟨⟨j + 1, by go_num, by omega, hjn, trivial⟩, by simp [intOf]; omega⟩
                        · have hq : ((j : Int) != (c : Int)) = true := by simp; omega
                          have hjc2 : ¬ (j : Int) = (c : Int) := by omega
                          go_wp2_with fail
                          refine (has_any A9 (nat2 (memV l')) k9 c9 (B + 1) (j : Int) w9 HKQ.out HR10.out (by have := HKB.out; have := HKB9.out; omega)).mono ?_
                          rintro e w' ⟨rfl, rfl⟩
                          rw [has_dec]
                          go_wp2_with fail
                          refine (has_any AA (nat2 (memV l)) k cc (B + 1) (j : Int) w9 HK.out HRM10.out (by have := HKB.out; omega)).mono ?_
                          rintro e w' ⟨rfl, rfl⟩
                          rw [has_dec]
                          have hmm := HEN.out.2.2.2.2 j (by rw [Int.toNat_natCast]; exact hjc)
                          rw [show decide (j ∈ memV l') = decide (j ∈ memV l) from by simp only [hmm]]
                          clear hmm
                          generalize decide (j ∈ memV l) = DJ
                          have hdj : (DJ != DJ) = false := by simp
                          go_wp2_with fail
                          exact ⟨⟨j + 1, by go_num, by omega, hjn, trivial⟩, by simp [intOf]; omega⟩
                      · have hd : decide ((j : Int) < (n : Int)) = false := by simp; omega
                        go_wp2_with fail
                        exact ⟨⟨l', i + 1, k9, H1, H2, e1, e2, c9, A9, rfl, by go_num, by omega, HL10.out, HLD', HBU9, HT10.out, hs10, HKQ, HR10.out⟩, by simp [intOf]; omega⟩
                · have hres : (l'.pr 0).res = D := by
                    rw [hD, Bool.eq_iff_iff, HEN.out.1, Int.toNat_natCast]
                    simp
                  rw [hres] at f6
                  cases D
                  all_goals
                    clear hres hD
                    go_wp2_with fail
                    refine (Members_any (some ⟨H1, 0, none⟩) (some ⟨H2, 0, none⟩) l' n m e1 e2 w7 HL7.out.hn HL7.out.hm (HL7.out.rd.low (Nat.zero_le _))).mono ?_
                    rw [vldB_yes HLD'.out.1, if_pos rfl]
                    rintro e w9 ⟨A9, k9, c9, rfl, hk9, -, -, hr9, hb9⟩
                    have HL9 := Lib.hid (HL7.out.below hb9)
                    have HT9 := Lib.hid (HT7.out.below hb9)
                    have HRM9 := Lib.hid (RdR.below HR7.out hb9)
                    have HR9 := Lib.hid (RdR.low hr9 hs7)
                    have hs9 : B + 1 ≤ w9.heap.size := by have := hb9.size; omega
                    have HK9 := Lib.hid hk9
                    have HKB9 : Hid (k9 ≤ 100) := Lib.hid (by have h1 := memV_len l'; have h2 := HLD'.out.1.n66; rw [← hk9, nat2_len]; omega)
                    clear hr9 hb9 hk9 f6 y0 y1
                    go_wp2_with fail
                    refine (has_any A9 (nat2 (memV l')) k9 c9 (B + 1) (c : Int) w9 HK9.out HR9.out (by have := HKB9.out; omega)).mono ?_
                    rintro e w' ⟨rfl, rfl⟩
                    rw [has_dec, decide_eq_false (by have := HEN.out.2.2.2.1 rfl; rwa [Int.toNat_natCast] at this)]
                    have HL10 := HL9
                    have HT10 := HT9
                    have HR10 := HR9
                    have HRM10 := HRM9
                    have hs10 : B + 1 ≤ w9.heap.size := hs9
                    have HKQ := HK9
                    clear HL9 HT9 HR9 HRM9 HK9
                    have y0 := HL10.out.x0
                    have y1 := HL10.out.x1
                    go_wp2_with fail
                    go_loopw [17] (fun v17 wr => ∃ j : Nat, v17 = .int .i64 (j : Int) ∧ 2 ≤ j ∧ j ≤ n ∧ w9 = wr) (fun v17 _ => n - (intOf v17).toNat)
                    case atStart => exact ⟨2, rfl, Nat.le_refl _, hn8.1, rfl⟩
                    case round =>
                      obtain ⟨j, rfl, hj2, hj, rfl⟩ := hrel
                      by_cases hjn : j < n
                      · have hd : decide ((j : Int) < (n : Int)) = true := by simp; omega
                        by_cases hjc : j = c
                        · subst hjc
                          have hq : ((j : Int) != (j : Int)) = false := by simp
                          go_wp2_with fail
                          exact ⟨⟨j + 1, by go_num, by omega, hjn, trivial⟩, by simp [intOf]; omega⟩
                        · have hq : ((j : Int) != (c : Int)) = true := by simp; omega
                          have hjc2 : ¬ (j : Int) = (c : Int) := by omega
                          go_wp2_with fail
                          refine (has_any A9 (nat2 (memV l')) k9 c9 (B + 1) (j : Int) w9 HKQ.out HR10.out (by have := HKB.out; have := HKB9.out; omega)).mono ?_
                          rintro e w' ⟨rfl, rfl⟩
                          rw [has_dec]
                          go_wp2_with fail
                          refine (has_any AA (nat2 (memV l)) k cc (B + 1) (j : Int) w9 HK.out HRM10.out (by have := HKB.out; omega)).mono ?_
                          rintro e w' ⟨rfl, rfl⟩
                          rw [has_dec]
                          have hmm := HEN.out.2.2.2.2 j (by rw [Int.toNat_natCast]; exact hjc)
                          rw [show decide (j ∈ memV l') = decide (j ∈ memV l) from by simp only [hmm]]
                          clear hmm
                          generalize decide (j ∈ memV l) = DJ
                          have hdj : (DJ != DJ) = false := by simp
                          go_wp2_with fail
                          exact ⟨⟨j + 1, by go_num, by omega, hjn, trivial⟩, by simp [intOf]; omega⟩
                      · have hd : decide ((j : Int) < (n : Int)) = false := by simp; omega
                        go_wp2_with fail
                        exact ⟨⟨l', i + 1, k9, H1, H2, e1, e2, c9, A9, rfl, by go_num, by omega, HL10.out, HLD', HBU9, HT10.out, hs10, HKQ, HR10.out⟩, by simp [intOf]; omega⟩
                · have hres : (l'.pr 0).res = D := by
                    rw [hD, Bool.eq_iff_iff, HEN.out.1, Int.toNat_natCast]
                    simp
                  rw [hres] at f6
                  cases D
                  all_goals
                    clear hres hD
                    go_wp2_with fail
                    refine (Members_any (some ⟨H1, 0, none⟩) (some ⟨H2, 0, none⟩) l' n m e1 e2 w7 HL7.out.hn HL7.out.hm (HL7.out.rd.low (Nat.zero_le _))).mono ?_
                    rw [vldB_yes HLD'.out.1, if_pos rfl]
                    rintro e w9 ⟨A9, k9, c9, rfl, hk9, -, -, hr9, hb9⟩
                    have HL9 := Lib.hid (HL7.out.below hb9)
                    have HT9 := Lib.hid (HT7.out.below hb9)
                    have HRM9 := Lib.hid (RdR.below HR7.out hb9)
                    have HR9 := Lib.hid (RdR.low hr9 hs7)
                    have hs9 : B + 1 ≤ w9.heap.size := by have := hb9.size; omega
                    have HK9 := Lib.hid hk9
                    have HKB9 : Hid (k9 ≤ 100) := Lib.hid (by have h1 := memV_len l'; have h2 := HLD'.out.1.n66; rw [← hk9, nat2_len]; omega)
                    clear hr9 hb9 hk9 f6 y0 y1
                    go_wp2_with fail
                    have hkk : k9 = k := by rw [← HK9.out, ← HK.out, HEN.out.2.1 rfl]
                    rw [hkk]
                    refine (rsameInts_self A9 AA (nat2 (memV l)) k c9 cc (B + 1) (B + 1) w9 HK.out (by have := HR9.out; rw [HEN.out.2.1 rfl] at this; exact this) HRM9.out (by have := HKB.out; omega)).mono ?_
                    rintro e w10 ⟨rfl, hb10⟩
                    have HL10 := Lib.hid (HL9.out.below hb10)
                    have HT10 := Lib.hid (HT9.out.below hb10)
                    have HR10 := Lib.hid (RdR.below HR9.out hb10)
                    have HRM10 := Lib.hid (RdR.below HRM9.out hb10)
                    have hs10 : B + 1 ≤ w10.heap.size := by have := hb10.size; omega
                    have HKQ : Hid ((nat2 (memV l')).length = k) := Lib.hid (HK9.out.trans hkk)
                    clear hb10 hkk
                    clear HL9 HT9 HR9 HRM9 HK9
                    have y0 := HL10.out.x0
                    have y1 := HL10.out.x1
                    go_wp2_with fail
                    go_loopw [17] (fun v17 wr => ∃ j : Nat, v17 = .int .i64 (j : Int) ∧ 2 ≤ j ∧ j ≤ n ∧ w10 = wr) (fun v17 _ => n - (intOf v17).toNat)
                    case atStart => exact ⟨2, rfl, Nat.le_refl _, hn8.1, rfl⟩
                    case round =>
                      obtain ⟨j, rfl, hj2, hj, rfl⟩ := hrel
                      by_cases hjn : j < n
                      · have hd : decide ((j : Int) < (n : Int)) = true := by simp; omega
                        by_cases hjc : j = c
                        · subst hjc
                          have hq : ((j : Int) != (j : Int)) = false := by simp
                          go_wp2_with fail
                          exact ⟨⟨j + 1, by go_num, by omega, hjn, trivial⟩, by simp [intOf]; omega⟩
                        · have hq : ((j : Int) != (c : Int)) = true := by simp; omega
                          have hjc2 : ¬ (j : Int) = (c : Int) := by omega
                          go_wp2_with fail
                          refine (has_any A9 (nat2 (memV l')) k c9 (B + 1) (j : Int) w10 HKQ.out HR10.out (by have := HKB.out; have := HKB9.out; omega)).mono ?_
                          rintro e w' ⟨rfl, rfl⟩
                          rw [has_dec]
                          go_wp2_with fail
                          refine (has_any AA (nat2 (memV l)) k cc (B + 1) (j : Int) w10 HK.out HRM10.out (by have := HKB.out; omega)).mono ?_
                          rintro e w' ⟨rfl, rfl⟩
                          rw [has_dec]
                          have hmm := HEN.out.2.2.2.2 j (by rw [Int.toNat_natCast]; exact hjc)
                          rw [show decide (j ∈ memV l') = decide (j ∈ memV l) from by simp only [hmm]]
                          clear hmm
                          generalize decide (j ∈ memV l) = DJ
                          have hdj : (DJ != DJ) = false := by simp
                          go_wp2_with fail
                          exact ⟨⟨j + 1, by go_num, by omega, hjn, trivial⟩, by simp [intOf]; omega⟩
                      · have hd : decide ((j : Int) < (n : Int)) = false := by simp; omega
                        go_wp2_with fail
                        exact ⟨⟨l', i + 1, k, H1, H2, e1, e2, c9, A9, rfl, by go_num, by omega, HL10.out, HLD', HBU9, HT10.out, hs10, HKQ, HR10.out⟩, by simp [intOf]; omega⟩
      | false =>
        go_wp2_with fail
        refine (sane11_any w4).mono ?_
        rintro e w' ⟨rfl, hb⟩
        go_wp2_with fail
        go_ret
        exact ⟨rfl, (HB1.out.grown HT4.out.2 HB1.out.size (fun j e => by have := Option.some.inj e; omega)).trans (hb.mono (by have := HT4.out.2.size; have := HB1.out.size; omega))⟩
    · have hd : decide ((i : Int) < 8) = false := by simp; omega
      go_wp2_with fail
      refine (sane11_any wr).mono ?_
      rintro e w' ⟨rfl, hb⟩
      go_wp2_with fail
      go_ret
      exact ⟨rfl, (HB1.out.grown HT.out.2 HB1.out.size (fun j e => by have := Option.some.inj e; omega)).trans (hb.mono (by have := HT.out.2.size; have := HB1.out.size; omega))⟩
end Lk
end Go.Proofs.YtgmffgdhijcfcaaDoor
