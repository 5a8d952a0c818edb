/-
  The walk of LockfreeEnds: from whatever numbers it answers true and only makes memory. Conditions: the argument can be read; 'letters' is as its initialiser lays it.
-/
import Derived.Test.YtmhbloefmknikaaDoorOcA
import Derived.Test.YtmhbloefmknikaaDoorOdA
namespace Go.Proofs.YtmhbloefmknikaaDoor
open Go.RowKit Go.Maps
namespace Lf
open Lk
theorem mod_allF {m f q : Nat} (hq : q < m) (hf : f < m) : ∃ j, j < m ∧ (f + j) % m = q := by
  rcases Nat.lt_or_ge q f with h | h
  · refine ⟨m - f + q, by omega, ?_⟩
    rw [show f + (m - f + q) = m + q by omega, Nat.add_mod_left, Nat.mod_eq_of_lt hq]
  · refine ⟨q - f, by omega, ?_⟩
    rw [show f + (q - f) = q by omega, Nat.mod_eq_of_lt hq]
set_option maxRecDepth 100000 in
set_option maxHeartbeats 6400000 in
theorem ends_walk (A : Option Addr) (n0 cp : Nat) (w : World) (hL : Lets w) (hnc : n0 ≤ cp) (hc : cp ≤ maxLen) (hN : Nums w w.heap.size A n0) :
    Calls Tryd.prog 8 #[.slice A n0 cp] w (LawP w) := by
  go_enter Tryd.func8, Tryd.ntmps8
  go_wp2_with fail
  refine (Go.Proofs.YtmhbloefmknikaaDoor.new_any A n0 cp _ hnc hc hN).mono ?_
  rintro e w1 ⟨g, hg1, rfl, hTp, hb1⟩
  have hne2 : 0 ≠ g := by have := hL.lt; omega
  have l1 := hL.below hb1
  have hgw := hTp.lt
  have HB1 := Lib.hid hb1
  clear hN hnc hc hL hb1
  go_wp2_with fail
  refine (made_any g w1 hTp l1 hne2 hgw).mono ?_
  rintro e w2 ⟨l0, n, m, J1, J2, c1, c2, rfl, hfr, hrd, hst⟩
  have hm4 : 2 ≤ m ∧ m ≤ 4 := ⟨hfr.m2, hfr.m4⟩
  have hnn : n ≤ 66 := by have := hfr.led.1.n66; have := hfr.hn; omega
  have HFR := Lib.hid hfr
  have HLA := Lib.hid (HoL.newF (d1 := c1) (d2 := c2) (t := 28) (n := n) (m := m) (RdL.low hrd (Nat.le_refl _)) hfr.led.1 hst.2.size hfr.hn hfr.hm)
  have HTA := Lib.hid (hst.below ((Below.refl w2.heap.size w2).alloc (Nat.le_refl _) (.cells #[.slice (some ⟨J1, 0, none⟩) n c1, .slice (some ⟨J2, 0, none⟩) m c2] 28)))
  have hsz : (w2.alloc (.cells #[.slice (some ⟨J1, 0, none⟩) n c1, .slice (some ⟨J2, 0, none⟩) m c2] 28)).heap.size = w2.heap.size + 1 := World.size_alloc _ _
  have hs2 := hst.2.size
  clear hfr hrd hst hTp l1
  go_upto_region 3 with fail
  generalize w2.alloc (.cells #[.slice (some ⟨J1, 0, none⟩) n c1, .slice (some ⟨J2, 0, none⟩) m c2] 28) = W at *
  obtain ⟨B, hB⟩ : ∃ B, B = w2.heap.size := ⟨_, rfl⟩
  rw [← hB] at HLA hsz hs2 ⊢
  clear hB
  have y0 := HLA.out.x0
  have y1 := HLA.out.x1
  go_wp2_with fail
  refine (play_any g w1.heap.size l0 n m 60 J1 J2 c1 c2 W HTA.out.1 hgw (by omega) HFR.out.led HLA.out.hn HLA.out.hm HLA.out.rd (by omega)).mono ?_
  rintro e w5 ⟨l5, K1, K2, f1, f2, rfl, hld5, hn5, hm5, hr5, hst5, hor⟩
  have hlt4 := HLA.out.lt
  have hx1 := HLA.out.n1
  have hx2 := HLA.out.n2
  have HL5 := Lib.hid (HLA.out.step hgw hst5)
  have HLS := Lib.hid (HoL.mk2 (w := w5) (d1 := f1) (d2 := f2) (n := n) (m := m) (by rw [HL5.out.x0]; simp) (by rw [HL5.out.x1]; simp) HL5.out.fz HL5.out.lB hr5 (by omega) (by omega) hn5 hm5)
  have HTS := Lib.hid ((HTA.out.trans hst5).set (p := ⟨B, 0, none⟩) HLA.out.lB hgw (.slice (some ⟨K1, 0, none⟩) n f1) |>.set (p := ⟨B, 1, none⟩) HLA.out.lB hgw (.slice (some ⟨K2, 0, none⟩) m f2))
  have hs5 := hst5.2.size
  have HLD5 := Lib.hid hld5
  have z0 := HL5.out.fz 0
  have z1 := HL5.out.fz 1
  replace y0 := HL5.out.x0
  replace y1 := HL5.out.x1
  clear hst5 hor hr5 hld5 hn5 hm5 hx1 hx2
  go_upto_region 6 with fail
  have hszS : B + 1 ≤ ((w5.setCell ⟨B, 0, none⟩ (.slice (some ⟨K1, 0, none⟩) n f1)).setCell ⟨B, 1, none⟩ (.slice (some ⟨K2, 0, none⟩) m f2)).heap.size := by simp only [World.size_setCell]; omega
  generalize (w5.setCell ⟨B, 0, none⟩ (.slice (some ⟨K1, 0, none⟩) n f1)).setCell ⟨B, 1, none⟩ (.slice (some ⟨K2, 0, none⟩) m f2) = V at *
  clear y0 y1 z0 z1
  have y0 := HLS.out.x0
  have y1 := HLS.out.x1
  go_wp2_with fail
  refine (bound_any (some ⟨K1, 0, none⟩) ⟨K2, 0, none⟩ l5 n m f1 f2 V HLS.out.hn HLS.out.hm (HLS.out.rd.low (Nat.zero_le _)) (by omega) (by omega) (by omega)).mono ?_
  rw [vldB_yes HLD5.out.1, if_pos rfl]
  have HLK := Lib.hid (led_bound HLD5.out)
  have hM6 := bnd_small HLD5.out.1
  generalize bndV l5 = M at *
  rintro e w6 ⟨rfl, hb6⟩
  have HL6 := Lib.hid (HLS.out.below hb6)
  have HT6 := Lib.hid (HTS.out.below hb6)
  have hs6 : B + 1 ≤ w6.heap.size := by have := hb6.size; omega
  clear hb6 y0 y1
  go_wp2_with fail
  go_loopw [7] (fun v7 wr => ∃ (l : Ls) (i k G1 G2 d1 d2 : Nat), v7 = .int .i64 (i : Int) ∧ i + k ≤ M ∧ HoL wr B w1.heap.size l n m G1 G2 d1 d2 ∧ Hid (LedK l k) ∧ TStep w1 g wr ∧ B + 1 ≤ wr.heap.size) (fun v7 _ => M - (intOf v7).toNat)
  case atStart => exact ⟨l5, 0, M, K1, K2, f1, f2, rfl, by omega, HL6.out, HLK, HT6.out, hs6⟩
  case round =>
    clear HL6 HT6 hs6 HLA HTA hsz HFR HL5 HLS HTS HLD5 HLK hszS hs5 hlt4
    obtain ⟨l, i, k, G1, G2, d1, d2, rfl, hik, hl, HLK, ht, hs⟩ := hrel
    have HL := Lib.hid hl
    have HT := Lib.hid ht
    have HLD := Lib.hid (ledK_led HLK.out)
    have y0 := hl.x0
    have y1 := hl.x1
    clear hl ht
    go_wp2_with fail
    refine (rbusyF_any (some ⟨G1, 0, none⟩) (some ⟨G2, 0, none⟩) l n m d1 d2 _ wr HL.out.hm HL.out.rd.ps HLD.out.1).mono ?_
    rintro e w7 ⟨rfl, hb7⟩
    have HL7 := Lib.hid (HL.out.below hb7)
    have HT7 := Lib.hid (HT.out.below hb7)
    have hs7 : B + 1 ≤ w7.heap.size := by have := hb7.size; omega
    replace y0 := HL7.out.x0
    replace y1 := HL7.out.x1
    clear hb7
    by_cases hbz : 0 < busV l
    · have HSO := Lib.hid (led_some HLD.out.1 hbz)
      have hd : decide ((0 : Int) < (busV l : Int)) = true := by simp; omega
      have hdn : decide (0 < busV l) = true := by simpa using hbz
      generalize busV l = bz at *
      go_wp2_with fail
      refine (next_any g (m : Int) w7 HT7.out.1 (by omega)).mono ?_
      rintro e w8 ⟨r, r0, r1, rfl, hst8⟩
      obtain ⟨f, rfl⟩ := Int.eq_ofNat_of_zero_le r0
      have hf : f < m := by omega
      have HL8 := Lib.hid (HL7.out.step hgw hst8)
      have HT8 := Lib.hid (HT7.out.trans hst8)
      have hs8 : B + 1 ≤ w8.heap.size := by have := hst8.2.size; omega
      clear hst8 r0 r1 y0 y1 hd hdn hbz
      go_wp2_with fail
      go_loopw [8, 9] (fun v8 v9 wr => ∃ (q j : Nat), v8 = .int .i64 (q : Int) ∧ v9 = .int .i64 (j : Int) ∧ j ≤ m ∧ q < m ∧ HoL wr B w1.heap.size l n m G1 G2 d1 d2 ∧ TStep w1 g wr ∧ B + 1 ≤ wr.heap.size ∧ Hid (q = (f + j) % m) ∧ Hid (∀ x, x < j → ¬ ((l.pr ((f + x) % m)).phase ≠ 0 ∧ (l.pr ((f + x) % m)).phase ≠ 18))) (fun _ v9 _ => m - (intOf v9).toNat)
      case atStart => exact ⟨f, 0, rfl, rfl, Nat.zero_le _, hf, HL8.out, HT8.out, hs8, Lib.hid (by rw [Nat.add_zero, Nat.mod_eq_of_lt hf]), Lib.hid (fun x hx => absurd hx (Nat.not_lt_zero _))⟩
      case round =>
        clear HL8 HT8 hs8 HL7 HT7 hs7 HL HT hs
        obtain ⟨q, j, rfl, rfl, hj, hqm, hl, ht, hs, HQ, HNO⟩ := hrel
        have HL := Lib.hid hl
        have HT := Lib.hid ht
        have y0 := hl.x0
        have y1 := hl.x1
        have z0 := hl.fz 0
        have z1 := hl.fz 1
        have hlm := hl.hm
        clear hl ht
        have hjm : j < m := by
          rcases Nat.lt_or_ge j m with h | h
          · exact h
          · exfalso
            obtain ⟨q9, hq9, hq2⟩ := HSO.out
            rw [hlm] at hq9
            obtain ⟨x, hx, ex⟩ := mod_allF hq9 hf
            have := HNO.out x (by omega)
            rw [ex] at this
            exact this hq2
        have hd : decide ((j : Int) < (m : Int)) = true := by simp; omega
        have hqp : q < l.ps.length := by rw [hlm]; exact hqm
        obtain ⟨b, o, e, -, -, g0, g1, g2, g3, g4, g5, g6⟩ := Pos.at_ HL.out.rd.ps hqp
        rw [l.pr_lt hqp] at g0 g1 g2 g3 g4 g5 g6
        injection e with e
        injection e with e1 e2 _
        subst e1 e2
        simp only [Nat.zero_add] at g0 g1 g2 g3 g4 g5 g6
        have i0 : (0 : Int) ≤ (q : Int) := by omega
        have i1 : (q : Int) < (m : Int) := by omega
        have HUW := Lib.hid (fun V => ract_any (l.pr q) V)
        have HCN := Lib.hid (stepV_can HLD.out.1 hqp)
        obtain ⟨P, hP⟩ : ∃ P, P = l.pr q := ⟨_, rfl⟩
        rw [← hP] at g0 g1 g2 g3 g4 g5 g6 HUW HCN
        have HP := Lib.hid hP
        clear hP hqp
        obtain ⟨xk, xc, xp, xd, xs, xx, xr⟩ := P
        simp only at g0 g1 g2 g3 g4 g5 g6
        by_cases hu : xp ≠ 0 ∧ xp ≠ 18
        · have HU := Lib.hid (fun V => (HUW.out V).mono fun e w' h => h.yes hu)
          have HSM := Lib.hid (HCN.out.2 hu)
          clear HUW hu HCN
          go_wp2_with fail
          refine (HU.out _).mono ?_
          rintro e w9 ⟨rfl, hb9⟩
          have HL9 := Lib.hid (HL.out.below hb9)
          have HT9 := Lib.hid (HT.out.below hb9)
          have hs9 : B + 1 ≤ w9.heap.size := by have := hb9.size; omega
          replace y0 := HL9.out.x0
          replace y1 := HL9.out.x1
          clear hb9 g0 g1 g2 g3 g4 g5 g6 z0 z1 hd
          go_wp2_with fail
          refine (step_any ⟨G1, 0, none⟩ ⟨G2, 0, none⟩ l (q : Int) n m d1 d2 w9 HL9.out.hn HL9.out.hm (HL9.out.rd.low (Nat.zero_le _)) HLD.out.1).mono ?_
          rintro e w10 ⟨K1, K2, f1, f2, rfl, hr, hb10⟩
          obtain ⟨l2, hl2⟩ := Option.isSome_iff_exists.1 HSM.out
          have hstp : stpO l (q : Int) = some l2 := by unfold stpO; rw [if_pos ⟨by omega, by rw [hlm]; omega⟩, Int.toNat_natCast]; exact hl2
          rw [hstp]
          rw [hstp, Option.getD_some] at hr
          have hkk := ledK_step HLK.out (p := q) (by rw [hlm]; exact hqm) hl2
          have hln := step_len HLD.out.1 (p := q) (by rw [hlm]; exact hqm) hl2
          have hld2 := ledK_led hkk.2
          have HKK := Lib.hid hkk
          have hk0 := hkk.1
          have hba := (Below.refl w10.heap.size w10).alloc (Nat.le_refl _) (.cells #[.slice (some ⟨K1, 0, none⟩) n f1, .slice (some ⟨K2, 0, none⟩) m f2] 28)
          have hbc := hb10.trans (hba.mono hb10.size)
          have HLS := Lib.hid (HoL.putF (d1 := f1) (d2 := f2) HL9.out hbc (hr.below hba) hld2.1 (hln.1.trans HL9.out.hn) (hln.2.trans HL9.out.hm))
          have HL10 := Lib.hid (HL9.out.below hbc)
          have HTS := Lib.hid ((HT9.out.below hbc).set (p := ⟨B, 0, none⟩) HL9.out.lB hgw (.slice (some ⟨K1, 0, none⟩) n f1) |>.set (p := ⟨B, 1, none⟩) HL9.out.lB hgw (.slice (some ⟨K2, 0, none⟩) m f2))
          have HY := Lib.hid (Has.new w10 28 #[.slice (some ⟨K1, 0, none⟩) n f1, .slice (some ⟨K2, 0, none⟩) m f2])
          have hs10 : B + 1 ≤ w10.heap.size := by have := hb10.size; omega
          have hs11 : B + 1 ≤ (w10.alloc (.cells #[.slice (some ⟨K1, 0, none⟩) n f1, .slice (some ⟨K2, 0, none⟩) m f2] 28)).heap.size := by have := hbc.size; omega
          clear hstp hr hkk hln hld2 hba hbc hb10 hl2 y0 y1
          go_upto_region 14 with fail
          generalize w10.alloc (.cells #[.slice (some ⟨K1, 0, none⟩) n f1, .slice (some ⟨K2, 0, none⟩) m f2] 28) = V at *
          generalize w10.heap.size = C at *
          have y0 := HL10.out.x0
          have y1 := HL10.out.x1
          have z0 := HL10.out.fz 0
          have z1 := HL10.out.fz 1
          have u0 := HY.out.cell 0
          have u1 := HY.out.cell 1
          have hM1 : decide ((M : Int) < (i : Int) + 1) = false := by simp; omega
          have hM2 : decide ((i : Int) + 1 > (M : Int)) = false := by simp; omega
          have hw : IntKind.i64.wrap ((i : Int) + 1) = (i : Int) + 1 := IntWalk.i64_in _ (by omega)
          go_wp2_with fail
          exact ⟨⟨l2, i + 1, k - 1, K1, K2, f1, f2, by go_num, by omega, HLS.out, Lib.hid HKK.out.2, HTS.out, by simp only [World.size_setCell]; exact hs11⟩, by simp [intOf]; omega⟩
        · have HU := Lib.hid (fun V => (HUW.out V).mono fun e w' h => h.no hu)
          have HN2 : Hid (∀ x, x < j + 1 → ¬ ((l.pr ((f + x) % m)).phase ≠ 0 ∧ (l.pr ((f + x) % m)).phase ≠ 18)) := Lib.hid (fun x hx => by
            rcases Nat.lt_or_ge x j with h | h
            · exact HNO.out x h
            · obtain rfl : x = j := by omega
              rw [← HQ.out, ← HP.out]
              exact hu)
          clear HUW hu HCN
          have hq1 : (q + 1) % m < m := Nat.mod_lt _ (by omega)
          obtain ⟨q1, hq1e⟩ : ∃ q1, q1 = (q + 1) % m := ⟨_, rfl⟩
          have hw : IntKind.i64.wrap ((q : Int) + 1) = (q : Int) + 1 := IntWalk.i64_in _ (by omega)
          have hrem : ((q : Int) + 1).tmod (m : Int) = (q1 : Int) := by
            rw [Int.tmod_eq_emod_of_nonneg (by omega), hq1e]
            simp
          have hm0 : ¬ (m : Int) = 0 := by omega
          have hm0n : ¬ m = 0 := by omega
          have HQ1 : Hid (q1 = (f + (j + 1)) % m) := Lib.hid (by rw [hq1e, HQ.out, Nat.mod_add_mod, Nat.add_assoc])
          rw [← hq1e] at hq1
          clear hq1e
          go_wp2_with fail
          refine (HU.out _).mono ?_
          rintro e w9 ⟨rfl, hb9⟩
          have HL9 := Lib.hid (HL.out.below hb9)
          have HT9 := Lib.hid (HT.out.below hb9)
          have hs9 : B + 1 ≤ w9.heap.size := by have := hb9.size; omega
          replace y0 := HL9.out.x0
          replace y1 := HL9.out.x1
          clear hb9 g0 g1 g2 g3 g4 g5 g6 z0 z1 hd
          go_wp2_with fail
          exact ⟨⟨q1, j + 1, rfl, by go_num, hjm, hq1, HL9.out, HT9.out, hs9, HQ1, HN2⟩, by simp [intOf]; omega⟩
    · have hd : decide ((0 : Int) < (busV l : Int)) = false := by simp; omega
      have hdn : decide (0 < busV l) = false := by simpa using hbz
      generalize busV l = bz at *
      clear hbz HL HT
      go_wp2_with fail
      refine (check_any (some ⟨G1, 0, none⟩) ⟨G2, 0, none⟩ l n m d1 d2 w7 HL7.out.hn HL7.out.hm (HL7.out.rd.low (Nat.zero_le _)) (by omega) (by omega) (by omega)).mono ?_
      intro e w8 h8
      obtain ⟨rfl, hb8⟩ := h8.yes (led_chk HLD.out)
      go_wp2_with fail
      refine (sane12_any w8).mono ?_
      rintro e w' ⟨rfl, hb⟩
      go_wp2_with fail
      go_ret
      exact ⟨rfl, (HB1.out.grown HT7.out.2 HB1.out.size (fun j e => by have := Option.some.inj e; omega)).trans ((hb8.trans (hb.mono hb8.size)).mono (by have := HT7.out.2.size; have := HB1.out.size; omega))⟩
end Lf
end Go.Proofs.YtmhbloefmknikaaDoor
