/-
  The walk of LockfreeKeeps: from whatever numbers it answers true and only makes memory. Conditions: the argument can be read; 'letters' is as its initialiser lays it.
-/
import Derived.Test.YtmhbloefmknikaaDoorOcA
import Derived.Test.YtmhbloefmknikaaDoorOdA
namespace Go.Proofs.YtmhbloefmknikaaDoor
open Go.RowKit Go.Maps
namespace Lf
open Lk
set_option maxRecDepth 100000 in
set_option maxHeartbeats 3200000 in
theorem keeps_walk (A : Option Addr) (n0 cp : Nat) (w : World) (hL : Lets w) (hnc : n0 ≤ cp) (hc : cp ≤ maxLen) (hN : Nums w w.heap.size A n0) :
    Calls Tryd.prog 5 #[.slice A n0 cp] w (LawP w) := by
  go_enter Tryd.func5, Tryd.ntmps5
  go_wp2_with fail
  refine (Go.Proofs.YtmhbloefmknikaaDoor.new_any A n0 cp _ hnc hc hN).mono ?_
  rintro e w1 ⟨g, hg1, rfl, hTp, hb1⟩
  have hne2 : 0 ≠ g := by have := hL.lt; omega
  have l1 := hL.below hb1
  have hgw := hTp.lt
  have HB1 := Lib.hid hb1
  clear hN hnc hc hL hb1
  go_wp2_with fail
  refine (made_any g w1 hTp l1 hne2 hgw).mono ?_
  rintro e w2 ⟨l0, n, m, J1, J2, c1, c2, rfl, hfr, hrd, hst⟩
  have hmm := And.intro hfr.m2 hfr.m4
  have hnn : n ≤ 66 := by have := hfr.led.1.n66; have := hfr.hn; omega
  have HFR := Lib.hid hfr
  have HLA := Lib.hid (HoL.newF (d1 := c1) (d2 := c2) (t := 28) (n := n) (m := m) (RdL.low hrd (Nat.le_refl _)) hfr.led.1 hst.2.size hfr.hn hfr.hm)
  have HTA := Lib.hid (hst.below ((Below.refl w2.heap.size w2).alloc (Nat.le_refl _) (.cells #[.slice (some ⟨J1, 0, none⟩) n c1, .slice (some ⟨J2, 0, none⟩) m c2] 28)))
  have hsz : (w2.alloc (.cells #[.slice (some ⟨J1, 0, none⟩) n c1, .slice (some ⟨J2, 0, none⟩) m c2] 28)).heap.size = w2.heap.size + 1 := World.size_alloc _ _
  have hs2 := hst.2.size
  clear hfr hrd hst hTp l1
  go_upto_region 3 with fail
  generalize w2.alloc (.cells #[.slice (some ⟨J1, 0, none⟩) n c1, .slice (some ⟨J2, 0, none⟩) m c2] 28) = W at *
  obtain ⟨B, hB⟩ : ∃ B, B = w2.heap.size := ⟨_, rfl⟩
  rw [← hB] at HLA hsz hs2 ⊢
  clear hB
  have y0 := HLA.out.x0
  have y1 := HLA.out.x1
  go_wp2_with fail
  refine (check_any (some ⟨J1, 0, none⟩) ⟨J2, 0, none⟩ l0 n m c1 c2 W HLA.out.hn HLA.out.hm (HLA.out.rd.low (Nat.zero_le _)) (by omega) (by omega) (by omega)).mono ?_
  intro e w3 h3
  obtain ⟨rfl, hb3⟩ := h3.yes (led_chk HFR.out.led)
  have HL3 := Lib.hid (HLA.out.below hb3)
  have HT3 := Lib.hid (HTA.out.below hb3)
  have hs3 : B + 1 ≤ w3.heap.size := by have := hb3.size; omega
  clear h3 hb3 y0 y1
  go_wp2_with fail
  go_loopw [6] (fun v6 wr => ∃ (l : Ls) (i G1 G2 d1 d2 : Nat), v6 = .int .i64 (i : Int) ∧ i ≤ 90 ∧ HoL wr B w1.heap.size l n m G1 G2 d1 d2 ∧ Hid (Led l) ∧ TStep w1 g wr ∧ B + 1 ≤ wr.heap.size) (fun v6 _ => 90 - (intOf v6).toNat)
  case atStart => exact ⟨l0, 0, J1, J2, c1, c2, rfl, Nat.zero_le _, HL3.out, Lib.hid HFR.out.led, HT3.out, hs3⟩
  case round =>
    clear HL3 HT3 hs3 HLA HTA hsz HFR
    obtain ⟨l, i, G1, G2, d1, d2, rfl, hi, hl, HLD, ht, hs⟩ := hrel
    have HL := Lib.hid hl
    have HT := Lib.hid ht
    clear hl ht
    by_cases hlt : i < 90
    · have hd : decide ((i : Int) < 90) = true := by simp; omega
      go_wp2_with fail
      refine (left_any g wr HT.out.1).mono ?_
      rintro e w4 ⟨b4, rfl, hst4⟩
      have HL4 := Lib.hid (HL.out.step hgw hst4)
      have HT4 := Lib.hid (HT.out.trans hst4)
      have hs4 := hst4.2.size
      clear hst4
      cases b4 with
      | true =>
        have y0 := HL4.out.x0
        have y1 := HL4.out.x1
        go_wp2_with fail
        refine (play_any g w1.heap.size l n m 1 G1 G2 d1 d2 w4 HT4.out.1 hgw (by omega) HLD.out HL4.out.hn HL4.out.hm HL4.out.rd (by omega)).mono ?_
        rintro e w5 ⟨l5, K1, K2, f1, f2, rfl, hld5, hn5, hm5, hr5, hst5, hor⟩
        have hlt4 := HL4.out.lt
        have hx1 := HL4.out.n1
        have hx2 := HL4.out.n2
        have HL5 := Lib.hid (HL4.out.step hgw hst5)
        have HLS := Lib.hid (HoL.mk2 (w := w5) (d1 := f1) (d2 := f2) (n := n) (m := m) (by rw [HL5.out.x0]; simp) (by rw [HL5.out.x1]; simp) HL5.out.fz HL5.out.lB hr5 (by omega) (by omega) hn5 hm5)
        have HTS := Lib.hid ((HT4.out.trans hst5).set (p := ⟨B, 0, none⟩) HL4.out.lB hgw (.slice (some ⟨K1, 0, none⟩) n f1) |>.set (p := ⟨B, 1, none⟩) HL4.out.lB hgw (.slice (some ⟨K2, 0, none⟩) m f2))
        have hs5 := hst5.2.size
        have HLD5 := Lib.hid hld5
        have z0 := HL5.out.fz 0
        have z1 := HL5.out.fz 1
        replace y0 := HL5.out.x0
        replace y1 := HL5.out.x1
        clear hst5 hor hr5 hld5 hn5 hm5 hx1 hx2
        go_upto_region 9 with fail
        have hszS : B + 1 ≤ ((w5.setCell ⟨B, 0, none⟩ (.slice (some ⟨K1, 0, none⟩) n f1)).setCell ⟨B, 1, none⟩ (.slice (some ⟨K2, 0, none⟩) m f2)).heap.size := by simp only [World.size_setCell]; omega
        generalize (w5.setCell ⟨B, 0, none⟩ (.slice (some ⟨K1, 0, none⟩) n f1)).setCell ⟨B, 1, none⟩ (.slice (some ⟨K2, 0, none⟩) m f2) = V at *
        clear y0 y1
        have y0 := HLS.out.x0
        have y1 := HLS.out.x1
        go_wp2_with fail
        refine (check_any (some ⟨K1, 0, none⟩) ⟨K2, 0, none⟩ l5 n m f1 f2 V HLS.out.hn HLS.out.hm (HLS.out.rd.low (Nat.zero_le _)) (by omega) (by omega) (by omega)).mono ?_
        intro e w6 h6
        obtain ⟨rfl, hb6⟩ := h6.yes (led_chk HLD5.out)
        have HL6 := Lib.hid (HLS.out.below hb6)
        have HT6 := Lib.hid (HTS.out.below hb6)
        have hs6 : B + 1 ≤ w6.heap.size := by have := hb6.size; omega
        clear h6 hb6 y0 y1
        have y0 := HL6.out.x0
        have y1 := HL6.out.x1
        have hmz : ((m : Int) == 0) = false := by simp; omega
        go_wp2_with fail
        refine (next_any g (m : Int) w6 HT6.out.1 (by omega)).mono ?_
        rintro e w7 ⟨r, r0, r1, rfl, hst7⟩
        obtain ⟨q, rfl⟩ := Int.eq_ofNat_of_zero_le r0
        have hq : q < m := by omega
        have HL7 := Lib.hid (HL6.out.step hgw hst7)
        have HT7 := Lib.hid (HT6.out.trans hst7)
        have hs7 := hst7.2.size
        replace y0 := HL7.out.x0
        replace y1 := HL7.out.x1
        clear hst7 r0 r1
        go_wp2_with fail
        refine (step_any ⟨K1, 0, none⟩ ⟨K2, 0, none⟩ l5 (q : Int) n m f1 f2 w7 HL7.out.hn HL7.out.hm (HL7.out.rd.low (Nat.zero_le _)) HLD5.out.1).mono ?_
        rintro e w8 ⟨U1, U2, h1, h2, rfl, hr8, hb8⟩
        obtain ⟨b8, hb8'⟩ : ∃ b8, b8 = (stpO l5 (q : Int)).isSome := ⟨_, rfl⟩
        rw [← hb8']
        have HB8 : Hid (b8 = true ↔ (l5.pr q).phase ≠ 0 ∧ (l5.pr q).phase ≠ 18) := Lib.hid (by
          rw [hb8']
          unfold stpO
          rw [if_pos ⟨by omega, by rw [HL7.out.hm]; omega⟩, Int.toNat_natCast]
          exact stepV_can HLD5.out.1 (by rw [HL7.out.hm]; exact hq))
        have hba := hb8.trans (((Below.refl w8.heap.size w8).alloc (Nat.le_refl _) (.cells #[.slice (some ⟨U1, 0, none⟩) n h1, .slice (some ⟨U2, 0, none⟩) m h2] 28)).mono hb8.size)
        have HL8 := Lib.hid (HL7.out.below hba)
        have HT8 := Lib.hid (HT7.out.below hba)
        have hs8 : B + 1 ≤ (w8.alloc (.cells #[.slice (some ⟨U1, 0, none⟩) n h1, .slice (some ⟨U2, 0, none⟩) m h2] 28)).heap.size := by have := hba.size; omega
        have hqp : q < l5.ps.length := by rw [HL7.out.hm]; exact hq
        clear hb8' hr8 hb8 hba y0 y1
        go_upto_region 13 with fail
        generalize w8.alloc (.cells #[.slice (some ⟨U1, 0, none⟩) n h1, .slice (some ⟨U2, 0, none⟩) m h2] 28) = V8 at *
        have y1 := HL8.out.x1
        have z1 := HL8.out.fz 1
        obtain ⟨b, o, e, -, -, g0, g1, g2, g3, g4, g5, g6⟩ := Pos.at_ HL8.out.rd.ps hqp
        rw [l5.pr_lt hqp] at g0 g1 g2 g3 g4 g5 g6
        injection e with e
        injection e with e1 e2 _
        subst e1 e2
        simp only [Nat.zero_add] at g0 g1 g2 g3 g4 g5 g6
        have i0 : (0 : Int) ≤ (q : Int) := by omega
        have i1 : (q : Int) < (m : Int) := by omega
        have HUW := Lib.hid (fun V => ract_any (l5.pr q) V)
        clear hqp
        have HNX : Hid (b8 = true ↔ (l5.pr q).phase ≠ 0 ∧ (l5.pr q).phase ≠ 18) := HB8
        clear HB8
        generalize l5.pr q = x at *
        obtain ⟨xk, xc, xp, xd, xs, xx, xr⟩ := x
        simp only at g0 g1 g2 g3 g4 g5 g6 HNX
        by_cases hu : xp ≠ 0 ∧ xp ≠ 18
        · have hbt : b8 = true := HNX.out.2 hu
          subst hbt
          have HU := Lib.hid (fun V => (HUW.out V).mono fun e w' h => h.yes hu)
          clear HUW hu HNX
          go_wp2_with fail
          refine (HU.out _).mono ?_
          rintro e w9 ⟨rfl, hb9⟩
          have HL9 := Lib.hid (HL8.out.below hb9)
          have HT9 := Lib.hid (HT8.out.below hb9)
          have hs9 : B + 1 ≤ w9.heap.size := by have := hb9.size; omega
          clear hb9 g0 g1 g2 g3 g4 g5 g6
          go_wp2_with fail
          exact ⟨⟨l5, i + 1, K1, K2, f1, f2, by go_num, hlt, HL9.out, HLD5, HT9.out, hs9⟩, by simp [intOf]; omega⟩
        · have hbf : b8 = false := by
            cases b8 with
            | false => rfl
            | true => exact absurd (HNX.out.1 rfl) hu
          subst hbf
          have HU := Lib.hid (fun V => (HUW.out V).mono fun e w' h => h.no hu)
          clear HUW hu HNX
          go_wp2_with fail
          refine (HU.out _).mono ?_
          rintro e w9 ⟨rfl, hb9⟩
          have HL9 := Lib.hid (HL8.out.below hb9)
          have HT9 := Lib.hid (HT8.out.below hb9)
          have hs9 : B + 1 ≤ w9.heap.size := by have := hb9.size; omega
          clear hb9 g0 g1 g2 g3 g4 g5 g6
          go_wp2_with fail
          exact ⟨⟨l5, i + 1, K1, K2, f1, f2, by go_num, hlt, HL9.out, HLD5, HT9.out, hs9⟩, by simp [intOf]; omega⟩
      | false =>
        go_wp2_with fail
        refine (sane12_any w4).mono ?_
        rintro e w' ⟨rfl, hb⟩
        go_wp2_with fail
        go_ret
        exact ⟨rfl, (HB1.out.grown HT4.out.2 HB1.out.size (fun j e => by have := Option.some.inj e; omega)).trans (hb.mono (by have := HT4.out.2.size; have := HB1.out.size; omega))⟩
    · have hd : decide ((i : Int) < 90) = false := by simp; omega
      go_wp2_with fail
      refine (sane12_any wr).mono ?_
      rintro e w' ⟨rfl, hb⟩
      go_wp2_with fail
      go_ret
      exact ⟨rfl, (HB1.out.grown HT.out.2 HB1.out.size (fun j e => by have := Option.some.inj e; omega)).trans (hb.mono (by have := HT.out.2.size; have := HB1.out.size; omega))⟩
end Lf
end Go.Proofs.YtmhbloefmknikaaDoor
