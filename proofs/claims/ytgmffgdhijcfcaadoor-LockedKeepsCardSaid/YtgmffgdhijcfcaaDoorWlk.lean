/-
  The walk of LockedKeeps: from whatever numbers it answers true and only makes memory. Conditions: the argument can be read; 'letters' is as its initialiser lays it.
-/
import Derived.Test.YtgmffgdhijcfcaaDoorMaP
import Derived.Test.YtgmffgdhijcfcaaDoorMaM
import Derived.Test.YtgmffgdhijcfcaaDoorMaS
namespace Go.Proofs.YtgmffgdhijcfcaaDoor
open Go.RowKit Go.Maps
namespace Lk
set_option maxRecDepth 100000 in
set_option maxHeartbeats 3200000 in
theorem keeps_walk (A : Option Addr) (n0 cp : Nat) (w : World) (hL : Lets w) (hnc : n0 ≤ cp) (hc : cp ≤ maxLen) (hN : Nums w w.heap.size A n0) :
    Calls Tryd.prog 4 #[.slice A n0 cp] w (LawP w) := by
  go_enter Tryd.func4, Tryd.ntmps4
  go_wp2_with fail
  refine (Go.Proofs.YtgmffgdhijcfcaaDoor.new_any A n0 cp _ hnc hc hN).mono ?_
  rintro e w1 ⟨g, hg1, rfl, hTp, hb1⟩
  have hne2 : 0 ≠ g := by have := hL.lt; omega
  have l1 := hL.below hb1
  have hgw := hTp.lt
  have HB1 := Lib.hid hb1
  clear hN hnc hc hL hb1
  go_wp2_with fail
  refine (made_any g w1 hTp l1 hne2 hgw).mono ?_
  rintro e w2 ⟨l0, n, m, J1, J2, c1, c2, rfl, hfr, hrd, hst⟩
  have HFR := Lib.hid hfr
  have HLA := Lib.hid (HoL.new (d1 := c1) (d2 := c2) (t := 35) (n := n) (m := m) (RdL.low hrd (Nat.le_refl _)) hfr.led.1 hst.2.size hfr.hn hfr.hm)
  have HTA := Lib.hid (hst.below ((Below.refl w2.heap.size w2).alloc (Nat.le_refl _) (.cells #[.slice (some ⟨J1, 0, none⟩) n c1, .slice (some ⟨J2, 0, none⟩) m c2] 35)))
  have hsz : (w2.alloc (.cells #[.slice (some ⟨J1, 0, none⟩) n c1, .slice (some ⟨J2, 0, none⟩) m c2] 35)).heap.size = w2.heap.size + 1 := World.size_alloc _ _
  have hs2 := hst.2.size
  clear hfr hrd hst hTp l1
  go_upto_region 3 with fail
  generalize w2.alloc (.cells #[.slice (some ⟨J1, 0, none⟩) n c1, .slice (some ⟨J2, 0, none⟩) m c2] 35) = W at *
  obtain ⟨B, hB⟩ : ∃ B, B = w2.heap.size := ⟨_, rfl⟩
  rw [← hB] at HLA hsz hs2 ⊢
  clear hB
  have y0 := HLA.out.x0
  have y1 := HLA.out.x1
  go_wp2_with fail
  refine (check_any (some ⟨J1, 0, none⟩) (some ⟨J2, 0, none⟩) l0 n m c1 c2 W HLA.out.hn HLA.out.hm (HLA.out.rd.low (Nat.zero_le _))).mono ?_
  intro e w3 h3
  obtain ⟨rfl, hb3⟩ := h3.yes (led_chk HFR.out.led)
  have HL3 := Lib.hid (HLA.out.below hb3)
  have HT3 := Lib.hid (HTA.out.below hb3)
  have hs3 : B + 1 ≤ w3.heap.size := by have := hb3.size; omega
  clear h3 hb3 y0 y1
  go_wp2_with fail
  go_loopw [6] (fun v6 wr => ∃ (l : Ls) (i G1 G2 d1 d2 : Nat), v6 = .int .i64 (i : Int) ∧ i ≤ 90 ∧ HoL wr B w1.heap.size l n m G1 G2 d1 d2 ∧ Hid (Led l) ∧ TStep w1 g wr ∧ B + 1 ≤ wr.heap.size) (fun v6 _ => 90 - (intOf v6).toNat)
  case atStart => exact ⟨l0, 0, J1, J2, c1, c2, rfl, Nat.zero_le _, HL3.out, Lib.hid HFR.out.led, HT3.out, hs3⟩
  case round =>
    clear HL3 HT3 hs3 HLA HTA hsz HFR
    obtain ⟨l, i, G1, G2, d1, d2, rfl, hi, hl, HLD, ht, hs⟩ := hrel
    have HL := Lib.hid hl
    have HT := Lib.hid ht
    clear hl ht
    by_cases hlt : i < 90
    · have hd : decide ((i : Int) < 90) = true := by simp; omega
      go_wp2_with fail
      refine (left_any g wr HT.out.1).mono ?_
      rintro e w4 ⟨b4, rfl, hst4⟩
      have HL4 := Lib.hid (HL.out.step hgw hst4)
      have HT4 := Lib.hid (HT.out.trans hst4)
      have hs4 := hst4.2.size
      clear hst4
      cases b4 with
      | true =>
        have y0 := HL4.out.x0
        have y1 := HL4.out.x1
        go_wp2_with fail
        refine (play_any g w1.heap.size l n m 1 G1 G2 d1 d2 w4 HT4.out.1 hgw (by omega) HLD.out HL4.out.hn HL4.out.hm HL4.out.rd (by omega)).mono ?_
        rintro e w5 ⟨l5, st, K1, K2, f1, f2, rfl, hld5, hn5, hm5, hr5, hst5, hor⟩
        have hlt4 := HL4.out.lt
        have hx1 := HL4.out.n1
        have hx2 := HL4.out.n2
        have HL5 := Lib.hid (HL4.out.step hgw hst5)
        have HLS := Lib.hid (HoL.mk2 (w := w5) (d1 := f1) (d2 := f2) (n := n) (m := m) (by rw [HL5.out.x0]; simp) (by rw [HL5.out.x1]; simp) HL5.out.fz HL5.out.lB hr5 (by omega) (by omega) hn5 hm5)
        have HTS := Lib.hid ((HT4.out.trans hst5).set (p := ⟨B, 0, none⟩) HL4.out.lB hgw (.slice (some ⟨K1, 0, none⟩) n f1) |>.set (p := ⟨B, 1, none⟩) HL4.out.lB hgw (.slice (some ⟨K2, 0, none⟩) m f2))
        have hs5 := hst5.2.size
        have HLD5 := Lib.hid hld5
        have z0 := HL5.out.fz 0
        have z1 := HL5.out.fz 1
        replace y0 := HL5.out.x0
        replace y1 := HL5.out.x1
        clear hst5 hor hr5 hld5 hn5 hm5 hx1 hx2
        go_upto_region 9 with fail
        have hszS : B + 1 ≤ ((w5.setCell ⟨B, 0, none⟩ (.slice (some ⟨K1, 0, none⟩) n f1)).setCell ⟨B, 1, none⟩ (.slice (some ⟨K2, 0, none⟩) m f2)).heap.size := by simp only [World.size_setCell]; omega
        generalize (w5.setCell ⟨B, 0, none⟩ (.slice (some ⟨K1, 0, none⟩) n f1)).setCell ⟨B, 1, none⟩ (.slice (some ⟨K2, 0, none⟩) m f2) = V at *
        clear y0 y1
        have y0 := HLS.out.x0
        have y1 := HLS.out.x1
        go_wp2_with fail
        refine (check_any (some ⟨K1, 0, none⟩) (some ⟨K2, 0, none⟩) l5 n m f1 f2 V HLS.out.hn HLS.out.hm (HLS.out.rd.low (Nat.zero_le _))).mono ?_
        intro e w6 h6
        obtain ⟨rfl, hb6⟩ := h6.yes (led_chk HLD5.out)
        have HL6 := Lib.hid (HLS.out.below hb6)
        have HT6 := Lib.hid (HTS.out.below hb6)
        have hs6 : B + 1 ≤ w6.heap.size := by have := hb6.size; omega
        clear h6 hb6 y0 y1
        go_wp2_with fail
        exact ⟨⟨l5, i + 1, K1, K2, f1, f2, by go_num, hlt, HL6.out, HLD5, HT6.out, hs6⟩, by simp [intOf]; omega⟩
      | false =>
        go_wp2_with fail
        refine (sane11_any w4).mono ?_
        rintro e w' ⟨rfl, hb⟩
        go_wp2_with fail
        go_ret
        exact ⟨rfl, (HB1.out.grown HT4.out.2 HB1.out.size (fun j e => by have := Option.some.inj e; omega)).trans (hb.mono (by have := HT4.out.2.size; have := HB1.out.size; omega))⟩
    · have hd : decide ((i : Int) < 90) = false := by simp; omega
      go_wp2_with fail
      refine (sane11_any wr).mono ?_
      rintro e w' ⟨rfl, hb⟩
      go_wp2_with fail
      go_ret
      exact ⟨rfl, (HB1.out.grown HT.out.2 HB1.out.size (fun j e => by have := Option.some.inj e; omega)).trans (hb.mono (by have := HT.out.2.size; have := HB1.out.size; omega))⟩
end Lk
end Go.Proofs.YtgmffgdhijcfcaaDoor
