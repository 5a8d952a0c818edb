/-
  The walk of LockedRaw: from whatever numbers and whatever list it answers true and only makes memory. Conditions: the arguments can be read; 'letters' is as its initialiser lays it.
-/
import Derived.Test.YtmhbloefmknikaaGreatDoorMaP
import Derived.Test.YtmhbloefmknikaaGreatDoorMaM
import Derived.Test.YtmhbloefmknikaaGreatDoorMbS
import Derived.Test.YtmhbloefmknikaaGreatDoorMbT
import Derived.Test.YtmhbloefmknikaaGreatDoorWlf
import Derived.Deep.RegionHeld3
namespace Go.Proofs.YtmhbloefmknikaaGreatDoor
open Go.RowKit Go.Maps
namespace Lk
set_option maxRecDepth 100000 in
set_option maxHeartbeats 12800000 in
theorem raw_walk (A : Option Addr) (n0 cp : Nat) (B1 B2 : Option Addr) (L : Ls) (N M k1 k2 : Nat) (p0 kd0 i0 : Int) (w : World) (hL : Lets w) (hnc : n0 ≤ cp) (hc : cp ≤ maxLen) (hN : Nums w w.heap.size A n0) (hLn : L.cs.length = N) (hLm : L.ps.length = M) (hNb : N ≤ maxLen) (hMb : M ≤ maxLen) (hR : RdL w 0 B1 B2 L) :
    Calls Tryz.prog 4 #[.slice A n0 cp, .agg #[.slice B1 N k1, .slice B2 M k2], .int .i64 p0, .int .i64 kd0, .int .i64 i0] w (LawP w) := by
  unfold maxLen at hNb hMb
  have hb0 := (Below.refl w.heap.size w).alloc (Nat.le_refl _) (.cells #[.slice B1 N k1, .slice B2 M k2] 28)
  have HBW := Lib.hid hb0
  have HX := Lib.hid (Has.new w 28 #[.slice B1 N k1, .slice B2 M k2])
  have HR0 := Lib.hid (hR.below hb0)
  have hL0 := hL.below hb0
  have hN0 := (hN.keep fun i hi => hb0.block i hi).more hb0.size
  have HLN := Lib.hid hLn
  have HLM := Lib.hid hLm
  clear hb0 hR hL hN hLn hLm
  go_enter Tryz.func4, Tryz.ntmps4
  go_upto_region 1 with fail
  have hW0 : (w.alloc (.cells #[.slice B1 N k1, .slice B2 M k2] 28)).heap.size = w.heap.size + 1 := World.size_alloc _ _
  generalize w.alloc (.cells #[.slice B1 N k1, .slice B2 M k2] 28) = W0 at *
  obtain ⟨D, hD⟩ : ∃ D, D = w.heap.size := ⟨_, rfl⟩
  rw [← hD] at HX hW0 ⊢
  clear hD
  go_wp2_with fail
  refine (Go.Proofs.YtmhbloefmknikaaGreatDoor.new_any A n0 cp _ hnc hc hN0).mono ?_
  rintro e w1 ⟨g, hg1, rfl, hTp, hb1⟩
  have hne2 : 0 ≠ g := by have := hL0.lt; omega
  have l1 := hL0.below hb1
  have hgw := hTp.lt
  have HB1 := Lib.hid hb1
  have HLT1 := Lib.hid l1
  clear hN0 hnc hc hL0 hb1
  go_wp2_with fail
  refine (made_any g w1 hTp l1 hne2 hgw).mono ?_
  rintro e w2 ⟨l0, n, m, J1, J2, c1, c2, rfl, hfr, hrd, hst⟩
  have HFR := Lib.hid hfr
  have hal := (Below.refl w2.heap.size w2).alloc (Nat.le_refl _) (.cells #[.slice (some ⟨J1, 0, none⟩) n c1, .slice (some ⟨J2, 0, none⟩) m c2] 28)
  have HEN := Lib.hid (Has.new w2 28 #[.slice (some ⟨J1, 0, none⟩) n c1, .slice (some ⟨J2, 0, none⟩) m c2])
  have HR2 := Lib.hid (hrd.below hal)
  have HT2 := Lib.hid (hst.below hal)
  have hsz : (w2.alloc (.cells #[.slice (some ⟨J1, 0, none⟩) n c1, .slice (some ⟨J2, 0, none⟩) m c2] 28)).heap.size = w2.heap.size + 1 := World.size_alloc _ _
  have hs2 := hst.2.size
  have n8 := hfr.n8
  have m2 := hfr.m2
  have m4 := hfr.m4
  have HJ := Lib.hid (HoL.new (d1 := c1) (d2 := c2) (t := 28) (n := n) (m := m) (RdL.low hrd (Nat.le_refl _)) hfr.led.1 hst.2.size hfr.hn hfr.hm)
  clear hfr hrd hst hTp l1 hal
  go_upto_region 3 with fail
  generalize w2.alloc (.cells #[.slice (some ⟨J1, 0, none⟩) n c1, .slice (some ⟨J2, 0, none⟩) m c2] 28) = W at *
  obtain ⟨E, hE⟩ : ∃ E, E = w2.heap.size := ⟨_, rfl⟩
  rw [← hE] at HEN hsz hs2 HJ ⊢
  clear hE
  have y0 := HEN.out.cell 0
  have y1 := HEN.out.cell 1
  go_wp2_with fail
  refine (play_any g w1.heap.size l0 n m 30 J1 J2 c1 c2 W HT2.out.1 hgw (by omega) HFR.out.led HFR.out.hn HFR.out.hm HR2.out (by omega)).mono ?_
  rintro e w5 ⟨l5, st, K1, K2, f1, f2, rfl, hld5, hn5, hm5, hr5, hst5, hor⟩
  have HE5 := Lib.hid (show Has w5 E 28 _ from (hst5.2.block E HEN.out.lt (fun e => by have := Option.some.inj e; omega)).trans HEN.out)
  have hx1 := HJ.out.n1
  have hx2 := HJ.out.n2
  have hs5 := hst5.2.size
  have HT5 := Lib.hid (HT2.out.trans hst5)
  have HRV := Lib.hid (rdl_far (p := ⟨E, 1, none⟩) (rdl_far (p := ⟨E, 0, none⟩) hr5 (by simp only; omega) (by simp only; omega) (.slice (some ⟨K1, 0, none⟩) n f1)) (by simp only; omega) (by simp only; omega) (.slice (some ⟨K2, 0, none⟩) m f2))
  have HEV := Lib.hid ((HE5.out.set_ 0 (.slice (some ⟨K1, 0, none⟩) n f1)).set_ 1 (.slice (some ⟨K2, 0, none⟩) m f2))
  have HTV := Lib.hid (tover HT5.out hgw (((Below.refl _ w5).mono HT5.out.2.size).setCell (p := ⟨E, 0, none⟩) hs2 (.slice (some ⟨K1, 0, none⟩) n f1) |>.setCell (p := ⟨E, 1, none⟩) hs2 (.slice (some ⟨K2, 0, none⟩) m f2)))
  have hn5' := Lib.hid hn5
  have hm5' := Lib.hid hm5
  replace y0 := HE5.out.cell 0
  replace y1 := HE5.out.cell 1
  have z0 := HE5.out.frozen 0
  have z1 := HE5.out.frozen 1
  clear hld5 hr5 hst5 hor hn5 hm5 hx1 hx2 HJ HR2 HT2
  go_upto_region 6 with fail
  have hVs : E + 1 ≤ ((w5.setCell ⟨E, 0, none⟩ (.slice (some ⟨K1, 0, none⟩) n f1)).setCell ⟨E, 1, none⟩ (.slice (some ⟨K2, 0, none⟩) m f2)).heap.size := by simp only [World.size_setCell]; omega
  simp only [List.setIfInBounds_toArray, List.set_cons_zero, List.set_cons_succ] at HEV
  generalize (w5.setCell ⟨E, 0, none⟩ (.slice (some ⟨K1, 0, none⟩) n f1)).setCell ⟨E, 1, none⟩ (.slice (some ⟨K2, 0, none⟩) m f2) = V at *
  clear y0 y1 z0 z1
  go_wp2_with fail
  go_loopw [14] (fun v14 wr => ∃ (l : Ls) (i n3 m3 : Nat) (P1 P2 : Option Addr) (f1 f2 : Nat), v14 = .int .i64 (i : Int) ∧ i ≤ 4 ∧ l.cs.length = n3 ∧ l.ps.length = m3 ∧ n3 ≤ 100 ∧ m3 ≤ 100 ∧ Has wr E 28 #[.slice P1 n3 f1, .slice P2 m3 f2] ∧ RdL wr w1.heap.size P1 P2 l ∧ TStep w1 g wr ∧ E + 1 ≤ wr.heap.size) (fun v14 _ => 4 - (intOf v14).toNat)
  case atStart => exact ⟨l5, 0, n, m, some ⟨K1, 0, none⟩, some ⟨K2, 0, none⟩, f1, f2, rfl, Nat.zero_le _, hn5'.out, hm5'.out, by omega, by omega, HEV.out, HRV.out, HTV.out, hVs⟩
  case round =>
    clear HEV HRV HTV hVs hn5' hm5' HE5 HT5 HEN
    obtain ⟨l, i, n3, m3, P1, P2, f1, f2, rfl, hi, hn3, hm3, n100, m100, he, hr, ht, hs⟩ := hrel
    have HE := Lib.hid he
    have HR := Lib.hid hr
    have HT := Lib.hid ht
    have HN3 := Lib.hid hn3
    have HM3 := Lib.hid hm3
    clear he hr ht hn3 hm3
    by_cases hlt : i < 4
    · have hd : decide ((i : Int) < 4) = true := by simp; omega
      go_upto_region 9 with fail
      have HST := Lib.hid (fun (U : World) (k : TStep wr g U) => (⟨(World.cell?_of_block (a := ⟨E, 0, none⟩) (k.2.block E HE.out.lt (fun e => by have := Option.some.inj e; omega))).trans (HE.out.cell 0), (World.cell?_of_block (a := ⟨E, 1, none⟩) (k.2.block E HE.out.lt (fun e => by have := Option.some.inj e; omega))).trans (HE.out.cell 1)⟩ : U.cell? ⟨E, 0, none⟩ = some (.slice P1 n3 f1) ∧ U.cell? ⟨E, 1, none⟩ = some (.slice P2 m3 f2)))
      have hT0 : TStep wr g wr.drew := (TStep.refl HT.out.1).below (Below.refl _ _).drew
      have hS0 := HST.out _ hT0
      have HAG := Lib.hid (fun (U : World) (k : TStep wr g U) (x y z : Int) => agrees_any P1 P2 l x y z n3 m3 f1 f2 U HN3.out HM3.out ((HR.out.step hgw k).low (Nat.zero_le _)) (by omega) (by omega))
      go_region_held3 (fun U => U.cell? ⟨E, 0, none⟩ = some (.slice P1 n3 f1) ∧ U.cell? ⟨E, 1, none⟩ = some (.slice P2 m3 f2)) (first | with_reducible exact hS13 | with_reducible exact hS12 | with_reducible exact hS11 | with_reducible exact hS10 | with_reducible exact hS0 | with_reducible assumption) (first | (go_at_call 11; (with_reducible refine (next_any g _ _ (tstp_tape hT0) (by omega)).mono ?_); rintro e w10 ⟨r10, -, -, rfl, hst10⟩; have hT10 := hT0.trans hst10; have hS10 := HST.out _ hT10; clear hst10) | (go_at_call 11; (with_reducible refine (next_any g _ _ (tstp_tape hT10) (by omega)).mono ?_); rintro e w11 ⟨r11, -, -, rfl, hst11⟩; have hT11 := hT10.trans hst11; have hS11 := HST.out _ hT11; clear hst11) | (go_at_call 11; (with_reducible refine (next_any g _ _ (tstp_tape hT11) (by omega)).mono ?_); rintro e w12 ⟨r12, -, -, rfl, hst12⟩; have hT12 := hT11.trans hst12; have hS12 := HST.out _ hT12; clear hst12) | (go_at_call 28; (with_reducible refine (HAG.out _ hT12 _ _ _).mono ?_); rintro e w13 ⟨rfl, hb13⟩; have hT13 := hT12.below hb13; have hS13 := HST.out _ hT13))
      have HT13 := Lib.hid (HT.out.trans hT13)
      have HE13 := Lib.hid (show Has w13 E 28 _ from (hT13.2.block E HE.out.lt (fun e => by have := Option.some.inj e; omega)).trans HE.out)
      have HR13 := Lib.hid (HR.out.step hgw hT13)
      have HL13 := Lib.hid (HLT1.out.step hne2 HT13.out)
      have hs13 := hT13.2.size
      have y0 := hS13.1
      have y1 := hS13.2
      clear hS0 hS10 hS11 hS12 hS13 hT0 hT10 hT11 hT12 hT13 hb13 HAG HST
      go_wp2_with fail
      refine (damage_any g P1 P2 l n3 m3 f1 f2 w13 HT13.out.1 HL13.out hne2 (by have := HT13.out.2.size; omega) HN3.out HM3.out (HR13.out.low (Nat.zero_le _)) (by omega) (by omega)).mono ?_
      rintro e w14 ⟨l', n', m', Q1, Q2, e1, e2, rfl, hn', hm', hnn, hmm, hr14, hst14⟩
      have HE14 := Lib.hid (show Has w14 E 28 _ from (hst14.2.block E HE13.out.lt (fun e => by have := Option.some.inj e; omega)).trans HE13.out)
      have hs14 := hst14.2.size
      have HT14 := Lib.hid (HT13.out.trans hst14)
      have HR15 := Lib.hid (RdL.mk (rdr_set2 (B := E) hr14.cs (by omega) (.slice Q1 n' e1) (.slice Q2 m' e2)) (rdr_set2 (B := E) hr14.ps (by omega) (.slice Q1 n' e1) (.slice Q2 m' e2)))
      have HE15 := Lib.hid ((HE14.out.set_ 0 (.slice Q1 n' e1)).set_ 1 (.slice Q2 m' e2))
      have HT15 := Lib.hid (tover HT14.out hgw (((Below.refl _ w14).mono HT14.out.2.size).setCell (p := ⟨E, 0, none⟩) hs2 (.slice Q1 n' e1) |>.setCell (p := ⟨E, 1, none⟩) hs2 (.slice Q2 m' e2)))
      have HRR := Lib.hid (HR15.out.low (lo' := w1.heap.size) (by have := HT13.out.2.size; omega))
      have HN5 := Lib.hid hn'
      have HM5 := Lib.hid hm'
      replace y0 := HE14.out.cell 0
      replace y1 := HE14.out.cell 1
      have z0 := HE14.out.frozen 0
      have z1 := HE14.out.frozen 1
      simp only [List.setIfInBounds_toArray, List.set_cons_zero, List.set_cons_succ] at HE15
      have hsF : E + 1 ≤ ((w14.setCell ⟨E, 0, none⟩ (.slice Q1 n' e1)).setCell ⟨E, 1, none⟩ (.slice Q2 m' e2)).heap.size := by simp only [World.size_setCell]; omega
      clear hr14 hst14 hn' hm' HR15
      go_wp2_with fail
      exact ⟨⟨l', i + 1, n', m', Q1, Q2, e1, e2, by go_num, hlt, HN5.out, HM5.out, by omega, by omega, HE15.out, HRR.out, HT15.out, hsF⟩, by simp [intOf]; omega⟩
    · have hd : decide ((i : Int) < 4) = false := by simp; omega
      have HBF := Lib.hid (HB1.out.grown HT.out.2 HB1.out.size (fun j e => by have := Option.some.inj e; omega))
      have HXF := Lib.hid (HX.out.below HBF.out)
      have x0 := HXF.out.cell 0
      have x1 := HXF.out.cell 1
      by_cases h1 : N > 100
      · have d1 : decide ((N : Int) > 100) = true := by simp; omega
        have d1' : decide ((100 : Int) < (N : Int)) = true := by simp; omega
        go_wp2_with fail
        refine (sane11_any wr).mono ?_
        rintro e w' ⟨rfl, hb⟩
        go_wp2_with fail
        go_ret
        exact ⟨rfl, HBW.out.trans (HBF.out.trans (hb.mono HBF.out.size) |>.mono HBW.out.size)⟩
      · have d1 : decide ((N : Int) > 100) = false := by simp; omega
        have d1' : decide ((100 : Int) < (N : Int)) = false := by simp; omega
        by_cases h2 : M > 100
        · have d2 : decide ((M : Int) > 100) = true := by simp; omega
          have d2' : decide ((100 : Int) < (M : Int)) = true := by simp; omega
          go_wp2_with fail
          refine (sane11_any wr).mono ?_
          rintro e w' ⟨rfl, hb⟩
          go_wp2_with fail
          go_ret
          exact ⟨rfl, HBW.out.trans (HBF.out.trans (hb.mono HBF.out.size) |>.mono HBW.out.size)⟩
        · have d2 : decide ((M : Int) > 100) = false := by simp; omega
          have d2' : decide ((100 : Int) < (M : Int)) = false := by simp; omega
          go_wp2_with fail
          refine (agrees_any B1 B2 L p0 kd0 i0 N M k1 k2 wr HLN.out HLM.out (HR0.out.below HBF.out) (by omega) (by omega)).mono ?_
          rintro e w16 ⟨rfl, hb16⟩
          replace HBF := Lib.hid (HBF.out.trans (hb16.mono HBF.out.size))
          clear hb16
          go_wp2_with fail
          refine (sane11_any w16).mono ?_
          rintro e w' ⟨rfl, hb⟩
          go_wp2_with fail
          go_ret
          exact ⟨rfl, HBW.out.trans (HBF.out.trans (hb.mono HBF.out.size) |>.mono HBW.out.size)⟩
end Lk
end Go.Proofs.YtmhbloefmknikaaGreatDoor
