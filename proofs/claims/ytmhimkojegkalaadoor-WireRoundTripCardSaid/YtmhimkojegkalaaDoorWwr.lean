/-
  The walk of WireRoundTrip: from whatever numbers and bytes it answers true and only makes memory. Conditions: the arguments can be read; 'letters' is as its initialiser lays it.
-/
import Derived.Test.YtmhimkojegkalaaDoorLnG
import Derived.Test.YtmhimkojegkalaaDoorLbU
import Derived.Test.YtmhimkojegkalaaDoorLdG
import Derived.Deep.DeepCutAuto
import Derived.Deep.CutBlock
namespace Go.Proofs.YtmhimkojegkalaaDoor
open Go.RowKit

/-- What the loop of the law knows of the bytes it decodes. -/
def RowZ (wz : World) (Z i : Nat) : Prop := ∃ (A : Option Addr) (n c : Nat) (z : List UInt8), n = z.length ∧ n ≤ c ∧ c ≤ maxLen ∧ ∀ W, Below wz.heap.size wz W → W.cell? ⟨Z, i, none⟩ = some (.slice A n c) ∧ Bys W W.heap.size A z
theorem rowZ_own {wz : World} {Z i base n c : Nat} {A : Option Addr} {z : List UInt8} (h : OwnB wz base (.slice A n c) z) (hZ : Z < wz.heap.size) (hc : wz.cell? ⟨Z, i, none⟩ = some (.slice A n c)) : RowZ wz Z i := by
  obtain ⟨A', c', e, h1, h2, h3⟩ := h.read
  injection e with e1 e2 e3
  subst e1 e2 e3
  exact ⟨A, _, c, z, rfl, h1, h2, fun W k => ⟨(k.cell (p := ⟨Z, i, none⟩) hZ).trans hc, (h3.below k).more k.size⟩⟩

theorem decNodes_either {W : World} {A : Option Addr} {n c : Nat} {z : List UInt8} (hz : Bys W W.heap.size A z) (hn : n = z.length) (hc : n ≤ c) (hm : c ≤ maxLen) : Calls Tryd.prog 19 #[.slice A n c] W fun e w' => ∃ A m c E, e = .returned (.tuple #[.slice A m c, .int .i64 E]) ∧ Below W.heap.size W w' ∧ (E = 4 ∨ (E = 0 ∧ ∃ l, decN z = some l ∧ m = l.length ∧ Nds w' w'.heap.size A l)) := by
  cases hd : decN z with
  | none => exact (decNodes_no hz hn hc hm hd).mono fun e w' ⟨A, m, c, h1, h2⟩ => ⟨A, m, c, 4, h1, h2, .inl rfl⟩
  | some l => exact (decNodes_yes hz hn hc hm hd).mono fun e w' ⟨A, m, c, h1, h2, h3, h4⟩ => ⟨A, m, c, 0, h2, h4, .inr ⟨rfl, l, rfl, h1, h3⟩⟩
theorem decLinks_either {W : World} {A : Option Addr} {n c : Nat} {z : List UInt8} (hz : Bys W W.heap.size A z) (hn : n = z.length) (hc : n ≤ c) (hm : c ≤ maxLen) : Calls Tryd.prog 21 #[.slice A n c] W fun e w' => ∃ A m c E, e = .returned (.tuple #[.slice A m c, .int .i64 E]) ∧ Below W.heap.size W w' ∧ (E = 4 ∨ (E = 0 ∧ ∃ l, decL z = some l ∧ m = l.length ∧ Lds w' w'.heap.size A l)) := by
  cases hd : decL z with
  | none => exact (decLinks_no hz hn hc hm hd).mono fun e w' ⟨A, m, c, h1, h2⟩ => ⟨A, m, c, 4, h1, h2, .inl rfl⟩
  | some l => exact (decLinks_yes hz hn hc hm hd).mono fun e w' ⟨A, m, c, h1, h2, h3, h4⟩ => ⟨A, m, c, 0, h2, h4, .inr ⟨rfl, l, rfl, h1, h3⟩⟩

set_option maxRecDepth 100000 in
set_option maxHeartbeats 3200000 in
theorem wround_walk (A A3 : Option Addr) (n0 cp c3 : Nat) (b1 : List UInt8) (w : World) (hL : Lets w) (hnc : n0 ≤ cp) (hc : cp ≤ maxLen) (hN : Nums w w.heap.size A n0) (hb : Bys w w.heap.size A3 b1) (hbc : b1.length ≤ c3) (hcm : c3 ≤ maxLen) :
    Calls Tryd.prog 4 #[.slice A n0 cp, .slice A3 b1.length c3] w (LawP w) := by
  have HSA := Lib.hid sane_any
  have HB3 := Lib.hid hb
  obtain ⟨k1, hk1⟩ : ∃ k1, k1 = b1.length := ⟨_, rfl⟩
  rw [← hk1] at hbc ⊢
  have HK1 := Lib.hid hk1
  have HBC := Lib.hid (show k1 ≤ c3 ∧ c3 ≤ maxLen from ⟨hbc, hcm⟩)
  clear hb hbc hcm hk1
  go_enter Tryd.func4, Tryd.ntmps4
  go_wp2_with fail
  refine (new_any A n0 cp _ hnc hc hN).mono ?_
  rintro e w1 ⟨g, hg1, rfl, hTp, hb1⟩
  have hne2 : 0 ≠ g := by have := hL.lt; omega
  have l1' := hL.below hb1
  clear hN hnc hc hL
  go_wp2_with fail
  refine (roster_any 6 g w1 (by omega) (by omega) hTp l1' hne2).mono ?_
  rintro e w2 ⟨B2, d2, l, rfl, ho, hl6, _, hchk, hst⟩
  have hB2 : Below w.heap.size w w2 := hb1.grown hst.2 hb1.size (fun j e => by have := Option.some.inj e; omega)
  have hgw : g < w1.heap.size := hTp.lt
  have hA2 : ∀ b o, B2 = some ⟨b, o, none⟩ → b ≠ g := fun b o e => by
    have h1 := (ho.lt b (by rw [e]; rfl)).1
    omega
  obtain ⟨_, _, er, hnd⟩ := ho.read
  injection er with e1 _ e2
  subst e1 e2
  have hwd := chk_wide hchk
  have HOK := Lib.hid (okNs_of (by omega : l.length ≤ 64) (chk_key hchk))
  have HTH := Lib.hid (theight_any B2 l d2 g w2 hst.1 hnd (fun x hx => (hwd x hx).2))
  have HLK := Lib.hid (fun (W : World) (k : TStep w2 g W) (h : Int) (h16 : h ≤ 16) => tlinks_any B2 l d2 h 3 g W k.1 (nds_step hnd hA2 k) (by omega) hA2 hwd h16 (by omega))
  have HND := Lib.hid (fun (W : World) (k : TStep w2 g W) => nds_step hnd hA2 k)
  have HWD := Lib.hid hwd
  have HB2 := Lib.hid hB2
  have hg2 : g < w2.heap.size := hst.1.lt
  clear hst l1' hTp hb1 ho hchk hwd hB2 hnd hA2
  generalize hll : l.length = n at *
  have HLN := Lib.hid hll
  clear hll
  go_wp2_with fail
  refine (HTH.out).mono ?_
  rintro e w3 ⟨h, ⟨h0, h16⟩, rfl, hst3⟩
  have HT3 := Lib.hid hst3
  have HL1 := Lib.hid (HLK.out w3 hst3 h h16)
  have hg3 : g < w3.heap.size := Nat.lt_of_lt_of_le hg2 hst3.2.size
  clear hst3 HTH HLK
  go_wp2_with fail
  refine (HL1.out).mono ?_
  rintro e w4 ⟨v4, n4, rfl, hn4, ho4, hst4⟩
  have HT4 := Lib.hid (HT3.out.trans hst4)
  obtain ⟨A4, d4, ls, hv4, hm4, hr4, hw4⟩ := ho4.readB
  have hnl : NL w w4 g B2 l A4 ls := ⟨HB2.out.grown HT4.out.2 HB2.out.size (fun j e => by have := Option.some.inj e; omega), HT4.out.1, fun W k => HND.out W (HT4.out.trans k), fun W k => hr4 W (KpA.step hg3 k) k.2.size, HWD.out, hw4, by rw [HLN.out]; omega, by omega⟩
  obtain ⟨m, hmm⟩ : ∃ m, m = ls.length := ⟨_, rfl⟩
  have HMM := Lib.hid hmm
  have hm9 : m ≤ 1000 := by omega
  rw [← hmm] at hv4
  subst hv4
  have HNL := Lib.hid hnl
  have hE1 := hnl.enc d2
  have hsx := encL_small hnl.nw
  have hsy := encM_small hnl.lw
  have HZ1 : Hid (encL l = encNs l) := Lib.hid (by unfold encL; rw [HOK.out]; rfl)
  have hz2 : encE l = 0 := by unfold encE; rw [HOK.out]; rfl
  have HDX : Hid (decN (encNs l) = some l) := Lib.hid (decN_enc' HWD.out HOK.out)
  have HDY : Hid (okLds ls = true → encF ls = 0 ∧ decL (encM ls) = some ls) := Lib.hid fun h => ⟨by unfold encF; rw [h]; rfl, by unfold encM; rw [h]; exact decL_enc' hw4 h⟩
  have HFN : Hid (okLds ls = false → encF ls = 3) := Lib.hid fun h => by unfold encF; rw [h]; rfl
  rw [HZ1.out] at hsx hE1
  rw [hz2, HLN.out] at hE1
  have HE1 := Lib.hid hE1
  have HE2 := Lib.hid (fun (W : World) (h : NL w W g B2 l A4 ls) => h.encm d4)
  rw [← hmm] at HE2
  clear hmm ho4 hst4 hm4 hr4 hw4 hnl HL1 HT3 HWD HB2 HND hn4 hz2 hE1 HT4 HOK
  go_wp2_with fail
  refine (HE1.out).mono ?_
  rintro e w5 ⟨R1, r1, d1, rfl, ho1, hb1⟩
  obtain ⟨X, hX⟩ : ∃ X, X = w4.heap.size := ⟨_, rfl⟩
  rw [← hX] at ho1
  have hgX : g < X := by rw [hX]; exact HNL.out.tape.lt
  have hX5 : X ≤ w5.heap.size := by rw [hX]; exact hb1.size
  have HN5 := Lib.hid (HNL.out.on hg1 hb1)
  have HO1 := Lib.hid ho1
  clear ho1 hb1 HNL HE1 hX
  go_wp2_with fail
  refine (HE2.out _ HN5.out).mono ?_
  rintro e w6 ⟨R2, r2, d2', rfl, ho2, hb2⟩
  have HN6 := Lib.hid (HN5.out.on hg1 hb2)
  have hX6 : X ≤ w6.heap.size := Nat.le_trans hX5 hb2.size
  have HO2 := Lib.hid (ho2.less hX5)
  have ho1 := HO1.out.below hb2
  obtain ⟨_, _, er, hc1, hm1, hr1⟩ := ho1.read
  injection er with e1 e2 e3
  subst e1 e3
  have HD1 := Lib.hid (decNodes_yes hr1 e2 (by rw [e2]; exact hc1) hm1 HDX.out)
  have HO1' := Lib.hid ho1
  clear ho2 hb2 HN5 HE2 HO1 ho1 hc1 hm1 hr1 e2 HDX
  go_wp2_with fail
  refine (HD1.out).mono ?_
  rintro e w7 ⟨R7, r7, d7, hr7, rfl, hnd7, hb7⟩
  have HN7 := Lib.hid (HN6.out.on hg1 hb7)
  have hX7 : X ≤ w7.heap.size := Nat.le_trans hX6 hb7.size
  have HO1 := Lib.hid (HO1'.out.below hb7)
  have HO2' := Lib.hid (HO2.out.below hb7)
  have hsn := same_nodes R7 B2 l l d7 d2 w7 hnd7 (HN7.out.nds _ (TStep.refl HN7.out.tape)) (by have := HN7.out.nn; omega)
  rw [sameN_self, ← hr7] at hsn
  rw [HLN.out] at hr7
  subst hr7
  have HSN := Lib.hid hsn
  clear hb7 HN6 HO1' HO2 hsn hnd7 HD1
  go_wp2_with fail
  refine (HSN.out).mono ?_
  rintro e w8 ⟨rfl, hb8⟩
  have HN8 := Lib.hid (HN7.out.on hg1 hb8)
  have hX8 : X ≤ w8.heap.size := Nat.le_trans hX7 hb8.size
  have HO1' := Lib.hid (HO1.out.below hb8)
  have HO2 := Lib.hid (HO2'.out.below hb8)
  clear hb8 HN7 HO1 HO2' HSN
  generalize encNs l = L1 at *
  go_upto_if 62 with fail
  go_cut [] (fun wx => NL w wx g B2 l A4 ls ∧ OwnB wx X (.slice R1 r1 d1) L1 ∧ OwnB wx X (.slice R2 r2 d2') (encM ls))
  case first =>
    cases hok : okLds ls with
    | false =>
      have hF := HFN.out hok
      generalize encF ls = F at *
      subst hF
      clear hok HDY HFN
      go_wp2_with fail
      go_meet
      exact ⟨HN8.out, HO1'.out, HO2.out⟩
    | true =>
      obtain ⟨hF, hdl⟩ := HDY.out hok
      generalize encF ls = F at *
      subst hF
      have ho2 := HO2.out
      obtain ⟨_, _, er, hc1, hm1, hr1⟩ := ho2.read
      injection er with e1 e2 e3
      subst e1 e3
      have HD1 := Lib.hid (decLinks_yes hr1 e2 (by rw [e2]; exact hc1) hm1 hdl)
      clear hok HDY HFN hdl ho2 hc1 hm1 hr1 e2
      go_wp2_with fail
      refine (HD1.out).mono ?_
      rintro e w9 ⟨R9, r9, d9, hr9, rfl, hld9, hb9⟩
      have HN9 := Lib.hid (HN8.out.on hg1 hb9)
      have HO1 := Lib.hid (HO1'.out.below hb9)
      have HO2' := Lib.hid (HO2.out.below hb9)
      have hsn := rsame6_any R9 A4 ls ls d9 d4 w9 hld9 (HN9.out.lds _ (TStep.refl HN9.out.tape)) (by have := HN9.out.ln; omega)
      rw [decide_eq_true (rfl : ls = ls), ← HMM.out] at hsn
      rw [← HMM.out] at hr9
      subst hr9
      have HSN := Lib.hid hsn
      clear hb9 HN8 HO1' HO2 hsn hld9 HD1
      go_wp2_with fail
      refine (HSN.out).mono ?_
      rintro e wa ⟨rfl, hba⟩
      have HNA := Lib.hid (HN9.out.on hg1 hba)
      have HO1' := Lib.hid (HO1.out.below hba)
      have HO2 := Lib.hid (HO2'.out.below hba)
      clear hba HN9 HO1 HO2' HSN
      go_wp2_with fail
      go_meet
      exact ⟨HNA.out, HO1'.out, HO2.out⟩
  case rest =>
    clear HN8 HO1' HO2 HDY HFN hX5 hX6 hX7 hX8
    obtain ⟨hnl, ho1, ho2⟩ := hcut
    have HNL := Lib.hid hnl
    have HO2 := Lib.hid ho2
    have HG1 := Lib.hid (damage_own hnl.tape ho1 hsx)
    clear hnl ho1 ho2
    generalize encM ls = L2 at *
    go_wp2_with fail
    refine (HG1.out).mono ?_
    rintro e wb ⟨vb, lb, rfl, hob, hlb, hstb⟩
    obtain ⟨Rb, rb, db, hvb⟩ := hob.shape3
    subst hvb
    have HNB := Lib.hid (HNL.out.step hg1 hstb)
    have hgc : g < wc.heap.size := HNL.out.tape.lt
    have HOB := Lib.hid hob
    have HO2' := Lib.hid (HO2.out.step hgX hstb)
    have HG2 := Lib.hid (damage_own HNB.out.tape HO2'.out hsy)
    clear hob hstb hlb HNL HO2 HG1
    go_wp2_with fail
    refine (HG2.out).mono ?_
    rintro e we ⟨ve, le, rfl, hoe, hle, hste⟩
    obtain ⟨Re, re, de, hve⟩ := hoe.shape3
    subst hve
    have HNE := Lib.hid (HNB.out.step hg1 hste)
    have hob := HOB.out.step hgc hste
    have hzb := HNE.out.below
    have hbz := (Below.refl we.heap.size we).alloc (Nat.le_refl _) (.cells #[.slice Rb rb db, .slice Re re de, .slice A3 k1 c3] 25)
    have hHz := Has.new we 25 #[.slice Rb rb db, .slice Re re de, .slice A3 k1 c3]
    have hZlt := hHz.lt
    obtain ⟨Z, hZ⟩ : ∃ Z, Z = we.heap.size := ⟨_, rfl⟩
    have HR0 : Hid (RowZ (we.alloc (.cells #[.slice Rb rb db, .slice Re re de, .slice A3 k1 c3] 25)) Z 0) := Lib.hid (rowZ_own (hob.below hbz) (by rw [hZ]; exact hZlt) (by rw [hZ]; exact hHz.cell 0))
    have HR1 : Hid (RowZ (we.alloc (.cells #[.slice Rb rb db, .slice Re re de, .slice A3 k1 c3] 25)) Z 1) := Lib.hid (rowZ_own (hoe.below hbz) (by rw [hZ]; exact hZlt) (by rw [hZ]; exact hHz.cell 1))
    have hBz := hzb.trans (hbz.mono hzb.size)
    have HR2 : Hid (RowZ (we.alloc (.cells #[.slice Rb rb db, .slice Re re de, .slice A3 k1 c3] 25)) Z 2) := Lib.hid ⟨A3, k1, c3, b1, HK1.out, HBC.out.1, HBC.out.2, fun W k => ⟨(k.cell (p := ⟨Z, 2, none⟩) (by rw [hZ]; exact hZlt)).trans (by rw [hZ]; exact hHz.cell 2), by
      have B := hBz.trans (k.mono hBz.size)
      exact (HB3.out.below B).more B.size⟩⟩
    have HBZ := Lib.hid hBz
    clear hste hoe hle HNB HO2' HOB HG2 hob hzb hbz hHz hZlt hBz HNE
    have HZE := Lib.hid hZ
    clear hZ
    go_upto_region 16 with fail
    generalize we.alloc (.cells #[.slice Rb rb db, .slice Re re de, .slice A3 k1 c3] 25) = wz at *
    rw [← HZE.out]
    clear HZE HB3 HK1 HBC
    go_loopw [85] (fun vi wr => ∃ i : Nat, vi = .int .i64 (i : Int) ∧ i ≤ 3 ∧ Below wz.heap.size wz wr) (fun vi _ => 3 - (intOf vi).toNat)
    case atStart => exact ⟨0, rfl, by omega, Below.refl _ _⟩
    case round =>
      obtain ⟨i, rfl, hi3, hB⟩ := hrel
      by_cases hlt : i < 3
      · have hrow : RowZ wz Z i := by
          have h3 : i = 0 ∨ i = 1 ∨ i = 2 := by omega
          rcases h3 with rfl | rfl | rfl
          · exact HR0.out
          · exact HR1.out
          · exact HR2.out
        obtain ⟨Az, nz, cz, z, hnz, hcz, hmz, hz⟩ := hrow
        obtain ⟨hcell, hbz⟩ := hz wr hB
        have i0 : (0 : Int) ≤ (i : Int) := by omega
        have i1 : (i : Int) < 3 := by omega
        have HDN := Lib.hid (decNodes_either hbz hnz hcz hmz)
        have HZ := Lib.hid (fun (W : World) (k : Below wz.heap.size wz W) => (hz W k).2)
        have HDL := Lib.hid (fun (W : World) (k : Below wz.heap.size wz W) => decLinks_either (hz W k).2 hnz hcz hmz)
        have HST := Lib.hid (fun (W : World) (k : Below wz.heap.size wz W) => str_bys (n := nz) (c := cz) (hz W k).2 hnz)
        have HB := Lib.hid hB
        clear hz hbz hnz hcz hmz hB HR0 HR1 HR2 HBZ HSA
        go_wp2_with fail
        refine (HDN.out).mono ?_
        rintro e w9 ⟨A9, m9, c9, E9, rfl, hb9, hE9⟩
        have HB9 := Lib.hid (HB.out.trans (hb9.mono HB.out.size))
        have HE9 := Lib.hid hE9
        clear hb9 hE9 HDN HB hcell
        go_upto_if 95 with fail
        go_cut [] (fun wx => Below wz.heap.size wz wx)
        case first =>
          rcases HE9.out with h4 | ⟨h4, l9, hd9, hm9, hr9⟩
          · subst h4
            clear HE9
            go_wp2_with fail
            go_meet
            exact HB9.out
          · subst h4
            have HEN := Lib.hid (encNodes_back (c := c9) hd9 hm9 hr9)
            clear HE9 hd9 hm9 hr9
            go_wp2_with fail
            refine (HEN.out).mono ?_
            rintro e wa ⟨Aa, na, ca, rfl, hoa, hba⟩
            have BA := HB9.out.trans (hba.mono HB9.out.size)
            have hs1 := str_own hoa
            have hs2 := HST.out wa BA
            have HBA := Lib.hid BA
            generalize (⟨z.toArray⟩ : ByteArray) = S1 at *
            clear hoa hba BA HEN HB9 HST HDL HZ
            go_wp2_with fail
            go_meet
            exact HBA.out
        case rest =>
          clear HE9 HB9
          have HBC := Lib.hid hcut
          have HDL1 := Lib.hid (HDL.out _ hcut)
          clear hcut HDL
          go_wp2_with fail
          refine (HDL1.out).mono ?_
          rintro e wb' ⟨A9', m9', c9', E9', rfl, hb9, hE9⟩
          have HB9 := Lib.hid (HBC.out.trans (hb9.mono HBC.out.size))
          have HE9 := Lib.hid hE9
          clear hb9 hE9 HDL1 HBC
          rcases HE9.out with h4 | ⟨h4, l9, hd9, hm9, hr9⟩
          · subst h4
            clear HE9
            go_wp2_with fail
            exact ⟨⟨i + 1, by go_num, hlt, HB9.out⟩, by simp [intOf]; omega⟩
          · subst h4
            have HEN := Lib.hid (encLinks_back (c := c9') hd9 hm9 hr9)
            clear HE9 hd9 hm9 hr9
            go_wp2_with fail
            refine (HEN.out).mono ?_
            rintro e wa ⟨Aa, na, ca, rfl, hoa, hba⟩
            have BA := HB9.out.trans (hba.mono HB9.out.size)
            have hs1 := str_own hoa
            have hs2 := HST.out wa BA
            have HBA := Lib.hid BA
            generalize (⟨z.toArray⟩ : ByteArray) = S1 at *
            clear hoa hba BA HEN HB9 HST HZ
            go_wp2_with fail
            exact ⟨⟨i + 1, by go_num, hlt, HBA.out⟩, by simp [intOf]; omega⟩
      · have hi : i = 3 := by omega
        subst hi
        have B9 := Lib.hid (HBZ.out.trans (hB.mono HBZ.out.size))
        clear hB
        go_wp2_with fail
        refine (HSA.out _).mono ?_
        rintro e wa ⟨rfl, hba⟩
        go_wp2_with fail
        go_ret
        exact ⟨rfl, B9.out.trans (hba.mono B9.out.size)⟩
end Go.Proofs.YtmhimkojegkalaaDoor
