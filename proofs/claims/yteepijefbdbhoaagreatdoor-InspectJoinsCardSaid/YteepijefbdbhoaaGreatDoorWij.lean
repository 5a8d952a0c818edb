/-
  The walk of InspectJoins: from whatever numbers it answers true and only makes memory. Conditions: the arguments can be read; 'letters' and the table of trailing zeros are as their initialisers lay them.
-/
import Derived.Test.YteepijefbdbhoaaGreatDoorKpM
import Derived.Test.YteepijefbdbhoaaGreatDoorLnC
import Derived.Test.YteepijefbdbhoaaGreatDoorLgJ
import Derived.Test.YteepijefbdbhoaaGreatDoorKqJ
namespace Go.Proofs.YteepijefbdbhoaaGreatDoor
open Go.RowKit

set_option maxRecDepth 100000 in
set_option maxHeartbeats 3200000 in
theorem ijoins_walk (A : Option Addr) (n0 cp : Nat) (w : World) (hL : Lets w) (hT : Deb w) (hnc : n0 ≤ cp) (hc : cp ≤ maxLen) (hN : Nums w w.heap.size A n0) :
    Calls Tryz.prog 7 #[.slice A n0 cp] w (LawP w) := by
  have HSA := Lib.hid sane7_any
  have HDB := Lib.hid hT
  go_enter Tryz.func7, Tryz.ntmps7
  go_wp2_with fail
  refine (new_any A n0 cp _ hnc hc hN).mono ?_
  rintro e w1 ⟨g, hg1, rfl, hTp, hb1⟩
  have hne2 : 0 ≠ g := by have := hL.lt; omega
  have HNE3 : Hid (1 ≠ g) := Lib.hid (by have := hT.lt; omega)
  have l1 := hL.below hb1
  clear hN hnc hc hL hT
  go_wp2_with fail
  refine (some_any 7 g w1 (by omega) (by omega) hTp l1 hne2).mono ?_
  rintro e w2 ⟨A2, c2, l, rfl, ho, hl0, hl8, hchk, hst⟩
  have hB2 : Below w.heap.size w w2 := hb1.grown hst.2 hb1.size (fun j e => by have := Option.some.inj e; omega)
  have hgw : g < w1.heap.size := hTp.lt
  obtain ⟨_, _, er, hnd⟩ := ho.read
  injection er with e1 e3 e2
  clear e3
  subst e1 e2
  have hA2 : ∀ b o, A2 = some ⟨b, o, none⟩ → b ≠ g := fun b o e => by
    have := (ho.lt b (by rw [e]; rfl)).1
    omega
  have hwide : ∀ x ∈ l, x.wide := wide_of hchk
  have HB2 := Lib.hid hB2
  have HST := Lib.hid hst
  clear l1 hTp hb1 ho hst hB2
  go_wp2_with fail
  refine (next_any g 4 w2 HST.out.1 (by omega)).mono ?_
  rintro e w3 ⟨r, r0, r1, rfl, hst3⟩
  obtain ⟨m, rfl⟩ : ∃ m : Nat, r = (m : Int) := ⟨r.toNat, by omega⟩
  have hm : m ≤ 3 := by omega
  have HB3 := Lib.hid (HB2.out.grown hst3.2 HB2.out.size (fun j e => by have := Option.some.inj e; omega))
  have hnd3 := nds_step hnd hA2 hst3
  have HLK := Lib.hid (tlinks_any A2 l c2 (m : Int) 5 g w3 hst3.1 hnd3 (by omega) hA2 hwide (by omega) (by omega))
  have HND3 := Lib.hid hnd3
  have HG3 := Lib.hid (show g < w3.heap.size from by have := hst3.2.size; have := HST.out.2.size; omega)
  have HG1 := Lib.hid (show w.heap.size ≤ g from hg1)
  obtain ⟨LN, hLN⟩ : ∃ LN, LN = l.length := ⟨_, rfl⟩
  have HLN := Lib.hid hLN
  rw [← hLN] at HLK hl8 ⊢
  clear r0 r1 hst3 hnd3 hnd HST HB2 hLN
  go_wp2_with fail
  refine (HLK.out).mono ?_
  rintro e w4 ⟨v4, n4, rfl, hn4, ho4, hst4⟩
  obtain ⟨ks, hrd4, hks, hw4⟩ := ho4.toRd
  have HB4 := Lib.hid (HB3.out.grown hst4.2 HB3.out.size (fun j e => by have := Option.some.inj e; omega))
  have hnd4 := nds_step HND3.out hA2 hst4
  have hkn : ks.length ≤ 1000 := by omega
  have hD4 := HDB.out.below HB4.out
  have hwl : ∀ x ∈ l, x.word < 4294967296 := fun x hx => (hwide x hx).2
  have HT4 := Lib.hid hst4.1
  have HCN : Hid (∀ (W : World) (k : TStep w4 g W) (A5 : Option Addr) (c5 : Nat) (k5 : List Ld), Lds W W.heap.size A5 k5 → k5.length = ks.length → (∀ x ∈ k5, I64 x.id ∧ ∀ y ∈ x.levels, LkW y) → Calls Tryz.prog 28 #[.slice A2 LN c2, .slice A5 ks.length c5] W (BoolN (conV l k5) W)) := Lib.hid fun W k A5 c5 k5 h5 e5 w5 => by
    have := iconn_any A2 A5 l k5 c2 c5 W (nds_step hnd4 hA2 k) h5 (fun x hx => (w5 x hx).1) (by rw [e5]; unfold maxLen; omega) (fun x hx y hy => (w5 x hx).2 y hy) hwl
    rwa [← HLN.out, e5] at this
  have HCO : Hid (∀ (W : World) (k : TStep w4 g W) (A5 : Option Addr) (c5 : Nat) (h : Int), Lds W W.heap.size A5 ks → Calls Tryz.prog 24 #[.slice A2 LN c2, .slice A5 ks.length c5, .int .i64 h] W (LstP (cmpV l ks h) W)) := Lib.hid fun W k A5 c5 h h5 => by
    have := icomps_any A2 A5 l ks c2 c5 h W (nds_step hnd4 hA2 k) h5 (fun x hx => (hw4 x hx).1) (by unfold maxLen; omega) (fun x hx y hy => (hw4 x hx).2.2 y hy) hwl
    rwa [← HLN.out] at this
  have HID := Lib.hid (fun (W : World) (k : TStep w4 g W) => idr_any A2 l c2 g W k.1 (nds_step hnd4 hA2 k) (by have := HLN.out; omega) hA2 hwide)
  rw [← HLN.out] at HID
  have HRD : Hid (∀ W, TStep w4 g W → RdE W w3.heap.size w3.heap.size w4.heap.size v4 ks) := Lib.hid fun W k => hrd4.keep (KpA.step HG3.out k) (Nat.le_refl _)
  have HW4 : Hid (∀ x ∈ ks, I64 x.id ∧ ∀ y ∈ x.levels, LkW y) := Lib.hid fun x hx => ⟨(hw4 x hx).1, (hw4 x hx).2.2⟩
  have HLL : Hid (∀ x ∈ ks, x.levels.length ≤ 22) := Lib.hid fun x hx => (hw4 x hx).2.1
  have HLV : Hid ((cmpV l ks 0).length ≤ 1 → conV l ks = true) := Lib.hid (con_level hchk (by decide))
  have HPS : Hid (1 ≤ (cmpV l ks (m : Int)).length) := Lib.hid (cmp_pos hchk (by simp [lvB]; omega) hl0)
  have HMO : Hid (∀ (i : Nat) (hi : i < ks.length) (y : Lk), conV l ks = true → conV l (ks.set i ⟨ks[i].id, ks[i].levels ++ [y]⟩) = true) := Lib.hid fun i hi y h => con_more hchk (fun x _ t _ => at_more ks i hi y x.id t) h
  have HS4 := Lib.hid (hst4.2.size)
  obtain ⟨A4, c4, hv4, _⟩ := hrd4.read
  have HR4 : Hid (∀ W, TStep w4 g W → Lds W W.heap.size A4 ks) := Lib.hid fun W k => by
    obtain ⟨A5, c5, e5, h5⟩ := (HRD.out W k).read
    rw [hv4] at e5
    injection e5 with e6
    rw [e6]
    exact h5
  have HTL : Hid (∀ W, TStep w4 g W → Calls Tryz.prog 16 #[] W (LawP W)) := Lib.hid fun W k => HSA.out W (hD4.step HNE3.out k)
  have HFIN : Hid (∀ W, TStep w4 g W → Below w.heap.size w W) := Lib.hid fun W k => HB4.out.grown k.2 HB4.out.size (fun j e => by have := Option.some.inj e; have := HG1.out; omega)
  obtain ⟨kn, hkk⟩ : ∃ kn, kn = ks.length := ⟨_, rfl⟩
  have HKN := Lib.hid hkk
  rw [hv4, ← hkk]
  rw [← hkk] at HCN HCO hkn
  have HV4 := Lib.hid hv4
  clear hrd4 hks hw4 hnd4 hD4 hwl hst4 ho4 hv4 hkk hchk hwide hA2 HND3 HLK HB3 HB4 HNE3
  go_wp2_with fail
  refine (HCO.out w4 (TStep.refl HT4.out) A4 c4 0 (HR4.out w4 (TStep.refl HT4.out))).mono ?_
  rintro e w5 ⟨A5, c5, rfl, _, hb5⟩
  have HB5 := Lib.hid ((TStep.refl HT4.out).below hb5)
  obtain ⟨p5, hp5⟩ : ∃ p, p = (cmpV l ks 0).length := ⟨_, rfl⟩
  rw [← hp5] at HLV ⊢
  clear hb5 hp5
  go_wp2_with fail
  refine (HCN.out w5 HB5.out A4 c4 ks (HR4.out w5 HB5.out) HKN.out.symm HW4.out).mono ?_
  rintro e w6 ⟨rfl, hb6⟩
  have HB6 := Lib.hid (HB5.out.below hb6)
  have HON : Hid (((p5 : Int) == 1) = true → conV l ks = true) := Lib.hid fun h => HLV.out (by simp at h; omega)
  generalize ((p5 : Int) == 1) = ONE at *
  clear hb6 HLV HB5
  obtain ⟨inp, hip, hip1, hip2, hip3⟩ := infoP_parts
  have HRC : Hid (RdE w6 w3.heap.size w3.heap.size w4.heap.size (.slice A4 kn c4) ks) := Lib.hid (by rw [HKN.out, ← HV4.out]; exact HRD.out w6 HB6.out)
  have HKM : Hid (ks.length ≤ 1000000) := Lib.hid (by have := HKN.out; omega)
  go_upto_if 34 with (at_builtin; go_loud (refine wpList_copyE rfl _ _ 24 rfl inp Tryz.underlying24 hip hip1 hip2 hip3 w6 HRC.out HKM.out (by simp [Act.eval]) (by simp [Act.eval]) ?_); intro v7 w7 hr7 hb7; obtain ⟨A7, c7, hv7, hl7⟩ := hr7.read; rw [← HKN.out] at hv7; subst hv7; have HR7 := Lib.hid hr7; have HL7 := Lib.hid hl7; have HB7 := Lib.hid (HB6.out.below hb7); have HS7 := Lib.hid hb7.size; clear hr7 hl7 hb7)
  go_cut [9] (fun v9 wx => ∃ (A9 : Option Addr) (c9 : Nat) (k9 : List Ld), v9 = .slice A9 kn c9 ∧ k9.length = kn ∧ TStep w4 g wx ∧ Hid (Lds wx wx.heap.size A9 k9) ∧ Hid (∀ x ∈ k9, I64 x.id ∧ ∀ y ∈ x.levels, LkW y) ∧ Hid (conV l ks = true → conV l k9 = true))
  case first =>
    clear hip hip1 hip2 hip3
    by_cases hk0 : 0 < kn
    · have hk0z : (0 : Int) < (kn : Int) := by omega
      clear HCO HCN HRC HTL HFIN HR4 HON HPS HDB HSA
      go_wp2_with fail
      refine (next_any g kn _ HB7.out.1 (by omega)).mono ?_
      rintro e w8 ⟨r, r0, r1, rfl, hst8⟩
      obtain ⟨i, rfl⟩ := Int.eq_ofNat_of_zero_le r0
      have hi : i < kn := by omega
      have hr8 := HR7.out.keep (KpA.step HG3.out hst8) (by have := HS4.out; have := HB6.out.2.size; omega)
      have hst48 := HB7.out.trans hst8
      clear r0 r1 hst8 HR7 HL7 HB7
      have hi2 : i < ks.length := by rw [← HKN.out]; exact hi
      have hXw : w3.heap.size ≤ w6.heap.size := by have := HS4.out; have := HB6.out.2.size; omega
      obtain ⟨G, cap, A', c', ev, hG1, hG2, hcell, hown, hfz, hput⟩ := hr8.put hXw hi2
      rw [← HKN.out] at ev
      injection ev with e1 _ e2
      subst e1 e2
      have HMO2 := Lib.hid (fun (y : Lk) => HMO.out i hi2 y)
      have HLI : Hid (ks[i].levels.length ≤ 22 ∧ I64 ks[i].id ∧ ∀ y ∈ ks[i].levels, LkW y) := Lib.hid ⟨HLL.out _ (List.getElem_mem hi2), HW4.out _ (List.getElem_mem hi2)⟩
      have HPUT := Lib.hid hput
      have HOWN := Lib.hid hown
      have HFZ := Lib.hid hfz
      clear hput hown hfz hr8 HMO HLL
      generalize ks[i] = y at *
      obtain ⟨yi, ys⟩ := y
      simp only at hcell HMO2 HLI HPUT HOWN
      obtain ⟨p, hp⟩ : ∃ p, p = ys.length := ⟨_, rfl⟩
      have HP := Lib.hid hp
      rw [← hp] at hcell HOWN
      have HCE := Lib.hid hcell
      have hG2' : G < w8.heap.size := hG2
      have HYS : Hid (Lks w8 w8.heap.size A' ys) := Lib.hid (by
        obtain ⟨A5, c5, e5, _, _, h5⟩ := HOWN.out.readB
        rw [hp] at e5
        injection e5 with e6
        rw [e6]; exact h5)
      have HPM : Hid (ys.length ≤ 1000000) := Lib.hid (by have := HLI.out.1; omega)
      obtain ⟨inf, hif, hif1, hif2, hif3⟩ := infoK_parts
      have i0 : (0 : Int) ≤ (i : Int) := by omega
      have i1 : (i : Int) < (kn : Int) := by omega
      have HST8 := Lib.hid hst48
      clear hp hi2 hst48 HRD
      have hGg : G ≠ g := by have := HG3.out; omega
      have hg8 : g < w8.heap.size := by have := HG3.out; omega
      have HG8 := Lib.hid hg8
      have HTP8 := Lib.hid HST8.out.1
      have HCL : Hid (∀ W, TStep w8 g W → W.cell? ⟨G, i * 2 + 1, none⟩ = some (.slice A' p c') ∧ W.frozen? ⟨G, i * 2 + 1, none⟩ = false) := Lib.hid fun W h => ⟨(h.keeps.1 _ _ hG2' hGg).trans HCE.out, (h.keeps.2.1 _ _ hG2' hGg).trans (HFZ.out _)⟩
      clear HG8
      go_wp2_with (at_builtin; go_loud (refine wpList_copyK2 rfl (.tmp 41) _ 44 rfl inf Tryz.underlying44 hif hif1 hif2 hif3 w8 A' ys c' HYS.out HPM.out (by simp [Act.eval]) (by simp [Act.eval, HP.out]) ?_); intro v9 w9 hu9 hb9; have HU9 := Lib.hid hu9; have HB9 := Lib.hid hb9; clear hu9 hb9)
      have hs9 : TStep w8 g w9 := (TStep.refl HTP8.out).below HB9.out
      have HS9 := Lib.hid hs9
      clear hs9 HB9
      refine (HID.out w9 (HST8.out.trans HS9.out)).mono ?_
      rintro e wa ⟨d1, hd1, rfl, hsta⟩
      have HUA : Hid (OwnK wa w8.heap.size v9 ys) := Lib.hid (HU9.out.keep (KpA.step hg8 hsta))
      have HSA := Lib.hid (HS9.out.trans hsta)
      have HD1 := Lib.hid hd1
      clear hsta HU9 HS9 hd1
      go_wp2_with fail
      refine (HID.out wa (HST8.out.trans HSA.out)).mono ?_
      rintro e wb ⟨d2, hd2, rfl, hstb⟩
      have HUB : Hid (OwnK wb w8.heap.size v9 ys) := Lib.hid (HUA.out.keep (KpA.step hg8 hstb))
      have HSB := Lib.hid (HSA.out.trans hstb)
      have HD2 := Lib.hid hd2
      clear hstb HUA HSA hd2
      have HYL : Hid (ys.length < 1000000) := Lib.hid (by have := HLI.out.1; omega)
      go_wp2_with (at_builtin; go_loud (refine wpList_pushK rfl (.tmp 47) _ 44 rfl w8.heap.size inf Tryz.underlying44 hif hif1 hif2 hif3 v9 ys wb ⟨d1, d2⟩ (by simp [Act.eval]) HUB.out (by simp [Act.eval]) HYL.out HSB.out.2.size ?_); intro vc wx huc hgc hatc; obtain ⟨lw, hlw⟩ : ∃ lw, lw = ys ++ [(⟨d1, d2⟩ : Lk)] := ⟨_, rfl⟩; rw [← hlw] at huc; have HLW := Lib.hid hlw; obtain ⟨A8, c8, hv8⟩ := huc.shape; obtain ⟨p8, hp8⟩ : ∃ p8, p8 = lw.length := ⟨_, rfl⟩; rw [← hp8] at hv8; clear hlw hp8; subst hv8; have HUC := Lib.hid huc; have hbc : Below w8.heap.size wb wx := grownBy_row hgc HSB.out.2.size (fun j e => (HUB.out.lt j e).1); have HSC := Lib.hid (HSB.out.below_base hg8 hbc); clear huc hgc hatc hbc; obtain ⟨cx1, cx2⟩ := HCL.out wx HSC.out)
      all_goals
        go_meet
        obtain ⟨Z, hz⟩ := HPUT.out wx (KpA.step HG3.out HSC.out) _ lw HUC.out
        obtain ⟨A9, c9, e9, hl9⟩ := hz.read
        rw [List.length_set, ← HKN.out] at e9
        injection e9 with e9 _ _
        subst e9
        refine ⟨_, c7, ks.set i ⟨yi, lw⟩, rfl, by rw [List.length_set, HKN.out], (HST8.out.trans HSC.out).set (p := ⟨G, i * 2 + 1, none⟩) (by show w4.heap.size ≤ G; have := HB6.out.2.size; omega) (by have := HG3.out; have := HS4.out; omega) _, Lib.hid hl9, Lib.hid fun x hx => ?_, Lib.hid (by rw [HLW.out]; exact HMO2.out _)⟩
        rcases List.mem_or_eq_of_mem_set hx with hx | rfl
        · exact HW4.out x hx
        · refine ⟨HLI.out.2.1, fun y hy => ?_⟩
          simp only [HLW.out] at hy
          rcases List.mem_append.1 hy with hy | hy
          · exact HLI.out.2.2 y hy
          · simp at hy; subst hy; exact ⟨HD1.out, HD2.out⟩
    · have hk0z : ¬ (0 : Int) < (kn : Int) := by omega
      go_wp2_with fail
      go_meet
      exact ⟨A7, c7, ks, rfl, HKN.out.symm, HB7.out, HL7, HW4, Lib.hid id⟩
  case rest =>
    obtain ⟨A9, c9, k9, rfl, hk9, hst9, HL9, HW9, HC9⟩ := hcut
    clear HRC HL7 HR7 HB7 HB6 HS7 HID
    have HR9 := Lib.hid (HR4.out wc hst9)
    have HCX := Lib.hid (HCN.out wc hst9 A9 c9 k9 HL9.out hk9 HW9.out)
    have HS9 := Lib.hid hst9
    have HCM := Lib.hid (fun (W : World) (k : TStep w4 g W) => HCO.out W k A4 c4 (m : Int) (HR4.out W k))
    obtain ⟨p6, hp6⟩ : ∃ p, p = (cmpV l ks (m : Int)).length := ⟨_, rfl⟩
    have HP6 := Lib.hid hp6
    rw [← hp6] at HPS
    have hps : (1 : Int) ≤ (p6 : Int) := by have := HPS.out; omega
    clear HCN HCO HR9 hst9 HL9 HW9 HR4 hp6 HMO HRD HLL
    generalize conV l ks = CV at *
    cases CV
    · have ho : ONE = false := by
        cases ONE
        · rfl
        · cases HON.out rfl
      subst ho
      clear HON HC9 HCX
      go_wp2_with fail
      refine (HCM.out wc HS9.out).mono ?_
      rintro e wd ⟨Ad, cd, rfl, _, hbd⟩
      have HSD := Lib.hid (HS9.out.below hbd)
      rw [← HP6.out]
      clear hbd
      go_wp2_with fail
      refine (HTL.out wd HSD.out).mono ?_
      rintro e we ⟨rfl, hbe⟩
      have HBE := Lib.hid ((HFIN.out wd HSD.out).trans (hbe.mono (HFIN.out wd HSD.out).size))
      clear hbe
      go_wp2_with fail
      go_ret
      exact ⟨rfl, HBE.out⟩
    · rw [HC9.out rfl] at HCX
      clear HON HC9
      cases ONE
      all_goals
        go_wp2_with fail
        refine (HCX.out).mono ?_
        rintro e wx ⟨rfl, hbx⟩
        have HSX := Lib.hid (HS9.out.below hbx)
        clear hbx
        go_wp2_with fail
        refine (HCM.out wx HSX.out).mono ?_
        rintro e wd ⟨Ad, cd, rfl, _, hbd⟩
        have HSD := Lib.hid (HSX.out.below hbd)
        rw [← HP6.out]
        clear hbd
        go_wp2_with fail
        refine (HTL.out wd HSD.out).mono ?_
        rintro e we ⟨rfl, hbe⟩
        have HBE := Lib.hid ((HFIN.out wd HSD.out).trans (hbe.mono (HFIN.out wd HSD.out).size))
        clear hbe
        go_wp2_with fail
        go_ret
        exact ⟨rfl, HBE.out⟩
end Go.Proofs.YteepijefbdbhoaaGreatDoor
