/-
  The walk of InspectClean: from whatever numbers it answers true and only makes memory. Conditions: the arguments can be read; 'letters' and the table of trailing zeros are as their initialisers lay them.
-/
import Derived.Test.YteepijefbdbhoaaGreatDoorKpM
import Derived.Test.YteepijefbdbhoaaGreatDoorLnC
import Derived.Test.YteepijefbdbhoaaGreatDoorLgJ
namespace Go.Proofs.YteepijefbdbhoaaGreatDoor
open Go.RowKit

theorem clean_plain {l : List Nd} {k : List Ld} (hc : chkV l = 0) {m : Nat} (hm : m ≤ 16) : decide ((chkD l k (m + 1)).length = 0) = decide (nrmV l k (m + 1) = bldV l (m + 1)) ∧ (exaB l k (m : Int) = true → nrmV l k (m + 1) = bldV l (m + 1) ∧ nrmV l k (m + 1) = k) ∧ exaB l (bldV l (m + 1)) (m : Int) = true := by
  have hlv : lvB (m : Int) = true := by simp [lvB]; omega
  have e : bldE l (m : Int) = 0 := by unfold bldE; rw [if_pos hc, if_pos hlv]
  have e2 : ((m : Int) + 1).toNat = m + 1 := by omega
  refine ⟨?_, fun h => ?_, ?_⟩
  · have h1 := chkD_nil (k := k) hc (n := m + 1) (by omega)
    by_cases h : nrmV l k (m + 1) = bldV l (m + 1)
    · rw [decide_eq_true h, h1.2 h]; rfl
    · rw [decide_eq_false h]
      have h2 := mt h1.1 h
      exact decide_eq_false fun e => h2 (List.eq_nil_of_length_eq_zero e)
  · unfold exaB at h
    rw [e2] at h
    simp [e] at h
    subst h
    have := nrm_bld hc (n := m + 1) (by omega)
    exact ⟨this, this⟩
  · unfold exaB
    rw [e2]
    simp [e]
set_option maxRecDepth 100000 in
set_option maxHeartbeats 3200000 in
theorem clean_walk (A : Option Addr) (n0 cp : Nat) (w : World) (hL : Lets w) (hT : Deb w) (hnc : n0 ≤ cp) (hc : cp ≤ maxLen) (hN : Nums w w.heap.size A n0) :
    Calls Tryz.prog 4 #[.slice A n0 cp] w (LawP w) := by
  have HSA := Lib.hid sane7_any
  have HDB := Lib.hid hT
  go_enter Tryz.func4, Tryz.ntmps4
  go_wp2_with fail
  refine (new_any A n0 cp _ hnc hc hN).mono ?_
  rintro e w1 ⟨g, hg1, rfl, hTp, hb1⟩
  have hne2 : 0 ≠ g := by have := hL.lt; omega
  have l1 := hL.below hb1
  clear hN hnc hc hL
  go_wp2_with fail
  refine (roster_any 7 g w1 (by omega) (by omega) hTp l1 hne2).mono ?_
  rintro e w2 ⟨A2, c2, l, rfl, ho, hl8, hwd, hchk, hst⟩
  have hB2 : Below w.heap.size w w2 := hb1.grown hst.2 hb1.size (fun j e => by have := Option.some.inj e; omega)
  have hgw : g < w1.heap.size := hTp.lt
  obtain ⟨_, _, er, hnd⟩ := ho.read
  injection er with e1 e3 e2
  clear e3
  subst e1 e2
  have hA2 : ∀ b o, A2 = some ⟨b, o, none⟩ → b ≠ g := fun b o e => by
    have := (ho.lt b (by rw [e]; rfl)).1
    omega
  have hwide : ∀ x ∈ l, x.wide := wide_of hchk
  have hln : l.length ≤ 64 := (chkV_zero.1 hchk).1
  have HB2 := Lib.hid hB2
  have HST := Lib.hid hst
  clear l1 hTp hb1 ho hl8 hwd hst hB2
  go_wp2_with fail
  refine (next_any g 4 w2 HST.out.1 (by omega)).mono ?_
  rintro e w3 ⟨r, r0, r1, rfl, hst3⟩
  obtain ⟨m, rfl⟩ : ∃ m : Nat, r = (m : Int) := ⟨r.toNat, by omega⟩
  have hm : m ≤ 3 := by omega
  have HB3 := Lib.hid (HB2.out.grown hst3.2 HB2.out.size (fun j e => by have := Option.some.inj e; omega))
  have hnd3 := nds_step hnd hA2 hst3
  have HLK := Lib.hid (tlinks_any A2 l c2 (m : Int) 1 g w3 hst3.1 hnd3 (by omega) hA2 hwide (by omega) (by omega))
  have HND3 := Lib.hid hnd3
  have HG3 := Lib.hid (show g < w3.heap.size from by have := hst3.2.size; have := HST.out.2.size; omega)
  obtain ⟨LN, hLN⟩ : ∃ LN, LN = l.length := ⟨_, rfl⟩
  have HLN := Lib.hid hLN
  rw [← hLN] at HLK hln ⊢
  clear r0 r1 hst3 hnd3 hnd HST HB2 hLN
  go_wp2_with fail
  refine (HLK.out).mono ?_
  rintro e w4 ⟨v4, n4, rfl, hn4, ho4, hst4⟩
  obtain ⟨A4, c4, ks, hv4, hks, hc4, hcm4, hr4, hw4⟩ := ho4.read
  have HB4 := Lib.hid (HB3.out.grown hst4.2 HB3.out.size (fun j e => by have := Option.some.inj e; omega))
  have hnd4 := nds_step HND3.out hA2 hst4
  have hI : ∀ x ∈ ks, -9223372036854775808 ≤ x.id ∧ x.id ≤ 9223372036854775807 := fun x hx => (hw4 x hx).1
  have hY : ∀ x ∈ ks, ∀ y ∈ x.levels, (-9223372036854775808 ≤ y.left ∧ y.left ≤ 9223372036854775807) ∧ (-9223372036854775808 ≤ y.right ∧ y.right ≤ 9223372036854775807) := fun x hx y hy => (hw4 x hx).2.2 y hy
  have hkn : ks.length ≤ maxLen := by rw [hks]; unfold maxLen; omega
  have hD4 := HDB.out.below HB4.out
  have hwl : ∀ x ∈ l, x.word < 4294967296 := fun x hx => (hwide x hx).2
  have HBL := Lib.hid (build_ok A2 l c2 m w4 hnd4 hchk (by omega))
  have HNR := Lib.hid (fun (W : World) (k : Below w4.heap.size w4 W) => normal_ok A2 A4 l ks c2 c4 m W ((hnd4.below k).more k.size) ((hr4.below k).more k.size) hI hkn hchk (by omega))
  have HCK := Lib.hid (fun (W : World) (k : Below w4.heap.size w4 W) => icheck_ok A2 A4 l ks c2 c4 m W ((hnd4.below k).more k.size) ((hr4.below k).more k.size) hI hkn hY (hD4.below k) hchk (by omega))
  have HEX := Lib.hid (fun (W : World) (k : Below w4.heap.size w4 W) => exact_any A2 A4 l ks c2 c4 (m : Int) W ((hnd4.below k).more k.size) ((hr4.below k).more k.size) hkn hwl)
  have HEB := Lib.hid (fun (W : World) (k : Below w4.heap.size w4 W) (A5 : Option Addr) (c5 : Nat) (h5 : Lds W W.heap.size A5 (bldV l (m + 1))) => exact_any A2 A5 l (bldV l (m + 1)) c2 c5 (m : Int) W ((hnd4.below k).more k.size) h5 (by rw [bld_len, ← HLN.out]; unfold maxLen; omega) hwl)
  obtain ⟨p1, p2, p3⟩ := clean_plain (k := ks) hchk (m := m) (by omega)
  rw [p3] at HEB
  have HP1 := Lib.hid p1
  have HP2 := Lib.hid p2
  have HSR := Lib.hid (fun (W : World) (A5 A6 : Option Addr) (c5 c6 : Nat) (b : List Ld) (h5 : Lds W W.heap.size A5 (nrmV l ks (m + 1))) (h6 : Lds W W.heap.size A6 b) => rsame6_any A5 A6 (nrmV l ks (m + 1)) b c5 c6 W h5 h6 (by rw [nrm_len, (srt_srt l).1.length_eq, ← HLN.out]; omega))
  have HBN : Hid ((bldV l (m + 1)).length = LN) := Lib.hid (by rw [bld_len, HLN.out])
  have HNN : Hid ((nrmV l ks (m + 1)).length = LN) := Lib.hid (by rw [nrm_len, (srt_srt l).1.length_eq, HLN.out])
  have HBV : Hid (∀ x ∈ bldV l (m + 1), x.levels.length ≤ maxLen) := Lib.hid fun x hx => by rw [bld_lev l _ x hx]; unfold maxLen; omega
  have HRK := Lib.hid (fun (W : World) (k : Below w4.heap.size w4 W) => (hr4.below k).more k.size)
  have HDD := Lib.hid hD4
  rw [hks] at hv4 HNR HCK HEX
  rw [HBN.out] at HEB
  rw [← HLN.out] at HBL HNR HCK HEX HEB
  generalize exaB l ks (m : Int) = EX at *
  generalize chkD l ks (m + 1) = CD at *
  generalize hNV : nrmV l ks (m + 1) = NV at *
  generalize bldV l (m + 1) = BV at *
  subst hv4
  clear hnd4 hr4 hw4 hI hY hkn hD4 hwl hst4 ho4 hNV hwide hchk p1 p2 p3 hA2 hc4 hcm4
  have HKS := Lib.hid hks
  clear hks
  go_wp2_with fail
  refine (HBL.out).mono ?_
  rintro e w5 ⟨g5, H5, _, he, hD5, hb5⟩
  rw [HBN.out] at he
  subst he
  have HB5 := Lib.hid hb5
  have HR5 := Lib.hid (hD5.read HBV.out)
  clear hb5 hD5 HBL
  go_wp2_with fail
  refine (HNR.out w5 HB5.out).mono ?_
  rintro e w6 ⟨v6, rfl, ho6, hb6⟩
  obtain ⟨A6, c6, hv6, _, _, hr6⟩ := ho6.read
  rw [HNN.out] at hv6
  subst hv6
  have HB6 := Lib.hid (HB5.out.trans (hb6.mono HB5.out.size))
  have HR6 := Lib.hid hr6
  have HQ6 := Lib.hid ((HR5.out.below hb6).more hb6.size)
  clear hb6 ho6 hr6 HNR HB5 HR5
  go_wp2_with fail
  refine (HCK.out w6 HB6.out).mono ?_
  rintro e w7 ⟨v7, rfl, ho7, hb7⟩
  obtain ⟨A7, c7, hv7⟩ := ho7.shape
  obtain ⟨CN, hCN⟩ : ∃ CN, CN = CD.length := ⟨_, rfl⟩
  rw [← hCN] at hv7 HP1
  subst hv7
  have HB7 := Lib.hid (HB6.out.trans (hb7.mono HB6.out.size))
  have HR7 := Lib.hid ((HR6.out.below hb7).more hb7.size)
  have HQ7 := Lib.hid ((HQ6.out.below hb7).more hb7.size)
  clear hb7 ho7 hCN HCK HB6 HR6 HQ6
  have HSM := Lib.hid (HSR.out w7 A6 (some ⟨g5, 0, none⟩) c6 LN BV HR7.out HQ7.out)
  rw [HNN.out, HBN.out] at HSM
  have hcl : ((CN : Int) == 0) = decide (NV = BV) := by
    rw [← HP1.out]
    by_cases h : CN = 0
    · simp [h]
    · simp [h]
  have HSV : Hid (EX = true → decide (NV = BV) = true ∧ NV = ks) := Lib.hid fun h => ⟨decide_eq_true (HP2.out h).1, (HP2.out h).2⟩
  generalize decide (NV = BV) = SM at *
  have HK7 := Lib.hid (HRK.out w7 HB7.out)
  have HFIN := Lib.hid (fun (W : World) (k : Below w4.heap.size w4 W) => HB4.out.trans (k.mono HB4.out.size))
  have HRK2 := HRK
  clear HP1 HP2
  go_wp2_with fail
  refine (HSM.out).mono ?_
  rintro e w8 ⟨rfl, hb8⟩
  have HB8 := Lib.hid (HB7.out.trans (hb8.mono HB7.out.size))
  have HR8 := Lib.hid ((HR7.out.below hb8).more hb8.size)
  have HQ8 := Lib.hid ((HQ7.out.below hb8).more hb8.size)
  have hss : (SM == SM) = true := by simp
  clear hb8 HSM HB7 HR7 HQ7 HK7
  go_wp2_with fail
  refine (HEX.out w8 HB8.out).mono ?_
  rintro e w9 ⟨rfl, hb9⟩
  have HB9 := Lib.hid (HB8.out.trans (hb9.mono HB8.out.size))
  have HR9 := Lib.hid ((HR8.out.below hb9).more hb9.size)
  have HQ9 := Lib.hid ((HQ8.out.below hb9).more hb9.size)
  clear hb9 HEX HB8 HR8 HQ8
  have HTL : Hid (∀ W, Below w4.heap.size w4 W → Calls Tryz.prog 16 #[] W (LawP W)) := Lib.hid fun W k => HSA.out W (HDD.out.below k)
  cases EX
  · have HE9 := Lib.hid (HEB.out w9 HB9.out (some ⟨g5, 0, none⟩) LN HQ9.out)
    clear HSV HEB HQ9
    go_wp2_with fail
    refine (HE9.out).mono ?_
    rintro e wa ⟨rfl, hba⟩
    have HBA := Lib.hid (HB9.out.trans (hba.mono HB9.out.size))
    clear hba
    go_wp2_with fail
    refine (HTL.out _ HBA.out).mono ?_
    rintro e wb ⟨rfl, hbb⟩
    have HBB := Lib.hid ((HFIN.out _ HBA.out).trans (hbb.mono (HFIN.out _ HBA.out).size))
    clear hbb
    go_wp2_with fail
    go_ret
    exact ⟨rfl, HBB.out⟩
  · obtain ⟨rfl, hnk⟩ := HSV.out rfl
    subst hnk
    have HS9 := Lib.hid (HSR.out w9 A6 A4 c6 c4 NV HR9.out (HRK2.out w9 HB9.out))
    rw [HNN.out, decide_eq_true (rfl : NV = NV)] at HS9
    rw [← HKS.out, HNN.out]
    clear HSV
    go_wp2_with fail
    refine (HS9.out).mono ?_
    rintro e wa ⟨rfl, hba⟩
    have HBA := Lib.hid (HB9.out.trans (hba.mono HB9.out.size))
    have HEA := Lib.hid (HEB.out wa HBA.out (some ⟨g5, 0, none⟩) LN ((HQ9.out.below hba).more hba.size))
    clear hba HS9 HQ9 HEB
    go_wp2_with fail
    refine (HEA.out).mono ?_
    rintro e wb ⟨rfl, hbb⟩
    have HBB := Lib.hid (HBA.out.trans (hbb.mono HBA.out.size))
    clear hbb
    go_wp2_with fail
    refine (HTL.out _ HBB.out).mono ?_
    rintro e wc ⟨rfl, hbc⟩
    have HBC := Lib.hid ((HFIN.out _ HBB.out).trans (hbc.mono (HFIN.out _ HBB.out).size))
    clear hbc
    go_wp2_with fail
    go_ret
    exact ⟨rfl, HBC.out⟩
end Go.Proofs.YteepijefbdbhoaaGreatDoor
