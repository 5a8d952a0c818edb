/-
  The walk of InspectReports: from whatever numbers, nodes, links and level it answers true and only makes memory. Conditions: the arguments can be read; 'letters' and the table of trailing zeros are as their initialisers lay them.
-/
import Derived.Test.YteepijefbdbhoaaGreatDoorKqK
import Derived.Test.YteepijefbdbhoaaGreatDoorKqJ
import Derived.Test.YteepijefbdbhoaaGreatDoorLnC
import Derived.Test.YteepijefbdbhoaaGreatDoorLgJ
import Derived.Test.YteepijefbdbhoaaGreatDoorKnF
import Derived.Deep.DeepCutAuto
import Derived.Deep.CutBlock
namespace Go.Proofs.YteepijefbdbhoaaGreatDoor
open Go.RowKit

set_option maxRecDepth 100000 in
set_option maxHeartbeats 3200000 in
theorem reports_walk (A A1 A2 : Option Addr) (n0 cp c1 c2 : Nat) (l1 : List Nd) (l2 : List Ld) (hv : Int) (w : World) (hL : Lets w) (hT : Deb w) (hnc : n0 ≤ cp) (hc : cp ≤ maxLen) (hN : Nums w w.heap.size A n0) (h1 : Nds w w.heap.size A1 l1) (hw1 : ∀ x ∈ l1, x.wide) (h2 : Lds w w.heap.size A2 l2) (hw2 : ∀ x ∈ l2, LdW x) (_hlc : l2.length ≤ c2) (_hcm : c2 ≤ maxLen) (_hh : -9223372036854775808 ≤ hv ∧ hv ≤ 9223372036854775807) :
    Calls Tryz.prog 3 #[.slice A n0 cp, .slice A1 l1.length c1, .slice A2 l2.length c2, .int .i64 hv] w (LawP w) := by
  have HAF : Hid (∀ (W : World) (j : Below w.heap.size w W) (h : Int), l2.length ≤ 100 → Calls Tryz.prog 14 #[.slice A1 l1.length c1, .slice A2 l2.length c2, .int .i64 h] W (BoolN true W)) := Lib.hid fun W j h h3 =>
    agrees_any A1 A2 l1 l2 c1 c2 h W ((h1.below j).more j.size) ((h2.below j).more j.size) (fun x hx => (hw2 x hx).1) (by omega) (fun x hx => (hw2 x hx).2) (hT.below j) (fun x hx => (hw1 x hx).2)
  obtain ⟨LN, hLN⟩ : ∃ n, n = l1.length := ⟨_, rfl⟩
  obtain ⟨KN, hKN⟩ : ∃ n, n = l2.length := ⟨_, rfl⟩
  rw [← hLN, ← hKN] at HAF ⊢
  have HSA := Lib.hid (fun (W : World) (j : Below w.heap.size w W) => sane7_any W (hT.below j))
  have HDB := Lib.hid hT
  have HMD := Lib.hid (fun (W : World) => mod_any hv 4 W (by omega) (by omega))
  go_enter Tryz.func3, Tryz.ntmps3
  go_wp2_with fail
  refine (new_any A n0 cp _ hnc hc hN).mono ?_
  rintro e w1 ⟨g, hg1, rfl, hTp, hb1⟩
  have hne2 : 0 ≠ g := by have := hL.lt; omega
  have hne3 : 1 ≠ g := by have := hT.lt; omega
  have HL1 := Lib.hid (hL.below hb1)
  have HNE2 := Lib.hid hne2
  have HG1 := Lib.hid hg1
  have HLT : Hid (∀ W, TStep w1 g W → Lets W ∧ Deb W ∧ Below w.heap.size w W) := Lib.hid fun W k => ⟨(hL.below hb1).step hne2 k, (hT.below hb1).step hne3 k, hb1.grown k.2 hb1.size (fun j e => by have := Option.some.inj e; omega)⟩
  have HT1 := Lib.hid (TStep.refl hTp)
  clear hN hnc hc hL hT h1 hw1 h2 hw2 _hlc _hcm _hh hLN hKN hTp hb1 hne2 hne3 HL1
  go_wp2_with fail
  go_loopw [10] (fun vi wr => ∃ i : Nat, vi = .int .i64 (i : Int) ∧ i ≤ 3 ∧ TStep w1 g wr) (fun vi _ => 3 - (intOf vi).toNat)
  case atStart => exact ⟨0, rfl, by omega, HT1.out⟩
  case round =>
    clear HT1
    obtain ⟨i, rfl, hi, hS⟩ := hrel
    have HS := Lib.hid hS
    by_cases hlt : i < 3
    · have i1 : (i : Int) < 3 := by omega
      have i0 : (0 : Int) ≤ (i : Int) := by omega
      have HRO := Lib.hid (roster_any 6 g wr (by omega) (by omega) hS.1 (HLT.out _ hS).1 HNE2.out)
      have hgr : g < wr.heap.size := hS.1.lt
      clear hS HAF
      go_wp2_with fail
      refine (HRO.out).mono ?_
      rintro e w2 ⟨A3, c3, l, rfl, ho, hl8, hwd, hchk, hst⟩
      obtain ⟨_, _, er, hnd⟩ := ho.read
      injection er with e1 e3 e2
      clear e3
      subst e1 e2
      have hA3 : ∀ b o, A3 = some ⟨b, o, none⟩ → b ≠ g := fun b o e => by
        have := (ho.lt b (by rw [e]; rfl)).1
        omega
      have hwide : ∀ x ∈ l, x.wide := wide_of hchk
      have HS2 := Lib.hid (HS.out.trans hst)
      have HSR := Lib.hid hst
      clear ho hl8 hwd hst HS HRO
      go_wp2_with fail
      refine (next_any g 4 w2 HSR.out.1 (by omega)).mono ?_
      rintro e w3 ⟨r, r0, r1, rfl, hst3⟩
      obtain ⟨m, rfl⟩ : ∃ m : Nat, r = (m : Int) := ⟨r.toNat, by omega⟩
      have hm : m ≤ 3 := by omega
      have hnd3 := nds_step hnd hA3 hst3
      have hln : l.length ≤ 64 := (chkV_zero.1 hchk).1
      have HLK := Lib.hid (tlinks_any A3 l c3 (m : Int) 4 g w3 hst3.1 hnd3 (by omega) hA3 hwide (by omega) (by omega))
      have HND3 := Lib.hid hnd3
      have HS3 := Lib.hid (HS2.out.trans hst3)
      have HG3 := Lib.hid (show g < w3.heap.size from by have := hst3.2.size; have := HSR.out.2.size; omega)
      obtain ⟨XN, hXN⟩ : ∃ n, n = l.length := ⟨_, rfl⟩
      have HXN := Lib.hid hXN
      rw [← hXN] at HLK hln ⊢
      clear r0 r1 hst3 hnd3 hnd HSR HS2 hXN hgr
      go_wp2_with fail
      refine (HLK.out).mono ?_
      rintro e w4 ⟨v4, n4, rfl, hn4, ho4, hst4⟩
      obtain ⟨ks, hrd4, hks, hw4⟩ := ho4.toRd
      obtain ⟨A4, c4, hv4, _⟩ := hrd4.read
      have HS4 := Lib.hid (HS3.out.trans hst4)
      have HX4 := Lib.hid (nds_step HND3.out hA3 hst4)
      have HKN : Hid (ks.length ≤ 1000000) := Lib.hid (by rw [hks]; omega)
      have HW4 : Hid (∀ x ∈ ks, I64 x.id ∧ ∀ y ∈ x.levels, LkW y) := Lib.hid fun x hx => ⟨(hw4 x hx).1, (hw4 x hx).2.2⟩
      have HR4 : Hid (∀ W, TStep w4 g W → Lds W W.heap.size A4 ks) := Lib.hid fun W k => by
        obtain ⟨A5, c5, e5, h5⟩ := (hrd4.keep (KpA.step HG3.out k) (Nat.le_refl _)).read
        rw [hv4] at e5
        injection e5 with e6
        rw [e6]
        exact h5
      have HAG : Hid (∀ (W : World) (k : TStep w4 g W) (B : Option Addr) (xs : List Nd) (cb : Nat) (h : Int), Nds W W.heap.size B xs → (∀ x ∈ xs, x.wide) → Calls Tryz.prog 14 #[.slice B xs.length cb, .slice A4 ks.length c4, .int .i64 h] W (BoolN true W)) := Lib.hid fun W k B xs cb h h5 h6 =>
        agrees_any B A4 xs ks cb c4 h W h5 (HR4.out W k) (fun x hx => (HW4.out x hx).1) HKN.out (fun x hx => (HW4.out x hx).2) (HLT.out W (HS4.out.trans k)).2.1 (fun x hx => (h6 x hx).2)
      have HT4 := Lib.hid hst4.1
      have HOD := Lib.hid (fun (W : World) (k : TStep w4 g W) => oddRoster_any A3 l c3 g W k.1 (HLT.out W (HS4.out.trans k)).1 HNE2.out (nds_step HX4.out hA3 k) (by have := HXN.out; omega) hwide)
      have HXS : Hid (∀ W, TStep w4 g W → Nds W W.heap.size A3 l) := Lib.hid fun W k => nds_step HX4.out hA3 k
      have HA3 := Lib.hid hA3
      have HWD := Lib.hid hwide
      rw [← HXN.out] at HOD
      obtain ⟨kn, hkk⟩ : ∃ kn, kn = ks.length := ⟨_, rfl⟩
      rw [hv4, ← hkk]
      rw [← hkk] at HAG
      clear hrd4 hks hw4 hst4 ho4 hv4 hkk hchk hwide hA3 HND3 HLK HS3 HX4
      have HGW4 := Lib.hid (show g < w4.heap.size from HT4.out.lt)
      have HAL : Hid (∀ (W : World) (k : TStep w4 g W) (h : Int), Calls Tryz.prog 14 #[.slice A3 XN c3, .slice A4 kn c4, .int .i64 h] W (BoolN true W)) := Lib.hid fun W k h => by
        have := HAG.out W k A3 l c3 h (HXS.out W k) HWD.out
        rwa [← HXN.out] at this
      by_cases hi2 : i = 2
      · subst hi2
        go_wp2_with fail
        refine (bool_any g 2 w4 HT4.out (by omega) (by omega)).mono ?_
        rintro e w5 ⟨b, rfl, hst5⟩
        have HS5 := Lib.hid hst5
        clear hst5
        have e3 : IntKind.i64.wrap ((2 : Int) + 1) = 3 := by decide
        cases b
        · go_wp2_with fail
          refine (HAL.out w5 HS5.out (m : Int)).mono ?_
          rintro e wy ⟨rfl, hby⟩
          have HTY := Lib.hid (HS5.out.below hby)
          clear hby
          go_wp2_with fail
          refine (next_any g 4 wy HTY.out.1 (by omega)).mono ?_
          rintro e wz ⟨r2, q0, q1, rfl, hstz⟩
          have HTZ := Lib.hid (HTY.out.trans hstz)
          have ew : IntKind.i64.wrap (r2 - 1) = r2 - 1 := IntWalk.i64_in _ (by omega)
          clear hstz HTY
          go_wp2_with fail
          refine (HAL.out wz HTZ.out (r2 - 1)).mono ?_
          rintro e wv ⟨rfl, hbv⟩
          have HTV := Lib.hid (HTZ.out.below hbv)
          clear hbv HTZ
          go_wp2_with fail
          exact ⟨⟨3, rfl, by omega, HS4.out.trans HTV.out⟩, by simp [intOf]⟩
        · go_wp2_with fail
          refine (HOD.out w5 HS5.out).mono ?_
          rintro e w6 ⟨B6, c6, xs, rfl, ho6, hl6, hw6, hst6⟩
          obtain ⟨_, _, er, hnd6⟩ := ho6.read
          injection er with e1 e3' e2
          clear e3'
          subst e1 e2
          have hB6 : ∀ b o, B6 = some ⟨b, o, none⟩ → b ≠ g := fun b o e => by
            have h5 := (ho6.lt b (by rw [e]; rfl)).1
            have h6 := HS5.out.2.size
            have h7 := HGW4.out
            omega
          have HT6 := Lib.hid (HS5.out.trans hst6)
          have HT61 := Lib.hid hst6.1
          obtain ⟨xn, hxn⟩ : ∃ n, n = xs.length := ⟨_, rfl⟩
          have HAX : Hid (∀ (W : World) (k : TStep w6 g W) (h : Int), Calls Tryz.prog 14 #[.slice B6 xn c6, .slice A4 kn c4, .int .i64 h] W (BoolN true W)) := Lib.hid fun W k h => by
            have := HAG.out W (HT6.out.trans k) B6 xs c6 h (nds_step hnd6 hB6 k) hw6
            rwa [← hxn] at this
          rw [← hxn]
          have HT0 := Lib.hid (TStep.refl HT61.out)
          clear ho6 hl6 hw6 hst6 hnd6 hB6 hxn
          go_wp2_with fail
          refine (HAX.out w6 HT0.out (m : Int)).mono ?_
          rintro e wy ⟨rfl, hby⟩
          have HTY := Lib.hid (HT0.out.below hby)
          clear hby
          go_wp2_with fail
          refine (next_any g 4 wy HTY.out.1 (by omega)).mono ?_
          rintro e wz ⟨r2, q0, q1, rfl, hstz⟩
          have HTZ := Lib.hid (HTY.out.trans hstz)
          have ew : IntKind.i64.wrap (r2 - 1) = r2 - 1 := IntWalk.i64_in _ (by omega)
          clear hstz HTY
          go_wp2_with fail
          refine (HAX.out wz HTZ.out (r2 - 1)).mono ?_
          rintro e wv ⟨rfl, hbv⟩
          have HTV := Lib.hid (HTZ.out.below hbv)
          clear hbv HTZ
          go_wp2_with fail
          exact ⟨⟨3, rfl, by omega, HS4.out.trans (HT6.out.trans HTV.out)⟩, by simp [intOf]⟩
      · have hi3 : ((i : Int) == 2) = false := by
          have : (i : Int) ≠ 2 := by omega
          simpa using this
        have HT0 := Lib.hid (TStep.refl HT4.out)
        go_wp2_with fail
        refine (HAL.out w4 HT0.out (m : Int)).mono ?_
        rintro e wy ⟨rfl, hby⟩
        have HTY := Lib.hid (HT0.out.below hby)
        clear hby
        go_wp2_with fail
        refine (next_any g 4 wy HTY.out.1 (by omega)).mono ?_
        rintro e wz ⟨r2, q0, q1, rfl, hstz⟩
        have HTZ := Lib.hid (HTY.out.trans hstz)
        have ew : IntKind.i64.wrap (r2 - 1) = r2 - 1 := IntWalk.i64_in _ (by omega)
        clear hstz HTY
        go_wp2_with fail
        refine (HAL.out wz HTZ.out (r2 - 1)).mono ?_
        rintro e wv ⟨rfl, hbv⟩
        have HTV := Lib.hid (HTZ.out.below hbv)
        clear hbv HTZ
        go_wp2_with fail
        exact ⟨⟨i + 1, by go_num, hlt, HS4.out.trans HTV.out⟩, by simp [intOf]; omega⟩
    · have hi3 : i = 3 := by omega
      subst hi3
      have HB0 := Lib.hid (HLT.out _ hS).2.2
      have HFN : Hid (∀ W, Below wr.heap.size wr W → Below w.heap.size w W) := Lib.hid fun W k => HB0.out.trans (k.mono HB0.out.size)
      clear hS HS
      by_cases hl20 : (LN : Int) > 20
      · have HSN := Lib.hid (HSA.out wr HB0.out)
        go_wp2_with fail
        refine (HSN.out).mono ?_
        rintro e w9 ⟨rfl, hb9⟩
        have HB9 := Lib.hid (HFN.out _ hb9)
        clear hb9
        go_wp2_with fail
        go_ret
        exact ⟨rfl, HB9.out⟩
      · by_cases hk100 : (KN : Int) > 100
        · have HSN := Lib.hid (HSA.out wr HB0.out)
          go_wp2_with fail
          refine (HSN.out).mono ?_
          rintro e w9 ⟨rfl, hb9⟩
          have HB9 := Lib.hid (HFN.out _ hb9)
          clear hb9
          go_wp2_with fail
          go_ret
          exact ⟨rfl, HB9.out⟩
        · have HKS : Hid (KN ≤ 100) := Lib.hid (by omega)
          go_wp2_with fail
          refine (HAF.out wr HB0.out hv HKS.out).mono ?_
          rintro e w8 ⟨rfl, hb8⟩
          have HB8 := Lib.hid (HFN.out _ hb8)
          clear hb8
          go_wp2_with fail
          refine (HMD.out _).mono ?_
          rintro e w9 ⟨rfl, rfl⟩
          go_wp2_with fail
          refine (HAF.out _ HB8.out (hv % 4) HKS.out).mono ?_
          rintro e w9 ⟨rfl, hb9⟩
          have HB9 := Lib.hid (HB8.out.trans (hb9.mono HB8.out.size))
          clear hb9
          go_wp2_with fail
          refine (HSA.out _ HB9.out).mono ?_
          rintro e wa ⟨rfl, hba⟩
          have HBA := Lib.hid (HB9.out.trans (hba.mono HB9.out.size))
          clear hba
          go_wp2_with fail
          go_ret
          exact ⟨rfl, HBA.out⟩
end Go.Proofs.YteepijefbdbhoaaGreatDoor
