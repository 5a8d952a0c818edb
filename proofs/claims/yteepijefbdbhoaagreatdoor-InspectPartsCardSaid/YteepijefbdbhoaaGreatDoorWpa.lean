/-
  The walk of InspectParts: from whatever numbers it answers true and only makes memory. Conditions: the arguments can be read; 'letters' and the table of trailing zeros are as their initialisers lay them.
-/
import Derived.Test.YteepijefbdbhoaaGreatDoorKpM
import Derived.Test.YteepijefbdbhoaaGreatDoorLnC
import Derived.Test.YteepijefbdbhoaaGreatDoorLgJ
import Derived.Test.YteepijefbdbhoaaGreatDoorKmK
import Derived.Test.YteepijefbdbhoaaGreatDoorKqA
import Derived.Test.YteepijefbdbhoaaGreatDoorKqB
namespace Go.Proofs.YteepijefbdbhoaaGreatDoor
open Go.RowKit

set_option maxRecDepth 100000 in
set_option maxHeartbeats 3200000 in
theorem parts_walk (A : Option Addr) (n0 cp : Nat) (w : World) (hL : Lets w) (hT : Deb w) (hnc : n0 ≤ cp) (hc : cp ≤ maxLen) (hN : Nums w w.heap.size A n0) :
    Calls Tryz.prog 6 #[.slice A n0 cp] w (LawP w) := by
  have HSA := Lib.hid sane7_any
  have HDB := Lib.hid hT
  have hmm := @run_makeMap Tryz.prog
  go_enter Tryz.func6, Tryz.ntmps6
  go_wp2_with fail
  refine (new_any A n0 cp _ hnc hc hN).mono ?_
  rintro e w1 ⟨g, hg1, rfl, hTp, hb1⟩
  have hne2 : 0 ≠ g := by have := hL.lt; omega
  have l1 := hL.below hb1
  clear hN hnc hc hL
  go_wp2_with fail
  refine (roster_any 7 g w1 (by omega) (by omega) hTp l1 hne2).mono ?_
  rintro e w2 ⟨A2, c2, l, rfl, ho, hl8, hwd, hchk, hst⟩
  have hB2 : Below w.heap.size w w2 := hb1.grown hst.2 hb1.size (fun j e => by have := Option.some.inj e; omega)
  have hgw : g < w1.heap.size := hTp.lt
  obtain ⟨_, _, er, hnd⟩ := ho.read
  injection er with e1 e3 e2
  clear e3
  subst e1 e2
  have hA2 : ∀ b o, A2 = some ⟨b, o, none⟩ → b ≠ g := fun b o e => by
    have := (ho.lt b (by rw [e]; rfl)).1
    omega
  have hwide : ∀ x ∈ l, x.wide := wide_of hchk
  have hln : l.length ≤ 64 := (chkV_zero.1 hchk).1
  have HB2 := Lib.hid hB2
  have HST := Lib.hid hst
  clear l1 hTp hb1 ho hl8 hwd hst hB2
  go_wp2_with fail
  refine (next_any g 4 w2 HST.out.1 (by omega)).mono ?_
  rintro e w3 ⟨r, r0, r1, rfl, hst3⟩
  obtain ⟨m, rfl⟩ : ∃ m : Nat, r = (m : Int) := ⟨r.toNat, by omega⟩
  have hm : m ≤ 3 := by omega
  have HB3 := Lib.hid (HB2.out.grown hst3.2 HB2.out.size (fun j e => by have := Option.some.inj e; omega))
  have hnd3 := nds_step hnd hA2 hst3
  have HLK := Lib.hid (tlinks_any A2 l c2 (m : Int) 4 g w3 hst3.1 hnd3 (by omega) hA2 hwide (by omega) (by omega))
  have HND3 := Lib.hid hnd3
  have HG3 := Lib.hid (show g < w3.heap.size from by have := hst3.2.size; have := HST.out.2.size; omega)
  obtain ⟨LN, hLN⟩ : ∃ LN, LN = l.length := ⟨_, rfl⟩
  have HLN := Lib.hid hLN
  rw [← hLN] at HLK hln ⊢
  clear r0 r1 hst3 hnd3 hnd HST HB2 hLN
  go_wp2_with fail
  refine (HLK.out).mono ?_
  rintro e w4 ⟨v4, n4, rfl, hn4, ho4, hst4⟩
  obtain ⟨A4, c4, ks, hv4, hks, hc4, hcm4, hr4, hw4⟩ := ho4.read
  have HB4 := Lib.hid (HB3.out.grown hst4.2 HB3.out.size (fun j e => by have := Option.some.inj e; omega))
  have hnd4 := nds_step HND3.out hA2 hst4
  have hI : ∀ x ∈ ks, -9223372036854775808 ≤ x.id ∧ x.id ≤ 9223372036854775807 := fun x hx => (hw4 x hx).1
  have hY : ∀ x ∈ ks, ∀ y ∈ x.levels, (-9223372036854775808 ≤ y.left ∧ y.left ≤ 9223372036854775807) ∧ (-9223372036854775808 ≤ y.right ∧ y.right ≤ 9223372036854775807) := fun x hx y hy => (hw4 x hx).2.2 y hy
  have hkn : ks.length ≤ maxLen := by rw [hks]; unfold maxLen; omega
  have hD4 := HDB.out.below HB4.out
  have hwl : ∀ x ∈ l, x.word < 4294967296 := fun x hx => (hwide x hx).2
  have hlv : lvB (m : Int) = true := by simp [lvB]; omega
  obtain ⟨q1, q2, q3, q4, q5, q6⟩ := parts_plain (ks := ks) hchk hlv
  have HCO := Lib.hid (icomps_any A2 A4 l ks c2 c4 (m : Int) w4 hnd4 hr4 hI hkn hY hwl)
  have HAT : Hid (∀ (W : World) (k : Below w4.heap.size w4 W) (id : Int), Calls Tryz.prog 25 #[.slice A4 ks.length c4, .int .i64 id, .int .i64 (m : Int)] W (AtP (atV ks id (m : Int)) W)) := Lib.hid fun W k id => rat_any A4 ks c4 id (m : Int) W ((hr4.below k).more k.size) hkn
  have HWY : Hid (∀ a, (-9223372036854775808 ≤ (atV ks a (m : Int)).left ∧ (atV ks a (m : Int)).left ≤ 9223372036854775807) ∧ (-9223372036854775808 ≤ (atV ks a (m : Int)).right ∧ (atV ks a (m : Int)).right ≤ 9223372036854775807)) := Lib.hid fun a => atV_wide hY a m
  have HND := Lib.hid (fun (W : World) (k : Below w4.heap.size w4 W) => (hnd4.below k).more k.size)
  have HBL := Lib.hid (fun (W : World) (k : Below w4.heap.size w4 W) => build_ok A2 l c2 m W ((hnd4.below k).more k.size) hchk (by omega))
  have HBN : Hid ((bldV l (m + 1)).length = LN) := Lib.hid (by rw [bld_len, HLN.out])
  have HBV : Hid (∀ x ∈ bldV l (m + 1), x.levels.length ≤ maxLen) := Lib.hid fun x hx => by rw [bld_lev l _ x hx]; unfold maxLen; omega
  have hbw : ∀ x ∈ bldV l (m + 1), I64 x.id ∧ ∀ y ∈ x.levels, LkW y := fun x hx => ⟨(bldV_wide hwide _ x hx).1, (bldV_wide hwide _ x hx).2.2⟩
  have HCB : Hid (∀ (W : World) (k : Below w4.heap.size w4 W) (A5 : Option Addr) (c5 : Nat) (h5 : Lds W W.heap.size A5 (bldV l (m + 1))), Calls Tryz.prog 24 #[.slice A2 l.length c2, .slice A5 LN c5, .int .i64 (m : Int)] W (LstP (lstV l (m : Int)) W)) := Lib.hid fun W k A5 c5 h5 => by
    have := icomps_any A2 A5 l (bldV l (m + 1)) c2 c5 (m : Int) W ((hnd4.below k).more k.size) h5 (fun x hx => (hbw x hx).1) (by rw [HBN.out]; unfold maxLen; omega) (fun x hx y hy => (hbw x hx).2 y hy) hwl
    rwa [HBN.out, cmp_bld hchk (by omega)] at this
  have HNB : Hid (∀ (W : World) (k : Below w4.heap.size w4 W) (A5 : Option Addr) (c5 : Nat) (h5 : Lds W W.heap.size A5 (bldV l (m + 1))), Calls Tryz.prog 28 #[.slice A2 l.length c2, .slice A5 LN c5] W (BoolN true W)) := Lib.hid fun W k A5 c5 h5 => by
    have := iconn_any A2 A5 l (bldV l (m + 1)) c2 c5 W ((hnd4.below k).more k.size) h5 (fun x hx => (hbw x hx).1) (by rw [HBN.out]; unfold maxLen; omega) (fun x hx y hy => (hbw x hx).2 y hy) hwl
    rwa [HBN.out, con_bld hchk (by omega) (by omega)] at this
  have HLS := Lib.hid (fun (W : World) (k : Below w4.heap.size w4 W) => lists_any6 A2 l c2 (m : Int) W ((hnd4.below k).more k.size) hwl)
  have HPB : Hid ((cmpV l ks (m : Int)).length ≤ 64) := Lib.hid (cmp_small (by rw [← HLN.out]; exact hln))
  have HLB : Hid ((lstV l (m : Int)).length ≤ 1000000 ∧ ∀ x ∈ lstV l (m : Int), x.length ≤ 1000000) := Lib.hid (lst_bd (l := l) (m : Int))
  have HTL : Hid (∀ W, Below w4.heap.size w4 W → Calls Tryz.prog 16 #[] W (LawP W)) := Lib.hid fun W k => HSA.out W (hD4.below k)
  have HFIN := Lib.hid (fun (W : World) (k : Below w4.heap.size w4 W) => HB4.out.trans (k.mono HB4.out.size))
  have HIW : Hid (∀ i ∈ idsV l, -9223372036854775808 ≤ i ∧ i ≤ 9223372036854775807) := Lib.hid fun i hi => by
    obtain ⟨x, hx, rfl⟩ := ids_mem.1 hi
    exact (hwide x hx).1
  have HQ1 := Lib.hid q1
  have HQ2 := Lib.hid q2
  have HQ3 := Lib.hid q3
  have HQ4 := Lib.hid q4
  have HQ5 := Lib.hid q5
  have HQ6 := Lib.hid q6
  rw [← HLN.out] at HBL HCO HCB HNB HLS HQ2 HQ4
  rw [hks] at hv4 HCO HAT
  generalize lstV l (m : Int) = LV at *
  generalize bldV l (m + 1) = BV at *
  generalize cmpV l ks (m : Int) = PS at *
  subst hv4
  clear hnd4 hr4 hw4 hI hY hkn hD4 hwl hst4 ho4 hwide hchk q1 q2 q3 q4 q5 q6 hA2 hc4 hcm4 hbw hlv HB3 HND3 HLK HSA HDB hks hT
  go_wp2_with fail
  refine (HCO.out).mono ?_
  rintro e w5 ⟨A5, c5, rfl, hr5, hb5⟩
  have HB5 := Lib.hid hb5
  have HR5 := Lib.hid hr5
  obtain ⟨PN, hPN⟩ : ∃ PN, PN = PS.length := ⟨_, rfl⟩
  have HPN := Lib.hid hPN
  rw [← hPN]
  have HM0 := Lib.hid (VMap.made w5 (.int .i64 0))
  have hbA := (Below.refl w5.heap.size w5).alloc (Nat.le_refl _) (.map #[] 0)
  have HBA := Lib.hid hbA
  obtain ⟨bm, hbm⟩ : ∃ bm, bm = w5.heap.size := ⟨_, rfl⟩
  have HBM := Lib.hid hbm
  clear hb5 hr5 hPN hbA HCO
  go_upto_region 6 with fail
  rw [← hbm] at HM0 ⊢
  clear hbm hmm
  go_wp2_with fail
  go_loopw [9] (fun vi wr => ∃ i : Nat, vi = .int .i64 (i : Int) ∧ i ≤ PN ∧ Below w5.heap.size w5 wr ∧ VMap wr bm (PS.take i).flatten.length (.int .i64 0) (labO (PS.take i))) (fun vi _ => PN - (intOf vi).toNat)
  case atStart => exact ⟨0, rfl, by omega, HBA.out, by rw [List.take_zero]; exact HM0.out.congr fun _ => rfl⟩
  case round =>
    clear HM0 HBA
    obtain ⟨i, rfl, hi, hB, hM⟩ := hrel
    have HM := Lib.hid hM
    have HB := Lib.hid hB
    clear hM hB
    by_cases hlt : i < PN
    · have k1 : i < PS.length := by rw [← HPN.out]; exact hlt
      obtain ⟨b5, o5, Ai, ci, e5, hb5, f1, hins⟩ := HR5.out.at_ k1
      subst e5
      have HF1 : Hid (∀ W, Below w5.heap.size w5 W → W.cell? ⟨b5, o5 + i, none⟩ = some (.slice Ai PS[i].length ci)) := Lib.hid fun W k => (k.cell (p := ⟨b5, o5 + i, none⟩) hb5).trans f1
      have HEL : Hid (∀ (j : Nat) (hj : j < PS[i].length), ∃ b7 o7, Ai = some ⟨b7, o7, none⟩ ∧ (-9223372036854775808 ≤ PS[i][j] ∧ PS[i][j] ≤ 9223372036854775807) ∧ ∀ W, Below w5.heap.size w5 W → W.cell? ⟨b7, o7 + j, none⟩ = some (.int .i64 PS[i][j])) := Lib.hid fun j hj => by
        obtain ⟨b7, o7, e7, h7, hw7, f7⟩ := hins.at_ hj
        exact ⟨b7, o7, e7, hw7, fun W k => (k.cell (p := ⟨b7, o7 + j, none⟩) h7).trans f7⟩
      have HPT := Lib.hid (fun (j : Nat) (hj : j < PS[i].length) => parts_at HQ1.out k1 hj)
      have HPE := Lib.hid (parts_end k1)
      have HPL : Hid (PS.flatten.length ≤ 64) := Lib.hid (by have := HQ2.out; omega)
      clear f1 hins hb5
      generalize PS[i] = R at *
      clear k1
      obtain ⟨RN, hRN⟩ : ∃ RN, RN = R.length := ⟨_, rfl⟩
      have HRN := Lib.hid hRN
      rw [← hRN] at HF1
      have HM2 : Hid (∀ W, VMap W bm (PS.take i).flatten.length (.int .i64 0) (labO (PS.take i)) → VMap W bm ((PS.take i).flatten.length + 0) (.int .i64 0) (labO (PS.take i ++ [R.take 0]))) := Lib.hid fun W k => by
        rw [List.take_zero]
        exact k.congr fun y => (labO_nil _ y).symm
      have HM3 : Hid (∀ W, VMap W bm ((PS.take i).flatten.length + RN) (.int .i64 0) (labO (PS.take i ++ [R.take RN])) → VMap W bm (PS.take (i + 1)).flatten.length (.int .i64 0) (labO (PS.take (i + 1)))) := Lib.hid fun W k => by
        rw [hRN, HPE.out.1, HPE.out.2] at k
        exact k
      clear hRN HPE
      have i0 : (0 : Int) ≤ (i : Int) := by omega
      have i1 : (i : Int) < (PN : Int) := by omega
      have ew : IntKind.i64.wrap ((i : Int) + 1) = (i : Int) + 1 := IntWalk.i64_in _ (by
        have h1 := HPN.out
        have h2 := HPB.out
        omega)
      go_wp2_with fail
      go_loopw [10] (fun vj wj => ∃ j : Nat, vj = .int .i64 (j : Int) ∧ j ≤ RN ∧ Below w5.heap.size w5 wj ∧ VMap wj bm ((PS.take i).flatten.length + j) (.int .i64 0) (labO (PS.take i ++ [R.take j]))) (fun vj _ => RN - (intOf vj).toNat)
      case atStart => exact ⟨0, rfl, by omega, HB.out, HM2.out _ HM.out⟩
      case round =>
        clear HM HB HM2
        obtain ⟨j, rfl, hj, hB, hM⟩ := hrel
        have f1 := HF1.out _ hB
        by_cases hjl : j < RN
        · have j2 : j < R.length := by rw [← HRN.out]; exact hjl
          obtain ⟨b7, o7, e7, hxw, f7⟩ := HEL.out j j2
          obtain ⟨_, p2, p3, p4⟩ := HPT.out j j2
          subst e7
          replace f7 := f7 _ hB
          have hlk := hM.look Tryz.underlying56 (zeroInt _) hxw.1 hxw.2
          rw [labO_get, p2] at hlk
          have HP3 := Lib.hid p3
          generalize R[j] = x at *
          have hcn : (PS.take i).flatten.length + j < maxLen := by have := HPL.out; unfold maxLen; omega
          have ej : IntKind.i64.wrap ((j : Int) + 1) = (j : Int) + 1 := IntWalk.i64_in _ (by have := HPL.out; omega)
          have j0 : (0 : Int) ≤ (j : Int) := by omega
          have j1 : (j : Int) < (RN : Int) := by omega
          have HMJ := Lib.hid hM
          have HBJ := Lib.hid hB
          have HBM2 : Hid (w5.heap.size ≤ bm) := Lib.hid (by rw [HBM.out]; exact Nat.le_refl _)
          clear hM hB p3 p4 p2 j2
          go_wp2_with (at_mapUpdate; refine wpList_vput _ rfl _ _ _ 56 rfl 3 Tryz.underlying56 bm _ _ _ HMJ.out rfl hcn x hxw (.int .i64 ((i : Int) + 1)) rfl rfl ?_; intro w7 hm7 hgr7; have HM7 := Lib.hid hm7; have HB7 := Lib.hid (HBJ.out.grown hgr7 HBJ.out.size (fun kk e => (by have := Option.some.inj e; have := HBM2.out; omega))); clear hm7 hgr7)
          exact ⟨⟨j + 1, by go_num, hjl, HB7.out, HM7.out.congr HP3.out⟩, by simp [intOf]; omega⟩
        · have : j = RN := by omega
          subst this
          have HMF := Lib.hid (HM3.out _ hM)
          have j1 : ¬ (j : Int) < (j : Int) := by omega
          clear hM
          go_wp2_with fail
          exact ⟨⟨i + 1, by go_num, hlt, hB, HMF.out⟩, by simp [intOf]; omega⟩
    · have hip : i = PN := by omega
      have HMF : Hid (VMap wr bm LN (.int .i64 0) (labO PS)) := Lib.hid (by
        have := HM.out
        rw [hip, HPN.out, List.take_length, HQ2.out] at this
        exact this)
      subst hip
      have HBF := Lib.hid (HB5.out.trans (HB.out.mono HB5.out.size))
      have i1 : ¬ (i : Int) < (i : Int) := by omega
      clear HM HB HR5 HPN
      go_wp2_with fail
      go_loopw [11] (fun vi wr => ∃ k : Nat, vi = .int .i64 (k : Int) ∧ k ≤ LN ∧ Below w4.heap.size w4 wr ∧ VMap wr bm LN (.int .i64 0) (labO PS)) (fun vi _ => LN - (intOf vi).toNat)
      case atStart => exact ⟨0, rfl, by omega, HBF.out, HMF.out⟩
      case round =>
        clear HMF HBF
        obtain ⟨k, rfl, hk, hB, hM⟩ := hrel
        have HM := Lib.hid hM
        have HB := Lib.hid hB
        by_cases hlt : k < LN
        · have k1 : k < l.length := by rw [← HLN.out]; exact hlt
          obtain ⟨b6, o6, e6, hb6, f1, -⟩ := (HND.out _ hB).at_ k1
          subst e6
          obtain ⟨p1, p2, p3⟩ := HQ6.out _ (List.getElem_mem k1)
          have hxw := HIW.out l[k].id ((by exact ids_mem.2 ⟨_, List.getElem_mem k1, rfl⟩))
          have HWX := Lib.hid (HWY.out l[k].id)
          have HAX := Lib.hid (HAT.out _ hB l[k].id)
          generalize l[k].id = x at *
          generalize atV ks x (m : Int) = y at *
          obtain ⟨yl, yr⟩ := y
          simp only at p2 p3
          have i0 : (0 : Int) ≤ (k : Int) := by omega
          have i1 : (k : Int) < (LN : Int) := by omega
          have HP1 := Lib.hid p1
          have HP2 := Lib.hid p2
          have HP3 := Lib.hid p3
          clear hM hB p1 p2 p3 k1
          go_wp2_with fail
          refine (HAX.out).mono ?_
          rintro e w7 ⟨rfl, hb7⟩
          have hbX := (Below.refl w7.heap.size w7).alloc (Nat.le_refl _) (.cells #[.int .i64 yl, .int .i64 yr] 49)
          have HX := Lib.hid (Has.new w7 49 #[.int .i64 yl, .int .i64 yr])
          have HM8 := Lib.hid ((HM.out.below hb7).below hbX)
          have HB8 := Lib.hid (HB.out.trans ((hb7.trans (hbX.mono hb7.size)).mono HB.out.size))
          clear hb7 f1 hbX HM HB HAX
          go_upto_region 20 with fail
          generalize w7.alloc (.cells #[.int .i64 yl, .int .i64 yr] 49) = w8 at *
          have x0 := HX.out.cell 0
          have x1 := HX.out.cell 1
          have g1 := HM8.out.look Tryz.underlying56 (zeroInt _) hxw.1 hxw.2
          have g2 := HM8.out.look Tryz.underlying56 (zeroInt _) HWX.out.1.1 HWX.out.1.2
          have g3 := HM8.out.look Tryz.underlying56 (zeroInt _) HWX.out.2.1 HWX.out.2.2
          rw [labO_get] at g1 g2 g3
          generalize labN PS x = a at *
          generalize labN PS yl = b at *
          generalize labN PS yr = c at *
          have ea : (a == 0) = false := by simpa using HP1.out
          have ea2 : (a != 0) = true := by simpa using HP1.out
          have eaa : (a != a) = false := by simp
          have h23 := HP2.out
          have h33 := HP3.out
          clear HX HP1 HP2 HP3 HWX hxw
          rcases h23 with rfl | rfl
          all_goals rcases h33 with rfl | rfl
          all_goals
            go_wp2_with fail
            exact ⟨⟨k + 1, by go_num, hlt, HB8.out, HM8.out⟩, by simp [intOf]; omega⟩
        · have hip : k = LN := by omega
          subst hip
          have i1 : ¬ (k : Int) < (k : Int) := by omega
          have HBX := Lib.hid (HBL.out _ hB)
          clear hM hB HBL
          go_wp2_with fail
          refine (HBX.out).mono ?_
          rintro e w7 ⟨g5, H5, _, he, hD5, hb7⟩
          rw [HBN.out] at he
          subst he
          have HM7 := Lib.hid (HM.out.below hb7)
          have HR7 := Lib.hid (hD5.read HBV.out)
          have HB7 := Lib.hid (HB.out.trans (hb7.mono HB.out.size))
          obtain ⟨s, hs1, _, hs2⟩ := HM7.out.len Tryz.underlying56 (idsV l) HQ3.out (fun i hi => ⟨HIW.out i hi, labO_some ((HQ5.out i).2 hi)⟩)
          rw [HQ4.out] at hs1
          have hs3 : ((k : Int) ≤ (s : Int)) := by omega
          have HCX := Lib.hid (HCB.out w7 HB7.out (some ⟨g5, 0, none⟩) k HR7.out)
          obtain ⟨LVN, hLVN⟩ : ∃ n, n = LV.length := ⟨_, rfl⟩
          have HLVN := Lib.hid hLVN
          clear HBX hD5 hb7 HM HB hLVN HAT HND HQ1 HQ2 HQ3 HQ4 HQ5 HQ6 HIW HWY HCB
          go_wp2_with fail
          refine (HCX.out).mono ?_
          rintro e w8 ⟨A8, c8, rfl, hr8, hb8⟩
          have HR8 := Lib.hid hr8
          have HB8 := Lib.hid (HB7.out.trans (hb8.mono HB7.out.size))
          have HD8 := Lib.hid ((HR7.out.below hb8).more hb8.size)
          rw [← HLVN.out]
          clear hr8 hb8 HCX HB7 HR7 HM7 hs2
          go_wp2_with fail
          refine (HLS.out w8 HB8.out).mono ?_
          rintro e w9 ⟨A9, c9, rfl, hr9, hb9⟩
          have HB9 := Lib.hid (HB8.out.trans (hb9.mono HB8.out.size))
          have HD9 := Lib.hid ((HD8.out.below hb9).more hb9.size)
          have HSL := Lib.hid (sameLists_self A8 A9 LV c8 c9 w9 ((HR8.out.below hb9).more hb9.size) hr9 HLB.out.1 HLB.out.2)
          rw [← HLVN.out] at HSL ⊢
          clear hr9 hb9 HB8 HD8 HR8 HLS
          go_wp2_with fail
          refine (HSL.out).mono ?_
          rintro e wa ⟨rfl, hba⟩
          have HBA := Lib.hid (HB9.out.trans (hba.mono HB9.out.size))
          have HNX := Lib.hid (HNB.out wa HBA.out (some ⟨g5, 0, none⟩) k ((HD9.out.below hba).more hba.size))
          clear hba HSL HB9 HD9 HNB
          go_wp2_with fail
          refine (HNX.out).mono ?_
          rintro e wb ⟨rfl, hbb⟩
          have HBB := Lib.hid (HBA.out.trans (hbb.mono HBA.out.size))
          clear hbb HBA HNX
          go_wp2_with fail
          refine (HTL.out _ HBB.out).mono ?_
          rintro e wc ⟨rfl, hbc⟩
          have HBC := Lib.hid ((HFIN.out _ HBB.out).trans (hbc.mono (HFIN.out _ HBB.out).size))
          clear hbc
          go_wp2_with fail
          go_ret
          exact ⟨rfl, HBC.out⟩
end Go.Proofs.YteepijefbdbhoaaGreatDoor
