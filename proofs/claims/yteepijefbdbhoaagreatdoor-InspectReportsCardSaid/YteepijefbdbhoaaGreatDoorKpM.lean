/-
  The example of chapter 7: what the package's functions answer. Condition: the table of trailing zeros lies as its initialiser lays it.
-/
import Derived.Test.YteepijefbdbhoaaGreatDoorLpI
import Derived.Test.YteepijefbdbhoaaGreatDoorLpC
namespace Go.Proofs.YteepijefbdbhoaaGreatDoor
open Go.RowKit

def two7 : List Nd := [⟨1, ⟨#[97]⟩, 0⟩, ⟨2, ⟨#[98]⟩, 1⟩]
theorem u_ok : chkV two7 = 0 := by
  refine chkV_zero.2 ⟨by decide, by decide +kernel, ?_⟩
  simp [Nd.apart, two7]
theorem u_srt : srt two7 = two7 := (srt_of ⟨List.Perm.refl _, by decide +kernel⟩ (chkV_zero.1 u_ok).2.2).symm
theorem u_bld : bldV two7 2 = [⟨1, [⟨0, 2⟩, ⟨0, 0⟩]⟩, ⟨2, [⟨1, 0⟩, ⟨0, 0⟩]⟩] := by
  unfold bldV
  rw [u_srt]
  decide +kernel
theorem u_nb : nbL two7 1 0 = ⟨0, 2⟩ ∧ nbL two7 2 0 = ⟨1, 0⟩ := by
  have h1 := nb_in u_ok (h := 0) (by decide) (by decide) (x := ⟨1, ⟨#[97]⟩, 0⟩) (by simp [two7])
  have h2 := nb_in u_ok (h := 0) (by decide) (by decide) (x := ⟨2, ⟨#[98]⟩, 1⟩) (by simp [two7])
  refine ⟨h1.2.trans ?_, h2.2.trans ?_⟩
  · rw [u_srt]
    decide +kernel
  · rw [u_srt]
    decide +kernel
theorem u_chk : chkD two7 [] 1 = [⟨4, 1, 0, 1, 0, 2⟩, ⟨4, 2, 0, 0, 0, 1⟩] := by
  unfold chkD
  rw [u_srt]
  obtain ⟨n1, n2⟩ := u_nb
  have e1 : dfA two7 [] ⟨1, ⟨#[97]⟩, 0⟩ 0 = [⟨4, 1, 0, 1, 0, 2⟩] := by
    unfold dfA
    simp only [n1]
    rfl
  have e2 : dfA two7 [] ⟨2, ⟨#[98]⟩, 1⟩ 0 = [⟨4, 2, 0, 0, 0, 1⟩] := by
    unfold dfA
    simp only [n2]
    rfl
  show (List.flatMap (fun (t : Nat) => dfA two7 [] ⟨1, ⟨#[97]⟩, 0⟩ (t : Int)) (List.range 1)) ++ ((List.flatMap (fun (t : Nat) => dfA two7 [] ⟨2, ⟨#[98]⟩, 1⟩ (t : Int)) (List.range 1)) ++ []) = _
  simp [e1, e2]
theorem u_cmp : (cmpV two7 [] 0).length = 2 := by
  unfold cmpV
  rw [if_pos ⟨u_ok, by decide⟩]
  unfold idsV
  rw [u_srt]
  decide +kernel
theorem u_ex1 : exaB two7 (bldV two7 2) 1 = true := by
  unfold exaB
  have e : bldE two7 1 = 0 := by unfold bldE; rw [if_pos u_ok, if_pos (by decide)]
  rw [decide_eq_true e, Bool.true_and]
  exact decide_eq_true rfl
theorem u_ex0 : exaB two7 [] 0 = false := by
  unfold exaB
  have h : ¬ ([] : List Ld) = bldV two7 (0 + 1 : Int).toNat := fun e => by
    have := congrArg List.length e
    rw [bld_len] at this
    simp [two7] at this
  rw [decide_eq_false h, Bool.and_false]
theorem u_con : conV two7 (bldV two7 2) = true := con_bld u_ok (by decide) (by decide)
theorem u_nrm : (nrmR two7 [] 3).length = 2 := by
  unfold nrmR
  rw [if_pos ⟨u_ok, by decide⟩, nrm_len, u_srt]
  rfl
theorem u_chkR : ichkR two7 [] 0 = [⟨4, 1, 0, 1, 0, 2⟩, ⟨4, 2, 0, 0, 0, 1⟩] := by
  unfold ichkR
  rw [if_pos ⟨u_ok, by decide⟩]
  exact u_chk
set_option maxHeartbeats 1600000 in
theorem eq_df (a b : Df) (w : World) : (Op.equalIn 10000 52 a.val b.val).run Tryz.prog w = .ok (decide (a = b)) w := by
  unfold Df.val
  rw [run_equalIn_agg w 9999 52 _ _ (by kernel_rfl) (by kernel_rfl)]
  obtain ⟨a1, a2, a3, a4, a5, a6⟩ := a
  obtain ⟨b1, b2, b3, b4, b5, b6⟩ := b
  by_cases h1 : a1 = b1
  · subst h1
    by_cases h2 : a2 = b2
    · subst h2
      by_cases h3 : a3 = b3
      · subst h3
        by_cases h4 : a4 = b4
        · subst h4
          by_cases h5 : a5 = b5
          · subst h5
            by_cases h6 : a6 = b6
            · subst h6
              simp [go_sem, Tryz.underlying52, Tryz.underlying3]
            · simp [go_sem, Tryz.underlying52, Tryz.underlying3, h6]
          · simp [go_sem, Tryz.underlying52, Tryz.underlying3, h5]
        · simp [go_sem, Tryz.underlying52, Tryz.underlying3, h4]
      · simp [go_sem, Tryz.underlying52, Tryz.underlying3, h3]
    · simp [go_sem, Tryz.underlying52, Tryz.underlying3, h2]
  · simp [go_sem, Tryz.underlying52, Tryz.underlying3, h1]
theorem eql_df (a b : Df) (w : World) : (binOp .eql 52 a.val b.val).run Tryz.prog w = .ok (.bool (decide (a = b))) w := by
  unfold Df.val
  rw [run_eql_struct]
  have := eq_df a b w
  unfold Df.val at this
  rw [this]
  rfl
theorem neq_df (a b : Df) (w : World) : (binOp .neq 52 a.val b.val).run Tryz.prog w = .ok (.bool (!decide (a = b))) w := by
  unfold Df.val
  rw [run_neq_struct]
  have := eq_df a b w
  unfold Df.val at this
  rw [this]
  rfl
theorem two_any (w : World) : Calls Tryz.prog 41 #[] w fun e w' => ∃ A, e = .returned (.slice A 2 2) ∧ Nds w' w'.heap.size A two7 ∧ Below w.heap.size w w' := by
  have hb := (Below.refl w.heap.size w).alloc (Nat.le_refl _) (.cells #[.int .i64 1, .string ⟨#[97]⟩, .int .u32 0, .int .i64 2, .string ⟨#[98]⟩, .int .u32 1] 59)
  have h2 : Nds (w.alloc (.cells #[.int .i64 1, .string ⟨#[97]⟩, .int .u32 0, .int .i64 2, .string ⟨#[98]⟩, .int .u32 1] 59)) (w.heap.size + 1) (some ⟨w.heap.size, 0, none⟩) two7 := fun _ => by
    have hN := Has.new w 59 #[.int .i64 1, .string ⟨#[97]⟩, .int .u32 0, .int .i64 2, .string ⟨#[98]⟩, .int .u32 1]
    refine ⟨_, 0, rfl, by omega, fun i hi => ?_⟩
    have h3 : i = 0 ∨ i = 1 := by simp [two7] at hi; omega
    rcases h3 with rfl | rfl
    · exact ⟨hN.cell 0, hN.cell 1, hN.cell 2⟩
    · exact ⟨hN.cell 3, hN.cell 4, hN.cell 5⟩
  go_enter Tryz.func41, Tryz.ntmps41
  go_wp2_with fail
  go_ret
  exact ⟨_, rfl, by rw [World.size_alloc]; exact h2, hb⟩
set_option maxRecDepth 100000 in
set_option maxHeartbeats 3200000 in
theorem sane7_any (w : World) (hT : Deb w) : Calls Tryz.prog 16 #[] w (LawP w) := by
  have T := Lib.hid two_any
  have hnil : ∀ W : World, Lds W W.heap.size none [] := fun W h => absurd rfl h
  have hwd : ∀ x ∈ two7, x.word < 4294967296 := fun x hx => (wide_of u_ok x hx).2
  have HBL := Lib.hid (fun (A : Option Addr) (W : World) (h : Nds W W.heap.size A two7) => build_ok A two7 2 1 W h u_ok (by decide))
  have HCH := Lib.hid (fun (A : Option Addr) (W : World) (h : Nds W W.heap.size A two7) (hD : Deb W) => icheck_any A none two7 [] 2 0 0 W h (hnil W) (fun _ h => by cases h) (by unfold maxLen; decide) (fun _ h => by cases h) hD hwd)
  have HCM := Lib.hid (fun (A : Option Addr) (W : World) (h : Nds W W.heap.size A two7) => icomps_any A none two7 [] 2 0 0 W h (hnil W) (fun _ h => by cases h) (by unfold maxLen; decide) (fun _ h => by cases h) hwd)
  have HEX := Lib.hid (fun (A A2 : Option Addr) (W : World) (h : Nds W W.heap.size A two7) (h2 : Lds W W.heap.size A2 (bldV two7 2)) => exact_any A A2 two7 (bldV two7 2) 2 2 1 W h h2 (by rw [bld_len]; unfold maxLen; decide) hwd)
  have HE0 := Lib.hid (fun (A : Option Addr) (W : World) (h : Nds W W.heap.size A two7) => exact_any A none two7 [] 2 0 0 W h (hnil W) (by unfold maxLen; decide) hwd)
  have HBI : Hid (∀ x ∈ bldV two7 2, (-9223372036854775808 ≤ x.id ∧ x.id ≤ 9223372036854775807) ∧ x.levels.length = 2 ∧ ∀ y ∈ x.levels, (-9223372036854775808 ≤ y.left ∧ y.left ≤ 9223372036854775807) ∧ (-9223372036854775808 ≤ y.right ∧ y.right ≤ 9223372036854775807)) := Lib.hid (by rw [u_bld]; decide)
  have HCN := Lib.hid (fun (A A2 : Option Addr) (W : World) (h : Nds W W.heap.size A two7) (h2 : Lds W W.heap.size A2 (bldV two7 2)) => iconn_any A A2 two7 (bldV two7 2) 2 2 W h h2 (fun x hx => (HBI.out x hx).1) (by rw [bld_len]; unfold maxLen; decide) (fun x hx => (HBI.out x hx).2.2) hwd)
  have HNR := Lib.hid (fun (A : Option Addr) (W : World) (h : Nds W W.heap.size A two7) => normal_any A none two7 [] 2 0 3 W h (hnil W) (fun _ h => by cases h) (by unfold maxLen; decide) hwd)
  rw [u_chkR] at HCH
  rw [u_ex1] at HEX
  rw [u_ex0] at HE0
  rw [u_con] at HCN
  have HCL : Hid ((cmpV two7 [] 0).length = 2) := Lib.hid u_cmp
  have HNL : Hid ((nrmR two7 [] 3).length = 2) := Lib.hid u_nrm
  have hBL2 : (bldV two7 2).length = 2 := by rw [bld_len]; rfl
  rw [hBL2] at HEX HCN
  have HBN := Lib.hid hBL2
  have HBM : Hid (∀ x ∈ bldV two7 2, x.levels.length ≤ maxLen) := Lib.hid fun x hx => by rw [(HBI.out x hx).2.1]; unfold maxLen; omega
  generalize cmpV two7 [] 0 = CM at *
  generalize nrmR two7 [] 3 = NR at *
  generalize bldV two7 (1 + 1) = BV at *
  have EQ := eql_df ⟨4, 1, 0, 1, 0, 2⟩ ⟨4, 1, 0, 1, 0, 2⟩
  rw [decide_eq_true (rfl : (⟨4, 1, 0, 1, 0, 2⟩ : Df) = ⟨4, 1, 0, 1, 0, 2⟩)] at EQ
  unfold Df.val at EQ
  simp only at EQ
  have HT := Lib.hid hT
  clear hT hnil hwd hBL2 HBI
  go_enter Tryz.func16, Tryz.ntmps16
  go_wp2_with fail
  refine (T.out w).mono ?_
  rintro e w1 ⟨A1, rfl, hr1, hb1⟩
  have H1 := Lib.hid (HCH.out A1 w1 hr1 (HT.out.below hb1))
  have HB1 := Lib.hid hb1
  clear hr1 hb1 HCH
  go_wp2_with fail
  refine (H1.out).mono ?_
  rintro e w2 ⟨v2, rfl, ho2, hb2⟩
  obtain ⟨A2, c2, hv2, hr2⟩ := ho2.read
  have hv2' : v2 = .slice A2 2 c2 := hv2
  subst hv2'
  have HB2 := Lib.hid (HB1.out.trans (hb2.mono HB1.out.size))
  have HR2 := Lib.hid hr2
  clear hb2 HB1 H1 ho2 hr2 hv2
  go_wp2_with fail
  refine (T.out w2).mono ?_
  rintro e w3 ⟨A3, rfl, hr3, hb3⟩
  have H3 := Lib.hid (HBL.out A3 w3 hr3)
  have HB3 := Lib.hid (HB2.out.trans (hb3.mono HB2.out.size))
  have HR3 := Lib.hid (HR2.out.below hb3)
  have HS3 := Lib.hid hb3.size
  clear hr3 hb3 HBL HB2 HR2
  go_wp2_with fail
  refine (H3.out).mono ?_
  rintro e w4 ⟨g, H, hg, rfl, hD, hb4⟩
  have HB4 := Lib.hid (HB3.out.trans (hb4.mono HB3.out.size))
  have HD4 := Lib.hid (hD.read HBM.out)
  have hr4 := (HR3.out.more HS3.out).below hb4
  obtain ⟨b, o, eA, hbl, hcc⟩ := hr4 (by simp)
  subst eA
  have d0 : w4.cell? ⟨b, o, none⟩ = some (.int .i64 4) := hcc 0 (by simp) 0 (by omega)
  have d1 : w4.cell? ⟨b, o + 1, none⟩ = some (.int .i64 1) := hcc 0 (by simp) 1 (by omega)
  have d2 : w4.cell? ⟨b, o + 2, none⟩ = some (.int .i64 0) := hcc 0 (by simp) 2 (by omega)
  have d3 : w4.cell? ⟨b, o + 3, none⟩ = some (.int .i64 1) := hcc 0 (by simp) 3 (by omega)
  have d4 : w4.cell? ⟨b, o + 4, none⟩ = some (.int .i64 0) := hcc 0 (by simp) 4 (by omega)
  have d5 : w4.cell? ⟨b, o + 5, none⟩ = some (.int .i64 2) := hcc 0 (by simp) 5 (by omega)
  rw [HBN.out]
  clear hb4 HB3 HR3 H3 hD hg hr4 hcc hbl
  have hBo := HB4.out
  go_wp2_with fail
  refine (T.out _).mono ?_
  rintro e w5 ⟨A5, rfl, hr5, hb5⟩
  have H5 := Lib.hid (HCM.out A5 w5 hr5)
  have HB5 := Lib.hid (HB4.out.trans (hb5.mono HB4.out.size))
  have HD5 := Lib.hid ((HD4.out.below hb5).more hb5.size)
  clear hr5 hb5 HCM HB4 HD4 hBo d0 d1 d2 d3 d4 d5 EQ
  go_wp2_with fail
  refine (H5.out).mono ?_
  rintro e w6 ⟨A6, c6, rfl, _, hb6⟩
  rw [HCL.out]
  have HB6 := Lib.hid (HB5.out.trans (hb6.mono HB5.out.size))
  have HD6 := Lib.hid ((HD5.out.below hb6).more hb6.size)
  clear hb6 HB5 HD5 H5
  go_wp2_with fail
  refine (T.out _).mono ?_
  rintro e w7 ⟨A7, rfl, hr7, hb7⟩
  have HD7 := Lib.hid ((HD6.out.below hb7).more hb7.size)
  have H7 := Lib.hid (HEX.out A7 (some ⟨g, 0, none⟩) w7 hr7 HD7.out)
  have HB7 := Lib.hid (HB6.out.trans (hb7.mono HB6.out.size))
  clear hr7 hb7 HEX HB6 HD6
  go_wp2_with fail
  refine (H7.out).mono ?_
  rintro e w8 ⟨rfl, hb8⟩
  have HB8 := Lib.hid (HB7.out.trans (hb8.mono HB7.out.size))
  have HD8 := Lib.hid ((HD7.out.below hb8).more hb8.size)
  clear hb8 HB7 HD7 H7
  go_wp2_with fail
  refine (T.out _).mono ?_
  rintro e w9 ⟨A9, rfl, hr9, hb9⟩
  have H9 := Lib.hid (HE0.out A9 w9 hr9)
  have HB9 := Lib.hid (HB8.out.trans (hb9.mono HB8.out.size))
  have HD9 := Lib.hid ((HD8.out.below hb9).more hb9.size)
  clear hr9 hb9 HE0 HB8 HD8
  go_wp2_with fail
  refine (H9.out).mono ?_
  rintro e wa ⟨rfl, hba⟩
  have HBA := Lib.hid (HB9.out.trans (hba.mono HB9.out.size))
  have HDA := Lib.hid ((HD9.out.below hba).more hba.size)
  clear hba HB9 HD9 H9
  go_wp2_with fail
  refine (T.out _).mono ?_
  rintro e wb ⟨Ab, rfl, hrb, hbb⟩
  have HDB := Lib.hid ((HDA.out.below hbb).more hbb.size)
  have HBc := Lib.hid (HCN.out Ab (some ⟨g, 0, none⟩) wb hrb HDB.out)
  have HBB := Lib.hid (HBA.out.trans (hbb.mono HBA.out.size))
  clear hrb hbb HCN HBA HDA
  go_wp2_with fail
  refine (HBc.out).mono ?_
  rintro e wc ⟨rfl, hbc⟩
  have HBC := Lib.hid (HBB.out.trans (hbc.mono HBB.out.size))
  clear hbc HBB HDB HBc
  go_wp2_with fail
  refine (T.out _).mono ?_
  rintro e wd ⟨Ad, rfl, hrd, hbd⟩
  have HNd := Lib.hid (HNR.out Ad wd hrd)
  have HBD := Lib.hid (HBC.out.trans (hbd.mono HBC.out.size))
  clear hrd hbd HNR HBC
  go_wp2_with fail
  refine (HNd.out).mono ?_
  rintro e we ⟨ve, rfl, hoe, hbe⟩
  obtain ⟨Ae, ce, hve⟩ := hoe.shape
  rw [HNL.out] at hve
  subst hve
  have HBE := Lib.hid (HBD.out.trans (hbe.mono HBD.out.size))
  clear hoe hbe HBD HNd
  go_wp2_with fail
  go_ret
  exact ⟨rfl, HBE.out⟩
end Go.Proofs.YteepijefbdbhoaaGreatDoor
