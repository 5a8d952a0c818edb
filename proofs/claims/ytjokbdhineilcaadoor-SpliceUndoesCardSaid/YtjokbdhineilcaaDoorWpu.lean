/-
  The walk of SpliceUndoes: from whatever numbers it answers true and only makes memory. Conditions: the arguments can be read; 'letters' and the table of trailing zeros are as their initialisers lay them.
-/
import Derived.Test.YtjokbdhineilcaaDoorLxJ
import Derived.Test.YtjokbdhineilcaaDoorLnC
import Derived.Test.YtjokbdhineilcaaDoorLgJ
import Derived.Test.YtjokbdhineilcaaDoorKhU
import Derived.Deep.DeepCutAuto
import Derived.Deep.CutBlock
namespace Go.Proofs.YtjokbdhineilcaaDoor
open Go.RowKit Go.Maps

theorem dblk_step10 {w w' : World} {gt g : Nat} {H : Nat → Nat} {ls : List Ld} {r : List (Int × Value)} (h : DBlk w g H ls r) (k : TStep w gt w') (hg : gt < g) : DBlk w' g H ls r :=
  ⟨(k.2.block g h.outer.lt (fun e => by have := Option.some.inj e; omega)).trans h.outer, fun j hj => ⟨(h.inner j hj).1, (k.2.block (H j) (h.inner j hj).2.lt (fun e => by have := Option.some.inj e; have := (h.inner j hj).1; omega)).trans (h.inner j hj).2⟩, h.mono⟩
set_option maxRecDepth 100000 in
set_option maxHeartbeats 1600000 in
theorem undoes_walk (A : Option Addr) (n0 cp : Nat) (w : World) (hL : Lets w) (hnc : n0 ≤ cp) (hc : cp ≤ maxLen) (hN : Nums w w.heap.size A n0) :
    Calls Tryd.prog 3 #[.slice A n0 cp] w (LawP w) := by
  have HSA := Lib.hid (fun (W : World) => sane10_any W)
  go_enter Tryd.func3, Tryd.ntmps3
  go_wp2_with fail
  refine (new_any A n0 cp _ hnc hc hN).mono ?_
  rintro e w1 ⟨g, hg1, rfl, hTp, hb1⟩
  have hne2 : 0 ≠ g := by have := hL.lt; omega
  have l1 := hL.below hb1
  clear hN hnc hc hL
  go_wp2_with fail
  refine (some_any 8 g w1 (by omega) (by omega) hTp l1 hne2).mono ?_
  rintro e w2 ⟨A2, c2, l, rfl, ho, hl0, hl8, hchk, hst⟩
  have hB2 : Below w.heap.size w w2 := hb1.grown hst.2 hb1.size (fun j e => by have := Option.some.inj e; omega)
  have hTp2 := hst.1
  have hg2 : g < w1.heap.size := hTp.lt
  obtain ⟨G, c, er, hGb, hGl, hcap, hcap2, hnd⟩ := ho.open_ hl0
  injection er with e1 _ e2
  subst e1 e2
  have hA2 : G ≠ g := by omega
  have HCK := Lib.hid hchk
  have hln1 : 1 ≤ l.length := List.length_pos_iff.2 hl0
  obtain ⟨n, hn⟩ : ∃ n, n = l.length := ⟨_, rfl⟩
  rw [← hn] at hl8 hln1 hcap ⊢
  have HN := Lib.hid hn
  have HND := Lib.hid hnd
  have HB2 := Lib.hid hB2
  clear hst l1 hTp hb1 ho hchk hl0 hn hnd hB2
  go_wp2_with fail
  refine (next_any g 4 w2 hTp2 (by omega)).mono ?_
  rintro e w3 ⟨r, r0, r1, rfl, hst3⟩
  obtain ⟨m, rfl⟩ : ∃ m : Nat, r = (m : Int) := ⟨r.toNat, by omega⟩
  have hm : m ≤ 3 := by omega
  have HN3 := Lib.hid (nds_step HND.out (fun b o e => by injection e with e; injection e with e1 _; omega) hst3)
  have HB3 := Lib.hid (HB2.out.grown hst3.2 HB2.out.size (fun j e => by have := Option.some.inj e; omega))
  have hT3 := hst3.1
  clear r0 r1 hst3 HND HB2 hTp2
  go_wp2_with fail
  refine (next_any g n w3 hT3 (by omega)).mono ?_
  rintro e w4 ⟨r2, s0, s1, rfl, hst4⟩
  obtain ⟨j, rfl⟩ : ∃ m : Nat, r2 = (m : Int) := ⟨r2.toNat, by omega⟩
  have hj : j < n := by omega
  have j2 : j < l.length := by rw [← HN.out]; exact hj
  have hnd4 := nds_step HN3.out (fun b o e => by injection e with e; injection e with e1 _; omega) hst4
  obtain ⟨b, o, eA, hbl, f1, f2, f3⟩ := hnd4.at_ j2
  injection eA with eA
  injection eA with e1 e2 _
  subst e1 e2
  have hxl := List.getElem_mem j2
  obtain ⟨x, hx⟩ : ∃ x, x = l[j] := ⟨_, rfl⟩
  rw [← hx] at f1 f2 f3 hxl
  have HXL := Lib.hid hxl
  have HND4 := Lib.hid hnd4
  have HB4 := Lib.hid (HB3.out.grown hst4.2 HB3.out.size (fun jj e => by have := Option.some.inj e; omega))
  have HT4 := Lib.hid hst4.1
  have k0 : (0 : Int) ≤ (j : Int) := by omega
  have k1 : (j : Int) < (n : Int) := by omega
  clear hxl hx j2 hst4 hnd4 HN3 HB3 hT3 s0 s1
  have hch := HCK.out
  have hxl := HXL.out
  have hxw := wide_of hch x hxl
  have hr0 : chkV (wout l [x.id]) = 0 := chk_sub hch (wo_sub _ _)
  have hrw := wide_of hr0
  obtain ⟨hu1, hu2, hu3⟩ := undo hch hxl (m + 1)
  have hln : l.length ≤ 64 := (chkV_zero.1 hch).1
  have hrl : (wout l [x.id]).length ≤ 64 := (chkV_zero.1 hr0).1
  have hkn : (bldV l (m + 1)).length ≤ maxLen := by rw [bld_len]; unfold maxLen; omega
  have hkn2 : (bldV (wout l [x.id]) (m + 1)).length ≤ maxLen := by rw [bld_len]; unfold maxLen; omega
  have HWO := Lib.hid (fun (W : World) (A3 : Option Addr) (c3 : Nat) (h : Nds W W.heap.size (some ⟨G, 0, none⟩) l) (h2 : Ins W W.heap.size A3 [x.id]) => without_any (some ⟨G, 0, none⟩) A3 l c2 c3 [x.id] W h h2 (by omega) (by simp) (fun y hy => (wide_of hch y hy).1))
  have HBD := Lib.hid (fun (W : World) (h : Nds W W.heap.size (some ⟨G, 0, none⟩) l) => build_ok (some ⟨G, 0, none⟩) l c2 m W h hch (by omega))
  have HBE := Lib.hid (fun (W : World) (A3 : Option Addr) (c3 : Nat) (h : Nds W W.heap.size A3 (wout l [x.id])) => build_ok A3 (wout l [x.id]) c3 m W h hr0 (by omega))
  have HRM := Lib.hid (fun (W : World) (A4 : Option Addr) (c4 : Nat) (h : Nds W W.heap.size (some ⟨G, 0, none⟩) l) (h2 : Lds W W.heap.size A4 (bldV l (m + 1))) => (remove_any (some ⟨G, 0, none⟩) A4 l (bldV l (m + 1)) c2 c4 x.id (m : Int) W h h2 hkn (fun y hy => (wide_of hch y hy).2)).mono fun e w' k => remP_ok k (rem_ok hch (by omega) (plc_mem hxl)) rfl rfl)
  have HIN := Lib.hid (fun (W : World) (A3 A4 : Option Addr) (c3 c4 : Nat) (id : Int) (hid : I64 id) (hp : wout l [x.id] = [] ∨ plc (wout l [x.id]) id < (wout l [x.id]).length) (h : Nds W W.heap.size A3 (wout l [x.id])) (h2 : Lds W W.heap.size A4 (bldV (wout l [x.id]) (m + 1))) => (insert_any A3 A4 (wout l [x.id]) (bldV (wout l [x.id]) (m + 1)) x c3 c4 id (m : Int) W h h2 hkn2 (fun y hy => (hrw y hy).2) hxw hid).mono fun e w' k => insP_ok k (ins_ok hu1 (by omega) hp) hu2 rfl)
  have HSM := Lib.hid (fun (W : World) (A5 A6 : Option Addr) (c5 c6 : Nat) (h5 : Lds W W.heap.size A5 (bldV l (m + 1))) (h6 : Lds W W.heap.size A6 (bldV l (m + 1))) => (by
    have := rsame6_any A5 A6 (bldV l (m + 1)) (bldV l (m + 1)) c5 c6 W h5 h6 (by rw [bld_len]; omega)
    rw [decide_eq_true rfl] at this
    exact this))
  have HSN := Lib.hid (fun (W : World) (A5 A6 : Option Addr) (c5 c6 : Nat) (h5 : Lds W W.heap.size A5 (bldV (wout l [x.id]) (m + 1))) (h6 : Lds W W.heap.size A6 (bldV (wout l [x.id]) (m + 1))) => (by
    have := rsame6_any A5 A6 (bldV (wout l [x.id]) (m + 1)) (bldV (wout l [x.id]) (m + 1)) c5 c6 W h5 h6 (by rw [bld_len]; omega)
    rw [decide_eq_true rfl] at this
    exact this))
  have HBV := Lib.hid (fun (y : Ld) (hy : y ∈ bldV l (m + 1)) => (by rw [bld_lev l _ y hy]; unfold maxLen; omega : y.levels.length ≤ maxLen))
  have HBW := Lib.hid (fun (y : Ld) (hy : y ∈ bldV (wout l [x.id]) (m + 1)) => (by rw [bld_lev _ _ y hy]; unfold maxLen; omega : y.levels.length ≤ maxLen))
  have hrn : (wout l [x.id]).length = n - 1 := by rw [wout_len hch hxl, ← HN.out]
  have HRP := Lib.hid (fun (i : Nat) (h : i < (wout l [x.id]).length) => (⟨plc_mem (List.getElem_mem h), (hrw _ (List.getElem_mem h)).1⟩ : plc (wout l [x.id]) (wout l [x.id])[i].id < (wout l [x.id]).length ∧ I64 (wout l [x.id])[i].id))
  unfold BldOk at HBD HBE
  generalize bldV l (m + 1) = R at *
  generalize bldV (wout l [x.id]) (m + 1) = R2 at *
  generalize hrs : wout l [x.id] = rs at *
  obtain ⟨RN, hRN⟩ : ∃ n, n = R.length := ⟨_, rfl⟩
  obtain ⟨RN2, hRN2⟩ : ∃ n, n = R2.length := ⟨_, rfl⟩
  obtain ⟨SN, hSN⟩ : ∃ n, n = rs.length := ⟨_, rfl⟩
  have HRN := Lib.hid hRN
  have HRN2 := Lib.hid hRN2
  have HSN2 := Lib.hid hSN
  have HXW := Lib.hid hxw.1
  rw [← hRN] at HBD HRM HSM
  rw [← hRN2] at HBE HIN HSN
  rw [← hSN] at HBE HIN hrn
  rw [← HN.out] at HWO HBD HRM
  obtain ⟨xi, xk, xw⟩ := x
  simp only [Nat.zero_add] at f1 f2 f3
  simp only at *
  have HSNN := Lib.hid hrn
  clear hch hxl hxw hr0 hrw hu1 hu2 hu3 hln hrl hkn hkn2 hRN hRN2 hSN hrs hrn
  have hbX := (Below.refl w4.heap.size w4).alloc (Nat.le_refl _) (.cells #[.int .i64 xi, .string xk, .int .u32 (xw : Int)] 30)
  have HX5 := Lib.hid (Has.new w4 30 #[.int .i64 xi, .string xk, .int .u32 (xw : Int)])
  have HND5 := Lib.hid ((HND4.out.below hbX).more hbX.size)
  have HB5 := Lib.hid (HB4.out.trans (hbX.mono HB4.out.size))
  have HT5 := Lib.hid ((TStep.refl HT4.out).below hbX)
  obtain ⟨W5, hW5⟩ : ∃ W : World, W = w4.alloc (.cells #[.int .i64 xi, .string xk, .int .u32 (xw : Int)] 30) := ⟨_, rfl⟩
  obtain ⟨X, hX⟩ : ∃ X, X = w4.heap.size := ⟨_, rfl⟩
  rw [← hX] at HX5
  rw [← hW5] at HX5 HND5 HB5 HT5
  have HTP5 : Hid (Tape W5 g) := Lib.hid HT5.out.1
  have hgX : g < X := by rw [hX]; exact HT4.out.lt
  clear HB4 HND4 hbX HT4 HT5
  go_upto_region 4 with fail
  rw [← hW5, ← hX]
  clear hW5 hX f1 f2 f3 hbl hGb hGl
  have x0 := HX5.out.cell 0
  go_wp2_with fail
  obtain ⟨w6, hw6⟩ : ∃ w6, w6 = W5.alloc (.cells #[.int .i64 xi] 3) := ⟨_, rfl⟩
  have hk6 : Below W5.heap.size W5 w6 := by rw [hw6]; exact (Below.refl W5.heap.size W5).alloc (Nat.le_refl _) _
  have hX6 : Has w6 W5.heap.size 3 #[.int .i64 xi] := by rw [hw6]; exact Has.new _ _ _
  have HN6 := Lib.hid ((HND5.out.below hk6).more hk6.size)
  have HX6 := Lib.hid (HX5.out.below hk6)
  have HB6 := Lib.hid (HB5.out.trans (hk6.mono HB5.out.size))
  have HT6 := Lib.hid (HTP5.out.below hk6)
  have HW6 := Lib.hid (HWO.out w6 (some ⟨W5.heap.size, 0, none⟩) 1 HN6.out (one_int10 HXW.out hX6))
  rw [← hw6]
  clear hk6 hX6 hw6 HND5 HX5 HB5 HTP5 HWO x0
  refine (HW6.out).mono ?_
  rintro e w7 ⟨A7, c7, rfl, ho7, hb7⟩
  obtain ⟨_, _, er, hnd7⟩ := ho7.read
  injection er with e1 e3 e2
  clear e3
  subst e1 e2
  rw [← HSN2.out]
  have hA7 : ∀ b o, A7 = some ⟨b, o, none⟩ → b ≠ g := fun b o e => by
    have h1 := (ho7.lt b (by rw [e]; rfl)).1
    have h2 := HT6.out.lt
    omega
  have HS7 := Lib.hid hnd7
  have HN7 := Lib.hid ((HN6.out.below hb7).more hb7.size)
  have HX7 := Lib.hid (HX6.out.below hb7)
  have HB7 := Lib.hid (HB6.out.trans (hb7.mono HB6.out.size))
  have HT7 := Lib.hid (HT6.out.below hb7)
  have HBD7 := Lib.hid (HBD.out w7 HN7.out)
  clear ho7 hnd7 hb7 HW6 HN6 HX6 HB6 HT6 HBD
  go_wp2_with fail
  refine (HBD7.out).mono ?_
  rintro e w8 ⟨g8, H8, hg8, rfl, hD8, hb8⟩
  have HR8 := Lib.hid hD8
  have HS8 := Lib.hid ((HS7.out.below hb8).more hb8.size)
  have HN8 := Lib.hid ((HN7.out.below hb8).more hb8.size)
  have HX8 := Lib.hid (HX7.out.below hb8)
  have HB8 := Lib.hid (HB7.out.trans (hb8.mono HB7.out.size))
  have HT8 := Lib.hid (HT7.out.below hb8)
  have HBE8 := Lib.hid (HBE.out w8 A7 c7 HS8.out)
  have hgg8 : g < g8 := by have := HT7.out.lt; omega
  clear hD8 hb8 hg8 HBD7 HS7 HN7 HX7 HB7 HT7 HBE
  go_wp2_with fail
  refine (HBE8.out).mono ?_
  rintro e w9 ⟨g9, H9, hg9, rfl, hD9, hb9⟩
  have HQ9 := Lib.hid hD9
  have HR9 := Lib.hid (HR8.out.below hb9)
  have HS9 := Lib.hid ((HS8.out.below hb9).more hb9.size)
  have HN9 := Lib.hid ((HN8.out.below hb9).more hb9.size)
  have HX9 := Lib.hid (HX8.out.below hb9)
  have HB9 := Lib.hid (HB8.out.trans (hb9.mono HB8.out.size))
  have HT9 := Lib.hid (HT8.out.below hb9)
  have hgg9 : g < g9 := by have := HT8.out.lt; omega
  clear hD9 hb9 hg9 HBE8 HR8 HS8 HN8 HX8 HB8 HT8
  have hwn : IntKind.i64.wrap ((n : Int) - 1) = (SN : Int) := by rw [IntWalk.i64_in _ (by omega)]; have := HSNN.out; omega
  have hsz : ((SN : Int) != (SN : Int)) = false := by simp
  have x0 := HX9.out.cell 0
  have hS64 : SN ≤ 64 := by have := HSNN.out; omega
  go_upto_region 10 with fail
  go_upto_if 70 with fail
  go_cut [12] (fun s wx => ∃ fid : Int, s = .int .i64 fid ∧ I64 fid ∧ Hid (rs = [] ∨ plc rs fid < SN) ∧ TStep w9 g wx)
  case first =>
    by_cases hz : SN = 0
    · have hzi : ¬ ((0 : Int) < (SN : Int)) := by omega
      have hrs0 : Hid (rs = []) := Lib.hid (List.eq_nil_of_length_eq_zero (by rw [← HSN2.out]; exact hz))
      have HTR := Lib.hid (TStep.refl HT9.out)
      clear hz
      go_wp2_with fail
      go_meet
      exact ⟨xi, rfl, HXW.out, Lib.hid (.inl hrs0.out), HTR.out⟩
    · have hzi : ((0 : Int) < (SN : Int)) := by omega
      go_wp2_with fail
      refine (next_any g SN w9 HT9.out (by omega)).mono ?_
      rintro e wa ⟨r3, t0, t1, rfl, hsta⟩
      obtain ⟨q, rfl⟩ : ∃ m : Nat, r3 = (m : Int) := ⟨r3.toNat, by omega⟩
      have hq : q < SN := by omega
      have q2 : q < rs.length := by rw [← HSN2.out]; exact hq
      have hnda := nds_step HS9.out hA7 hsta
      obtain ⟨b7, o7, eA, hbl7, g1, g2, g3⟩ := hnda.at_ q2
      subst eA
      have HRQ := Lib.hid (HRP.out q q2)
      rw [← HSN2.out] at HRQ
      generalize rs[q].id = fid at *
      have q0 : (0 : Int) ≤ (q : Int) := by omega
      have q1 : (q : Int) < (SN : Int) := by omega
      have HSTA := Lib.hid hsta
      clear hz t0 t1 hsta hnda
      go_wp2_with fail
      go_meet
      exact ⟨fid, rfl, HRQ.out.2, Lib.hid (.inr HRQ.out.1), HSTA.out⟩
  case rest =>
  obtain ⟨fid, rfl, hfid, HFP, hts⟩ := hcut
  have HNC := Lib.hid (nds_step HN9.out (fun b o e => by injection e with e; injection e with e1 _; omega) hts)
  have HSC := Lib.hid (nds_step HS9.out hA7 hts)
  have HRC := Lib.hid ((dblk_step10 HR9.out hts hgg8).read fun x hx => HBV.out x hx)
  have HQC := Lib.hid ((dblk_step10 HQ9.out hts hgg9).read fun x hx => HBW.out x hx)
  have HXC : Hid (Has wc X 30 #[.int .i64 xi, .string xk, .int .u32 (xw : Int)]) := Lib.hid ((hts.2.block X HX9.out.lt (fun e => by have := Option.some.inj e; omega)).trans HX9.out)
  have HBC := Lib.hid (HB9.out.grown hts.2 HB9.out.size (fun jj e => by have := Option.some.inj e; omega))
  have hbw : IntKind.i64.wrap ((n : Int) - 1) = (SN : Int) := hwn
  have HRMC := Lib.hid (HRM.out wc (some ⟨g8, 0, none⟩) RN HNC.out HRC.out)
  have x0 := HXC.out.cell 0
  clear hts HN9 HS9 HR9 HQ9 HX9 HB9 HT9 hwn hbw HRP HBV HBW
  go_wp2_with fail
  refine (HRMC.out).mono ?_
  rintro e wd ⟨v1, rfl, ho1, hbd⟩
  obtain ⟨A11, c11, rfl, -, -, hr11⟩ := ho1.read
  rw [← HRN2.out]
  have HPD := Lib.hid hr11
  have HND := Lib.hid ((HNC.out.below hbd).more hbd.size)
  have HSD := Lib.hid ((HSC.out.below hbd).more hbd.size)
  have HRD := Lib.hid ((HRC.out.below hbd).more hbd.size)
  have HQD := Lib.hid ((HQC.out.below hbd).more hbd.size)
  have HXD := Lib.hid (HXC.out.below hbd)
  have HBD2 := Lib.hid (HBC.out.trans (hbd.mono HBC.out.size))
  have HIND := Lib.hid (HIN.out wd A7 A11 c7 c11 fid hfid HFP.out HSD.out HPD.out)
  have x0 := HXD.out.cell 0
  have x1 := HXD.out.cell 1
  have x2 := HXD.out.cell 2
  clear ho1 hr11 hbd HRMC HNC HSC HRC HQC HXC HBC HIN
  go_wp2_with fail
  refine (HIND.out).mono ?_
  rintro e we ⟨v2, rfl, ho2, hbe⟩
  obtain ⟨A12, c12, rfl, -, -, hr12⟩ := ho2.read
  rw [← HRN.out]
  have HPE := Lib.hid ((HPD.out.below hbe).more hbe.size)
  have HYE := Lib.hid hr12
  have HNE := Lib.hid ((HND.out.below hbe).more hbe.size)
  have HRE := Lib.hid ((HRD.out.below hbe).more hbe.size)
  have HQE := Lib.hid ((HQD.out.below hbe).more hbe.size)
  have HXE := Lib.hid (HXD.out.below hbe)
  have HBE2 := Lib.hid (HBD2.out.trans (hbe.mono HBD2.out.size))
  have HRME := Lib.hid (HRM.out we A12 c12 HNE.out HYE.out)
  have x0 := HXE.out.cell 0
  clear ho2 hr12 hbe HIND HND HSD HRD HQD HXD HBD2 HPD HRM x1 x2
  go_wp2_with fail
  refine (HRME.out).mono ?_
  rintro e wf ⟨v3, rfl, ho3, hbf⟩
  obtain ⟨A13, c13, rfl, -, -, hr13⟩ := ho3.read
  rw [← HRN2.out]
  have HPF := Lib.hid ((HPE.out.below hbf).more hbf.size)
  have HYF := Lib.hid ((HYE.out.below hbf).more hbf.size)
  have HZF := Lib.hid hr13
  have HRF := Lib.hid ((HRE.out.below hbf).more hbf.size)
  have HQF := Lib.hid ((HQE.out.below hbf).more hbf.size)
  have HBF := Lib.hid (HBE2.out.trans (hbf.mono HBE2.out.size))
  have HS1 := Lib.hid (HSN.out wf A11 (some ⟨g9, 0, none⟩) c11 RN2 HPF.out HQF.out)
  have HS2 := Lib.hid (fun (W : World) (k : Below wf.heap.size wf W) => HSM.out W A12 (some ⟨g8, 0, none⟩) c12 RN ((HYF.out.below k).more k.size) ((HRF.out.below k).more k.size))
  have HS3 := Lib.hid (fun (W : World) (k : Below wf.heap.size wf W) => HSN.out W A13 (some ⟨g9, 0, none⟩) c13 RN2 ((HZF.out.below k).more k.size) ((HQF.out.below k).more k.size))
  clear ho3 hr13 hbf HRME HNE HRE HQE HXE HBE2 HPE HYE HPF HYF HZF HRF HQF HSN HSM x0
  go_wp2_with fail
  refine (HS1.out).mono ?_
  rintro e wg ⟨rfl, hbg⟩
  have HK1 := Lib.hid hbg
  clear hbg HS1
  go_wp2_with fail
  refine (HS2.out _ HK1.out).mono ?_
  rintro e wh ⟨rfl, hbh⟩
  have HK2 := Lib.hid (HK1.out.trans (hbh.mono HK1.out.size))
  clear hbh HS2 HK1
  go_wp2_with fail
  refine (HS3.out _ HK2.out).mono ?_
  rintro e wi ⟨rfl, hbi⟩
  have HK3 := Lib.hid (HBF.out.trans ((HK2.out.trans (hbi.mono HK2.out.size)).mono HBF.out.size))
  clear hbi HS3 HK2 HBF
  go_wp2_with fail
  refine (HSA.out _).mono ?_
  rintro e wz ⟨rfl, hbz⟩
  have HBZ := Lib.hid (HK3.out.trans (hbz.mono HK3.out.size))
  clear hbz
  go_wp2_with fail
  go_ret
  exact ⟨rfl, HBZ.out⟩
end Go.Proofs.YtjokbdhineilcaaDoor
