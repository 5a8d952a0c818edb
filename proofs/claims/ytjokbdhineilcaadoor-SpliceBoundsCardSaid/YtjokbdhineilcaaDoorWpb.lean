/-
  The walk of SpliceBounds: from whatever numbers it answers true and only makes memory. Conditions: the arguments can be read; 'letters' and the table of trailing zeros are as their initialisers lay them.
-/
import Derived.Test.YtjokbdhineilcaaDoorLxJ
import Derived.Test.YtjokbdhineilcaaDoorKxE
import Derived.Test.YtjokbdhineilcaaDoorLnC
import Derived.Test.YtjokbdhineilcaaDoorLgJ
import Derived.Test.YtjokbdhineilcaaDoorKhU
import Derived.Deep.DeepCutAuto
import Derived.Deep.CutBlock
namespace Go.Proofs.YtjokbdhineilcaaDoor
open Go.RowKit Go.Maps

theorem dblk_step11 {w w' : World} {gt g : Nat} {H : Nat → Nat} {ls : List Ld} {r : List (Int × Value)} (h : DBlk w g H ls r) (k : TStep w gt w') (hg : gt < g) : DBlk w' g H ls r :=
  ⟨(k.2.block g h.outer.lt (fun e => by have := Option.some.inj e; omega)).trans h.outer, fun j hj => ⟨(h.inner j hj).1, (k.2.block (H j) (h.inner j hj).2.lt (fun e => by have := Option.some.inj e; have := (h.inner j hj).1; omega)).trans (h.inner j hj).2⟩, h.mono⟩
theorem wout_nil {l : List Nd} (hc : chkV l = 0) {x : Nd} (hx : x ∈ l) (h : wout l [x.id] = []) : l.length = 1 := by
  have := wout_len hc hx
  have h1 : 1 ≤ l.length := by cases l with
    | nil => simp at hx
    | cons y L => simp
  rw [h] at this
  simp at this
  omega
set_option maxRecDepth 100000 in
set_option maxHeartbeats 1600000 in
theorem bounds10_walk (A : Option Addr) (n0 cp : Nat) (w : World) (hL : Lets w) (hT : Deb w) (hnc : n0 ≤ cp) (hc : cp ≤ maxLen) (hN : Nums w w.heap.size A n0) :
    Calls Tryd.prog 5 #[.slice A n0 cp] w (LawP w) := by
  have HSA := Lib.hid (fun (W : World) => sane10_any W)
  have HDB := Lib.hid (fun (W : World) (j : Below w.heap.size w W) => hT.below j)
  go_enter Tryd.func5, Tryd.ntmps5
  go_wp2_with fail
  refine (new_any A n0 cp _ hnc hc hN).mono ?_
  rintro e w1 ⟨g, hg1, rfl, hTp, hb1⟩
  have hne2 : 0 ≠ g := by have := hL.lt; omega
  have l1 := hL.below hb1
  clear hN hnc hc hL hT
  go_wp2_with fail
  refine (some_any 9 g w1 (by omega) (by omega) hTp l1 hne2).mono ?_
  rintro e w2 ⟨A2, c2, l, rfl, ho, hl0, hl8, hchk, hst⟩
  have hB2 : Below w.heap.size w w2 := hb1.grown hst.2 hb1.size (fun j e => by have := Option.some.inj e; omega)
  have hTp2 := hst.1
  have hg2 : g < w1.heap.size := hTp.lt
  obtain ⟨G, c, er, hGb, hGl, hcap, hcap2, hnd⟩ := ho.open_ hl0
  injection er with e1 _ e2
  subst e1 e2
  have hA2 : G ≠ g := by omega
  have HCK := Lib.hid hchk
  have hln1 : 1 ≤ l.length := List.length_pos_iff.2 hl0
  obtain ⟨n, hn⟩ : ∃ n, n = l.length := ⟨_, rfl⟩
  rw [← hn] at hl8 hln1 hcap ⊢
  have HN := Lib.hid hn
  have HND := Lib.hid hnd
  have HB2 := Lib.hid hB2
  have hT3 := hTp2
  clear hst l1 hTp hb1 ho hchk hl0 hn hnd hB2 hTp2
  go_wp2_with fail
  refine (next_any g n w2 hT3 (by omega)).mono ?_
  rintro e w4 ⟨r2, s0, s1, rfl, hst4⟩
  obtain ⟨j, rfl⟩ : ∃ m : Nat, r2 = (m : Int) := ⟨r2.toNat, by omega⟩
  have hj : j < n := by omega
  have j2 : j < l.length := by rw [← HN.out]; exact hj
  have hnd4 := nds_step HND.out (fun b o e => by injection e with e; injection e with e1 _; omega) hst4
  obtain ⟨b, o, eA, hbl, f1, f2, f3⟩ := hnd4.at_ j2
  injection eA with eA
  injection eA with e1 e2 _
  subst e1 e2
  have hxl := List.getElem_mem j2
  obtain ⟨x, hx⟩ : ∃ x, x = l[j] := ⟨_, rfl⟩
  rw [← hx] at f1 f2 f3 hxl
  have HXL := Lib.hid hxl
  have HND4 := Lib.hid hnd4
  have HB4 := Lib.hid (HB2.out.grown hst4.2 HB2.out.size (fun jj e => by have := Option.some.inj e; omega))
  have HT4 := Lib.hid hst4.1
  have k0 : (0 : Int) ≤ (j : Int) := by omega
  have k1 : (j : Int) < (n : Int) := by omega
  clear hxl hx j2 hst4 hnd4 HND HB2 hT3 s0 s1
  have hch := HCK.out
  have hxl := HXL.out
  have hxw := wide_of hch x hxl
  have hr0 : chkV (wout l [x.id]) = 0 := chk_sub hch (wo_sub _ _)
  have hrw := wide_of hr0
  obtain ⟨hu1, hu2, hu3⟩ := undo hch hxl 0
  have hln : l.length ≤ 64 := (chkV_zero.1 hch).1
  have hrl : (wout l [x.id]).length ≤ 64 := (chkV_zero.1 hr0).1
  obtain ⟨m, hm⟩ : ∃ m, m = hgtV (wout l [x.id]) := ⟨_, rfl⟩
  have hm16 : m ≤ 16 := by rw [hm]; exact hgtV_le _
  have hkn2 : (bldV (wout l [x.id]) (m + 1)).length ≤ maxLen := by rw [bld_len]; unfold maxLen; omega
  have HWO := Lib.hid (fun (W : World) (A3 : Option Addr) (c3 : Nat) (h : Nds W W.heap.size (some ⟨G, 0, none⟩) l) (h2 : Ins W W.heap.size A3 [x.id]) => without_any (some ⟨G, 0, none⟩) A3 l c2 c3 [x.id] W h h2 (by omega) (by simp) (fun y hy => (wide_of hch y hy).1))
  have HHG := Lib.hid (fun (W : World) (A3 : Option Addr) (c3 : Nat) (h : Nds W W.heap.size A3 (wout l [x.id])) => height_any A3 (wout l [x.id]) c3 W h (fun y hy => (hrw y hy).2))
  rw [← hm] at HHG
  have HBE := Lib.hid (fun (W : World) (A3 : Option Addr) (c3 : Nat) (h : Nds W W.heap.size A3 (wout l [x.id])) => build_ok A3 (wout l [x.id]) c3 m W h hr0 hm16)
  have HIN := Lib.hid (fun (W : World) (A3 A4 : Option Addr) (c3 c4 : Nat) (id : Int) (hid : I64 id) (hp : wout l [x.id] = [] ∨ plc (wout l [x.id]) id < (wout l [x.id]).length) (h : Nds W W.heap.size A3 (wout l [x.id])) (h2 : Lds W W.heap.size A4 (bldV (wout l [x.id]) (m + 1))) => (insert_any A3 A4 (wout l [x.id]) (bldV (wout l [x.id]) (m + 1)) x c3 c4 id (m : Int) W h h2 hkn2 (fun y hy => (hrw y hy).2) hxw hid).mono fun e w' k => insP_ok k (ins_ok hu1 hm16 hp) rfl rfl)
  have HBN := Lib.hid (fun (W : World) (A3 : Option Addr) (c3 : Nat) (id : Int) (h : Nds W W.heap.size A3 (wout l [x.id])) (j : Below w.heap.size w W) => bndK_any A3 (wout l [x.id]) c3 id W h (fun y hy => (hrw y hy).2) (HDB.out W j))
  have HRU := Lib.hid (fun (t : Nat) (ht : t ≤ 16) (W : World) (h : Nds W W.heap.size (some ⟨G, 0, none⟩) l) (j : Below w.heap.size w W) => (by
    have := runK_any (some ⟨G, 0, none⟩) l c2 x.id (t : Int) W h (fun y hy => (wide_of hch y hy).2) (HDB.out W j)
    rw [runR_in hch hxl ht] at this
    exact this : Calls Tryd.prog 20 #[.slice (some ⟨G, 0, none⟩) l.length c2, .int .i64 x.id, .int .i64 (t : Int)] W fun e w' => e = .returned (.int .i64 (runL l x t : Int)) ∧ Below W.heap.size W w'))
  have HRL := Lib.hid (fun (t : Nat) => run_le hch x t)
  have HAL := Lib.hid (fun (i : Nat) (h : i < (wout l [x.id]).length) => (by
    have hy := List.getElem_mem h
    refine ⟨plc_mem hy, (hrw _ hy).1, ?_, ?_⟩
    · exact bound_all hch hxl hy hm16 (by omega)
    · have := (bnd_le hr0 hy).2; omega : plc (wout l [x.id]) (wout l [x.id])[i].id < (wout l [x.id]).length ∧ I64 (wout l [x.id])[i].id ∧ insN (wout l [x.id]) (bldV (wout l [x.id]) (m + 1)) x (wout l [x.id])[i].id (m : Int) ≤ bndR (wout l [x.id]) (wout l [x.id])[i].id + sumR (fun t => 2 * (runL l x t + 1)) m ∧ bndR (wout l [x.id]) (wout l [x.id])[i].id ≤ 64))
  have HBW := Lib.hid (fun (y : Ld) (hy : y ∈ bldV (wout l [x.id]) (m + 1)) => (by rw [bld_lev _ _ y hy]; unfold maxLen; omega : y.levels.length ≤ maxLen))
  have hrn : (wout l [x.id]).length = n - 1 := by rw [wout_len hch hxl, ← HN.out]
  obtain ⟨iN, hiN⟩ : ∃ f : Int → Nat, f = fun id => insN (wout l [x.id]) (bldV (wout l [x.id]) (m + 1)) x id (m : Int) := ⟨_, rfl⟩
  have ei : ∀ id, insN (wout l [x.id]) (bldV (wout l [x.id]) (m + 1)) x id (m : Int) = iN id := fun id => by rw [hiN]
  simp only [ei] at HIN HAL
  obtain ⟨bd, hbd⟩ : ∃ f : Int → Nat, f = fun id => bndR (wout l [x.id]) id := ⟨_, rfl⟩
  have eb : ∀ id, bndR (wout l [x.id]) id = bd id := fun id => by rw [hbd]
  simp only [eb] at HBN HAL
  unfold BldOk at HBE
  generalize bldV (wout l [x.id]) (m + 1) = R2 at *
  generalize bldV (wout l [x.id] ++ [x]) (m + 1) = R3 at *
  generalize runL l x = ru at *
  generalize hrs : wout l [x.id] = rs at *
  obtain ⟨RN2, hRN2⟩ : ∃ n, n = R2.length := ⟨_, rfl⟩
  obtain ⟨SN, hSN⟩ : ∃ n, n = rs.length := ⟨_, rfl⟩
  have HRN2 := Lib.hid hRN2
  have HSN2 := Lib.hid hSN
  have HXW := Lib.hid hxw.1
  rw [← hRN2] at HBE HIN
  rw [← hSN] at HBE HIN HBN HHG hrn
  rw [← HN.out] at HWO HRU
  obtain ⟨xi, xk, xw⟩ := x
  simp only [Nat.zero_add] at f1 f2 f3
  simp only at *
  have HSNN := Lib.hid hrn
  clear hch hxl hxw hr0 hrw hu1 hu2 hu3 hln hrl hkn2 hRN2 hSN hrs hrn hm hiN ei hbd eb
  have hbX := (Below.refl w4.heap.size w4).alloc (Nat.le_refl _) (.cells #[.int .i64 xi, .string xk, .int .u32 (xw : Int)] 30)
  have HX5 := Lib.hid (Has.new w4 30 #[.int .i64 xi, .string xk, .int .u32 (xw : Int)])
  have HND5 := Lib.hid ((HND4.out.below hbX).more hbX.size)
  have HB5 := Lib.hid (HB4.out.trans (hbX.mono HB4.out.size))
  have HT5 := Lib.hid ((TStep.refl HT4.out).below hbX)
  obtain ⟨W5, hW5⟩ : ∃ W : World, W = w4.alloc (.cells #[.int .i64 xi, .string xk, .int .u32 (xw : Int)] 30) := ⟨_, rfl⟩
  obtain ⟨X, hX⟩ : ∃ X, X = w4.heap.size := ⟨_, rfl⟩
  rw [← hX] at HX5
  rw [← hW5] at HX5 HND5 HB5 HT5
  have HTP5 : Hid (Tape W5 g) := Lib.hid HT5.out.1
  have hgX : g < X := by rw [hX]; exact HT4.out.lt
  clear HB4 HND4 hbX HT4 HT5
  go_upto_region 4 with fail
  rw [← hW5, ← hX]
  clear hW5 hX f1 f2 f3 hbl hGb hGl
  have x0 := HX5.out.cell 0
  go_wp2_with fail
  obtain ⟨w6, hw6⟩ : ∃ w6, w6 = W5.alloc (.cells #[.int .i64 xi] 3) := ⟨_, rfl⟩
  have hk6 : Below W5.heap.size W5 w6 := by rw [hw6]; exact (Below.refl W5.heap.size W5).alloc (Nat.le_refl _) _
  have hX6 : Has w6 W5.heap.size 3 #[.int .i64 xi] := by rw [hw6]; exact Has.new _ _ _
  have HN6 := Lib.hid ((HND5.out.below hk6).more hk6.size)
  have HX6 := Lib.hid (HX5.out.below hk6)
  have HB6 := Lib.hid (HB5.out.trans (hk6.mono HB5.out.size))
  have HT6 := Lib.hid (HTP5.out.below hk6)
  have HW6 := Lib.hid (HWO.out w6 (some ⟨W5.heap.size, 0, none⟩) 1 HN6.out (one_int10 HXW.out hX6))
  rw [← hw6]
  clear hk6 hX6 hw6 HND5 HX5 HB5 HTP5 HWO x0
  refine (HW6.out).mono ?_
  rintro e w7 ⟨A7, c7, rfl, ho7, hb7⟩
  obtain ⟨_, _, er, hnd7⟩ := ho7.read
  injection er with e1 e3 e2
  clear e3
  subst e1 e2
  rw [← HSN2.out]
  have hA7 : ∀ b o, A7 = some ⟨b, o, none⟩ → b ≠ g := fun b o e => by
    have h1 := (ho7.lt b (by rw [e]; rfl)).1
    have h2 := HT6.out.lt
    omega
  have HS7 := Lib.hid hnd7
  have HN7 := Lib.hid ((HN6.out.below hb7).more hb7.size)
  have HX7 := Lib.hid (HX6.out.below hb7)
  have HB7 := Lib.hid (HB6.out.trans (hb7.mono HB6.out.size))
  have HT7 := Lib.hid (HT6.out.below hb7)
  have HHG7 := Lib.hid (HHG.out w7 A7 c7 HS7.out)
  clear ho7 hnd7 hb7 HW6 HN6 HX6 HB6 HT6 HHG
  go_wp2_with fail
  refine (HHG7.out).mono ?_
  rintro e w8 ⟨rfl, hb8⟩
  have HS8 := Lib.hid ((HS7.out.below hb8).more hb8.size)
  have HN8 := Lib.hid ((HN7.out.below hb8).more hb8.size)
  have HX8 := Lib.hid (HX7.out.below hb8)
  have HB8 := Lib.hid (HB7.out.trans (hb8.mono HB7.out.size))
  have HT8 := Lib.hid (HT7.out.below hb8)
  have HBE8 := Lib.hid (HBE.out w8 A7 c7 HS8.out)
  clear hb8 HHG7 HS7 HN7 HX7 HB7 HT7 HBE
  have hS64 : SN ≤ 64 := by have := HSNN.out; omega
  have hm0 : ¬ ((m : Int) < 0) := by omega
  have hm1 : ¬ ((16 : Int) < (m : Int)) := by omega
  have hmd0 : decide ((m : Int) < 0) = false := decide_eq_false hm0
  have hmd1 : decide ((16 : Int) < (m : Int)) = false := decide_eq_false hm1
  by_cases hz : SN = 0
  · have hzi : ((SN : Int) == 0) = true := by simp [hz]
    have hni : ((n : Int) == 1) = true := by have := HSNN.out; simp; omega
    clear hz
    go_wp2_with fail
    refine (HSA.out _).mono ?_
    rintro e wz ⟨rfl, hbz⟩
    have HBZ := Lib.hid (HB8.out.trans (hbz.mono HB8.out.size))
    clear hbz
    go_wp2_with fail
    go_ret
    exact ⟨rfl, HBZ.out⟩
  · have hzi : ((SN : Int) == 0) = false := by simp [hz]
    go_wp2_with fail
    refine (HBE8.out).mono ?_
    rintro e w9 ⟨g9, H9, hg9, rfl, hD9, hb9⟩
    have HQ9 := Lib.hid hD9
    have HS9 := Lib.hid ((HS8.out.below hb9).more hb9.size)
    have HN9 := Lib.hid ((HN8.out.below hb9).more hb9.size)
    have HX9 := Lib.hid (HX8.out.below hb9)
    have HB9 := Lib.hid (HB8.out.trans (hb9.mono HB8.out.size))
    have HT9 := Lib.hid (HT8.out.below hb9)
    have hgg9 : g < g9 := by have := HT8.out.lt; omega
    clear hD9 hb9 hg9 HBE8 HS8 HN8 HX8 HB8 HT8
    go_wp2_with fail
    refine (next_any g SN w9 HT9.out (by omega)).mono ?_
    rintro e wa ⟨r3, t0, t1, rfl, hsta⟩
    obtain ⟨q, rfl⟩ : ∃ m : Nat, r3 = (m : Int) := ⟨r3.toNat, by omega⟩
    have hq : q < SN := by omega
    have qq2 : q < rs.length := by rw [← HSN2.out]; exact hq
    have hnda := nds_step HS9.out hA7 hsta
    obtain ⟨b7, o7, eA, hbl7, g1, g2, g3⟩ := hnda.at_ qq2
    subst eA
    have HRQ := Lib.hid (HAL.out q qq2)
    rw [← HSN2.out] at HRQ
    generalize rs[q].id = fid at *
    have q0 : (0 : Int) ≤ (q : Int) := by omega
    have q1 : (q : Int) < (SN : Int) := by omega
    have HNC := Lib.hid (nds_step HN9.out (fun b o e => by injection e with e; injection e with e1 _; omega) hsta)
    have HSC := Lib.hid hnda
    have HQC := Lib.hid ((dblk_step11 HQ9.out hsta hgg9).read fun x hx => HBW.out x hx)
    have HXC : Hid (Has wa X 30 #[.int .i64 xi, .string xk, .int .u32 (xw : Int)]) := Lib.hid ((hsta.2.block X HX9.out.lt (fun e => by have := Option.some.inj e; omega)).trans HX9.out)
    have HBC := Lib.hid (HB9.out.grown hsta.2 HB9.out.size (fun jj e => by have := Option.some.inj e; omega))
    have HINC := Lib.hid (HIN.out wa (some ⟨b7, o7, none⟩) (some ⟨g9, 0, none⟩) c7 RN2 fid HRQ.out.2.1 (.inr HRQ.out.1) HSC.out HQC.out)
    have x0 := HXC.out.cell 0
    have x1 := HXC.out.cell 1
    have x2 := HXC.out.cell 2
    clear hz t0 t1 hsta hnda HN9 HS9 HQ9 HX9 HB9 HT9 HAL HIN HBW
    go_wp2_with fail
    refine (HINC.out).mono ?_
    rintro e wb ⟨v2, rfl, ho2, hbb⟩
    obtain ⟨A12, c12, hv12⟩ := ho2.shape
    subst hv12
    have HND := Lib.hid ((HNC.out.below hbb).more hbb.size)
    have HSD := Lib.hid ((HSC.out.below hbb).more hbb.size)
    have HXD := Lib.hid (HXC.out.below hbb)
    have HBD := Lib.hid (HBC.out.trans (hbb.mono HBC.out.size))
    have HBND := Lib.hid (HBN.out wb (some ⟨b7, o7, none⟩) c7 fid HSD.out HBD.out)
    have HRB := Lib.hid HRQ.out.2.2
    generalize iN fid = nI at *
    generalize bd fid = bd0 at *
    generalize R3.length = R3N at *
    clear ho2 hbb HINC HNC HSC HQC HXC HBC HBN HRQ g1 g2 g3 hbl7 x0 x1 x2
    go_wp2_with fail
    refine (HBND.out).mono ?_
    rintro e wc ⟨rfl, hbc⟩
    have HNE := Lib.hid ((HND.out.below hbc).more hbc.size)
    have HXE := Lib.hid (HXD.out.below hbc)
    have HBE2 := Lib.hid (HBD.out.trans (hbc.mono HBD.out.size))
    have hbd64 := HRB.out.2
    clear hbc HBND HND HXD HBD HSD
    go_wp2_with fail
    go_loopw [14, 15] (fun vm vt wr => ∃ (t q : Nat), vt = .int .i64 (t : Int) ∧ vm = .int .i64 (q : Int) ∧ t ≤ m ∧ q ≤ 64 + 130 * t ∧ Hid (q = bd0 + sumR (fun t => 2 * (ru t + 1)) t) ∧ Below wc.heap.size wc wr) (fun _ vt _ => m - (intOf vt).toNat)
    case atStart => exact ⟨0, bd0, rfl, rfl, by omega, by omega, Lib.hid rfl, Below.refl _ _⟩
    case round =>
      obtain ⟨t, q, rfl, rfl, ht, hq9, HQ, hB⟩ := hrel
      by_cases hlt : t < m
      · have i1 : (t : Int) < (m : Int) := by omega
        have hru := HRL.out t
        have HRUN := Lib.hid (HRU.out t (by omega) wr ((HNE.out.below hB).more hB.size) (HBE2.out.trans (hB.mono HBE2.out.size)))
        have HSU : Hid (bd0 + sumR (fun t => 2 * (ru t + 1)) (t + 1) = q + 2 * (ru t + 1)) := Lib.hid (by rw [HQ.out, sumR]; omega)
        have x0 := (HXE.out.below hB).cell 0
        have HBR := Lib.hid hB
        generalize ru t = rt at *
        have hw1 : IntKind.i64.wrap ((rt : Int) + 1) = (rt : Int) + 1 := IntWalk.i64_in _ (by omega)
        have hw2 : IntKind.i64.wrap (2 * ((rt : Int) + 1)) = 2 * ((rt : Int) + 1) := IntWalk.i64_in _ (by omega)
        have hw3 : IntKind.i64.wrap ((q : Int) + 2 * ((rt : Int) + 1)) = (q : Int) + 2 * ((rt : Int) + 1) := IntWalk.i64_in _ (by omega)
        clear hB HQ
        go_wp2_with fail
        refine (HRUN.out).mono ?_
        rintro e wd ⟨rfl, hbd⟩
        have HBR2 := Lib.hid (HBR.out.trans (hbd.mono HBR.out.size))
        clear hbd HRUN x0
        go_wp2_with fail
        exact ⟨⟨t + 1, q + 2 * (rt + 1), by go_num, by simp, hlt, by omega, Lib.hid HSU.out.symm, HBR2.out⟩, by simp [intOf]; omega⟩
      · have i1 : ¬ (t : Int) < (m : Int) := by omega
        have et : t = m := by omega
        have HLE : Hid ((nI : Int) ≤ (q : Int)) := Lib.hid (by have := HRB.out.1; have h2 := HQ.out; rw [et] at h2; omega)
        have hle := HLE.out
        have hge : (0 : Int) ≤ (nI : Int) := by omega
        have HBF := Lib.hid (HBE2.out.trans (hB.mono HBE2.out.size))
        clear hB HQ et
        go_wp2_with fail
        refine (HSA.out _).mono ?_
        rintro e wz ⟨rfl, hbz⟩
        have HBZ := Lib.hid (HBF.out.trans (hbz.mono HBF.out.size))
        clear hbz
        go_wp2_with fail
        go_ret
        exact ⟨rfl, HBZ.out⟩
end Go.Proofs.YtjokbdhineilcaaDoor
