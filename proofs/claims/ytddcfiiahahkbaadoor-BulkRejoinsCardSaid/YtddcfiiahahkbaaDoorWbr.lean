/-
  The walk of BulkRejoins: from whatever numbers it answers true and only makes memory. Conditions: the arguments can be read; 'letters' is as its initialiser lays it.
-/
import Derived.Test.YtddcfiiahahkbaaDoorLvK
import Derived.Test.YtddcfiiahahkbaaDoorLnC
import Derived.Test.YtddcfiiahahkbaaDoorLgJ
import Derived.Test.YtddcfiiahahkbaaDoorKhU
import Derived.Deep.DeepCutAuto
import Derived.Deep.CutBlock
namespace Go.Proofs.YtddcfiiahahkbaaDoor
open Go.RowKit

theorem lh_perm (l : List Nd) (q : ByteArray) : (lowL l q ++ hghL l q).Perm l := by
  unfold lowL hghL
  exact List.filter_append_perm _ _
theorem hl_perm (l : List Nd) (q : ByteArray) : (hghL l q ++ lowL l q).Perm l := List.perm_append_comm.trans (lh_perm l q)
theorem chk_perm {l m : List Nd} (h : m.Perm l) (hc : chkV l = 0) : chkV m = 0 := by
  obtain ⟨h1, h2, h3⟩ := chkV_zero.1 hc
  exact chkV_zero.2 ⟨by rw [h.length_eq]; exact h1, List.all_eq_true.2 fun x hx => List.all_eq_true.1 h2 x (h.mem_iff.1 hx), (h.pairwise_iff Nd.apart.symm).2 h3⟩
set_option maxRecDepth 100000 in
set_option maxHeartbeats 6400000 in
theorem rejoins_walk (A : Option Addr) (n0 cp : Nat) (w : World) (hL : Lets w) (hnc : n0 ≤ cp) (hc : cp ≤ maxLen) (hN : Nums w w.heap.size A n0) :
    Calls Tryd.prog 5 #[.slice A n0 cp] w (LawP w) := by
  have HSA := Lib.hid (fun (W : World) => sane9_any W)
  go_enter Tryd.func5, Tryd.ntmps5
  go_wp2_with fail
  refine (new_any A n0 cp _ hnc hc hN).mono ?_
  rintro e w1 ⟨g, hg1, rfl, hTp, hb1⟩
  have hne2 : 0 ≠ g := by have := hL.lt; omega
  have l1 := hL.below hb1
  clear hN hnc hc hL
  go_wp2_with fail
  refine (roster_any 9 g w1 (by omega) (by omega) hTp l1 hne2).mono ?_
  rintro e w2 ⟨A2, c2, l, rfl, ho, hl8, hwd, hchk, hst⟩
  have hB2 : Below w.heap.size w w2 := hb1.grown hst.2 hb1.size (fun j e => by have := Option.some.inj e; omega)
  obtain ⟨_, _, er, hnd⟩ := ho.read
  injection er with e1 e3 e2
  clear e3
  subst e1 e2
  have hg2 : g < w1.heap.size := hTp.lt
  have hA2 : ∀ b o, A2 = some ⟨b, o, none⟩ → b ≠ g := fun b o e => by
    have := (ho.lt b (by rw [e]; rfl)).1
    omega
  have HB2 := Lib.hid hB2
  have HST := Lib.hid hst
  have HN2 := Lib.hid hnd
  have HL2 := Lib.hid (l1.step hne2 hst)
  clear ho hnd hst hB2 hb1 l1 hl8 hTp
  go_wp2_with fail
  refine (next_any g 4 w2 HST.out.1 (by omega)).mono ?_
  rintro e w3 ⟨r, r0, r1, rfl, hst3⟩
  obtain ⟨m, rfl⟩ : ∃ m : Nat, r = (m : Int) := ⟨r.toNat, by omega⟩
  have hm : m ≤ 3 := by omega
  have HN3 := Lib.hid (nds_step HN2.out hA2 hst3)
  have HT3 := Lib.hid (HST.out.trans hst3)
  have HB3 := Lib.hid (HB2.out.grown hst3.2 HB2.out.size (fun j e => by have := Option.some.inj e; omega))
  have HL3 := Lib.hid (HL2.out.step hne2 hst3)
  clear r0 r1 hst3 HN2 HST HB2 HL2
  go_wp2_with fail
  refine (key_any g w3 HT3.out.1 HL3.out hne2).mono ?_
  rintro e w4 ⟨q, hqs, rfl, hst4⟩
  have hq : vk q = true := decide_eq_true hqs
  clear hqs
  have HN4 := Lib.hid (nds_step HN3.out hA2 hst4)
  have HB4 := Lib.hid (HB3.out.grown hst4.2 HB3.out.size (fun j e => by have := Option.some.inj e; omega))
  clear hst4 HN3 HT3 HB3 HL3 hA2 hne2 hg1 hg2
  have hcl : chkV (lowL l q) = 0 := chk_sub hchk List.filter_sublist
  have hch : chkV (hghL l q) = 0 := chk_sub hchk List.filter_sublist
  have HBD := Lib.hid (build_ok A2 l c2 m w4 HN4.out hchk (by omega))
  have HCT := Lib.hid (fun (W : World) (A' : Option Addr) (c' : Nat) (h : Nds W W.heap.size A2 l) (h2 : Lds W W.heap.size A' (bldV l (m + 1))) (hc1 : (bldV l (m + 1)).length ≤ c') (hc2 : c' ≤ maxLen) => cut_ok A2 A' l (bldV l (m + 1)) q c2 c' m W h h2 hc1 hc2 (exa_self hchk (by omega)) hq (by omega))
  have HPT := Lib.hid (fun (W : World) (h : Nds W W.heap.size A2 l) => parts9_any A2 l c2 q W h (by have := (chkV_zero.1 hchk).1; omega))
  have HM1 := Lib.hid (fun (W : World) (A5 A6 A7 A8 : Option Addr) (c5 c6 c7 c8 : Nat) (h5 : Nds W W.heap.size A5 (lowL l q)) (h6 : Lds W W.heap.size A6 (bldV (lowL l q) (m + 1))) (h7 : Nds W W.heap.size A7 (hghL l q)) (h8 : Lds W W.heap.size A8 (bldV (hghL l q) (m + 1))) => (by
    have := merge_ok A5 A6 A7 A8 (lowL l q) (hghL l q) (bldV (lowL l q) (m + 1)) (bldV (hghL l q) (m + 1)) c5 c6 c7 c8 m W h5 h6 h7 h8 (exa_self hcl (by omega)) (exa_self hch (by omega)) (by omega) (chk_perm (lh_perm l q) hchk)
    rw [bld_perm (lh_perm l q) hchk] at this
    exact this))
  have HM2 := Lib.hid (fun (W : World) (A5 A6 A7 A8 : Option Addr) (c5 c6 c7 c8 : Nat) (h5 : Nds W W.heap.size A5 (lowL l q)) (h6 : Lds W W.heap.size A6 (bldV (lowL l q) (m + 1))) (h7 : Nds W W.heap.size A7 (hghL l q)) (h8 : Lds W W.heap.size A8 (bldV (hghL l q) (m + 1))) => (by
    have := merge_ok A7 A8 A5 A6 (hghL l q) (lowL l q) (bldV (hghL l q) (m + 1)) (bldV (lowL l q) (m + 1)) c7 c8 c5 c6 m W h7 h8 h5 h6 (exa_self hch (by omega)) (exa_self hcl (by omega)) (by omega) (chk_perm (hl_perm l q) hchk)
    rw [bld_perm (hl_perm l q) hchk] at this
    exact this))
  have HE1 := Lib.hid (fun (W : World) (A5 A6 : Option Addr) (c5 c6 : Nat) (h5 : Nds W W.heap.size A5 (lowL l q)) (h6 : Lds W W.heap.size A6 (bldV (lowL l q) (m + 1))) => (by
    have := exact_any A5 A6 (lowL l q) (bldV (lowL l q) (m + 1)) c5 c6 (m : Int) W h5 h6 (by rw [bld_len]; have := (chkV_zero.1 hcl).1; unfold maxLen; omega) (fun x hx => (wide_of hcl x hx).2)
    rw [exa_self hcl (by omega)] at this
    exact this))
  have HE2 := Lib.hid (fun (W : World) (A5 A6 : Option Addr) (c5 c6 : Nat) (h5 : Nds W W.heap.size A5 (hghL l q)) (h6 : Lds W W.heap.size A6 (bldV (hghL l q) (m + 1))) => (by
    have := exact_any A5 A6 (hghL l q) (bldV (hghL l q) (m + 1)) c5 c6 (m : Int) W h5 h6 (by rw [bld_len]; have := (chkV_zero.1 hch).1; unfold maxLen; omega) (fun x hx => (wide_of hch x hx).2)
    rw [exa_self hch (by omega)] at this
    exact this))
  have HSM := Lib.hid (fun (W : World) (A5 A6 : Option Addr) (c5 c6 : Nat) (h5 : Lds W W.heap.size A5 (bldV l (m + 1))) (h6 : Lds W W.heap.size A6 (bldV l (m + 1))) => (by
    have := rsame6_any A5 A6 (bldV l (m + 1)) (bldV l (m + 1)) c5 c6 W h5 h6 (by rw [bld_len]; have := (chkV_zero.1 hchk).1; omega)
    rw [decide_eq_true rfl] at this
    exact this))
  have HBV := Lib.hid (fun (x : Ld) (hx : x ∈ bldV l (m + 1)) => (by rw [bld_lev l _ x hx]; unfold maxLen; omega : x.levels.length ≤ maxLen))
  have hRl : (bldV l (m + 1)).length ≤ maxLen := by rw [bld_len]; have := (chkV_zero.1 hchk).1; unfold maxLen; omega
  unfold BldOk at HBD
  unfold PrtP at HPT
  generalize bldV l (m + 1) = R at *
  generalize bldV (lowL l q) (m + 1) = R1 at *
  generalize bldV (hghL l q) (m + 1) = R2 at *
  generalize lowL l q = lo at *
  generalize hghL l q = hi at *
  obtain ⟨LN, hLN⟩ : ∃ n, n = l.length := ⟨_, rfl⟩
  obtain ⟨RN, hRN⟩ : ∃ n, n = R.length := ⟨_, rfl⟩
  obtain ⟨RN1, hRN1⟩ : ∃ n, n = R1.length := ⟨_, rfl⟩
  obtain ⟨RN2, hRN2⟩ : ∃ n, n = R2.length := ⟨_, rfl⟩
  obtain ⟨LO, hLO⟩ : ∃ n, n = lo.length := ⟨_, rfl⟩
  obtain ⟨HI, hHI⟩ : ∃ n, n = hi.length := ⟨_, rfl⟩
  have HRN := Lib.hid hRN
  have HRN1 := Lib.hid hRN1
  have HRN2 := Lib.hid hRN2
  have HLO := Lib.hid hLO
  have HHI := Lib.hid hHI
  rw [← hLN] at HBD HCT HPT ⊢
  rw [← hRN] at HBD HCT HSM hRl
  rw [← hRN1, ← hRN2, ← hLO, ← hHI] at HM1 HM2
  rw [← hRN1, ← hLO] at HE1
  rw [← hRN2, ← hHI] at HE2
  clear hLN hRN hRN1 hRN2 hLO hHI hcl hch hwd hchk hq
  go_wp2_with fail
  refine (HBD.out).mono ?_
  rintro e w5 ⟨g5, H5, hg5, rfl, hD5, hb5⟩
  have HN5 := Lib.hid ((HN4.out.below hb5).more hb5.size)
  have HB5 := Lib.hid (HB4.out.trans (hb5.mono HB4.out.size))
  have HR5 := Lib.hid (hD5.read fun x hx => HBV.out x hx)
  have HCC := Lib.hid (HCT.out w5 (some ⟨g5, 0, none⟩) RN HN5.out HR5.out (Nat.le_refl _) hRl)
  clear hD5 hb5 hg5 HBD HN4 HB4 HCT HBV
  go_wp2_with fail
  refine (HCC.out).mono ?_
  rintro e w6 ⟨v1, v2, rfl, hD1, hD2, hb6⟩
  obtain ⟨A6, c6, rfl, -, -, hR6⟩ := hD1.read
  obtain ⟨A7, c7, rfl, -, -, hR7⟩ := hD2.read
  rw [← HRN1.out, ← HRN2.out]
  have HX6 := Lib.hid hR6
  have HX7 := Lib.hid hR7
  have HN6 := Lib.hid ((HN5.out.below hb6).more hb6.size)
  have HB6 := Lib.hid (HB5.out.trans (hb6.mono HB5.out.size))
  have HR6 := Lib.hid ((HR5.out.below hb6).more hb6.size)
  have HPP := Lib.hid (HPT.out w6 HN6.out)
  clear hD1 hD2 hR6 hR7 hb6 HCC HN5 HB5 HR5 HPT
  go_wp2_with fail
  refine (HPP.out).mono ?_
  rintro e w7 ⟨v3, v4, rfl, ho3, ho4, -, hb7⟩
  obtain ⟨A8, c8, rfl, hn8⟩ := ho3.read
  obtain ⟨A9, c9, rfl, hn9⟩ := ho4.read
  rw [← HLO.out, ← HHI.out]
  have HN8 := Lib.hid hn8
  have HN9 := Lib.hid hn9
  have HB7 := Lib.hid (HB6.out.trans (hb7.mono HB6.out.size))
  have HR7 := Lib.hid ((HR6.out.below hb7).more hb7.size)
  have HY6 := Lib.hid ((HX6.out.below hb7).more hb7.size)
  have HY7 := Lib.hid ((HX7.out.below hb7).more hb7.size)
  have HMM := Lib.hid (HM1.out w7 A8 A6 A9 A7 c8 c6 c9 c7 HN8.out HY6.out HN9.out HY7.out)
  clear ho3 ho4 hn8 hn9 hb7 HPP HB6 HR6 HX6 HX7 HM1 HN6
  go_wp2_with fail
  refine (HMM.out).mono ?_
  rintro e w8 ⟨v5, rfl, hD5, hb8⟩
  obtain ⟨A10, c10, rfl, -, -, hR10⟩ := hD5.read
  rw [← HRN.out]
  have HX10 := Lib.hid hR10
  have HB8 := Lib.hid (HB7.out.trans (hb8.mono HB7.out.size))
  have HR8 := Lib.hid ((HR7.out.below hb8).more hb8.size)
  have HZ6 := Lib.hid ((HY6.out.below hb8).more hb8.size)
  have HZ7 := Lib.hid ((HY7.out.below hb8).more hb8.size)
  have HZ8 := Lib.hid ((HN8.out.below hb8).more hb8.size)
  have HZ9 := Lib.hid ((HN9.out.below hb8).more hb8.size)
  have HMN := Lib.hid (HM2.out w8 A8 A6 A9 A7 c8 c6 c9 c7 HZ8.out HZ6.out HZ9.out HZ7.out)
  clear hD5 hR10 hb8 HMM HB7 HR7 HY6 HY7 HN8 HN9 HM2
  go_wp2_with fail
  refine (HMN.out).mono ?_
  rintro e w9 ⟨v6, rfl, hD6, hb9⟩
  obtain ⟨A11, c11, rfl, -, -, hR11⟩ := hD6.read
  rw [← HRN.out]
  have HB9 := Lib.hid (HB8.out.trans (hb9.mono HB8.out.size))
  have HE11 := Lib.hid (HE1.out w9 A8 A6 c8 c6 ((HZ8.out.below hb9).more hb9.size) ((HZ6.out.below hb9).more hb9.size))
  have HE22 := Lib.hid (fun (W : World) (j : Below w9.heap.size w9 W) => HE2.out W A9 A7 c9 c7 (((HZ9.out.below (hb9.trans (j.mono hb9.size))).more (Nat.le_trans hb9.size j.size))) (((HZ7.out.below (hb9.trans (j.mono hb9.size))).more (Nat.le_trans hb9.size j.size))))
  have HS1 := Lib.hid (fun (W : World) (j : Below w9.heap.size w9 W) => HSM.out W A10 (some ⟨g5, 0, none⟩) c10 RN (((HX10.out.below (hb9.trans (j.mono hb9.size))).more (Nat.le_trans hb9.size j.size))) (((HR8.out.below (hb9.trans (j.mono hb9.size))).more (Nat.le_trans hb9.size j.size))))
  have HS2 := Lib.hid (fun (W : World) (j : Below w9.heap.size w9 W) => HSM.out W A11 (some ⟨g5, 0, none⟩) c11 RN ((hR11.below j).more j.size) (((HR8.out.below (hb9.trans (j.mono hb9.size))).more (Nat.le_trans hb9.size j.size))))
  clear hD6 hR11 hb9 HMN HB8 HR8 HZ6 HZ7 HZ8 HZ9 HX10 HE1 HE2 HSM
  go_wp2_with fail
  refine (HE11.out).mono ?_
  rintro e w10 ⟨rfl, hb10⟩
  have HK10 := Lib.hid hb10
  clear hb10 HE11
  go_wp2_with fail
  refine (HE22.out _ HK10.out).mono ?_
  rintro e w11 ⟨rfl, hb11⟩
  have HK11 := Lib.hid (HK10.out.trans (hb11.mono HK10.out.size))
  clear hb11 HE22 HK10
  go_wp2_with fail
  refine (HS1.out _ HK11.out).mono ?_
  rintro e w12 ⟨rfl, hb12⟩
  have HK12 := Lib.hid (HK11.out.trans (hb12.mono HK11.out.size))
  clear hb12 HS1 HK11
  go_wp2_with fail
  refine (HS2.out _ HK12.out).mono ?_
  rintro e w13 ⟨rfl, hb13⟩
  have HK13 := Lib.hid (HB9.out.trans ((HK12.out.trans (hb13.mono HK12.out.size)).mono HB9.out.size))
  clear hb13 HS2 HK12
  go_wp2_with fail
  refine (HSA.out _).mono ?_
  rintro e w14 ⟨rfl, hb14⟩
  have HB14 := Lib.hid (HK13.out.trans (hb14.mono HK13.out.size))
  clear hb14
  go_wp2_with fail
  go_ret
  exact ⟨rfl, HB14.out⟩
end Go.Proofs.YtddcfiiahahkbaaDoor
