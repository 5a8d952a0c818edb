/-
  The walk of SpliceOrders: from whatever numbers it answers true and only makes memory. Conditions: the arguments can be read; 'letters' is as its initialiser lays it.
-/
import Derived.Test.YtjokbdhineilcaaDoorKxM
import Derived.Test.YtjokbdhineilcaaDoorKhU
import Derived.Test.YtjokbdhineilcaaDoorLdX
import Derived.Deep.RegionHeld3
namespace Go.Proofs.YtjokbdhineilcaaDoor
open Go.RowKit Go.Maps

theorem turn_perm10 {α : Type} (l : List α) (n : Nat) : (l.drop n ++ l.take n).Perm l := by
  refine List.perm_append_comm.trans ?_
  rw [List.take_append_drop]
set_option maxRecDepth 100000 in
set_option maxHeartbeats 1600000 in
theorem orders_walk (A : Option Addr) (n0 cp : Nat) (turn : Int) (w : World) (hL : Lets w) (hnc : n0 ≤ cp) (hc : cp ≤ maxLen) (hN : Nums w w.heap.size A n0) :
    Calls Tryd.prog 4 #[.slice A n0 cp, .int .i64 turn] w (LawP w) := by
  have HSA := Lib.hid (fun (W : World) => sane10_any W)
  obtain ⟨inf, hif, hif1, hif2, hif3⟩ := infoN_parts
  go_enter Tryd.func4, Tryd.ntmps4
  go_wp2_with fail
  refine (new_any A n0 cp _ hnc hc hN).mono ?_
  rintro e w1 ⟨g, hg1, rfl, hTp, hb1⟩
  have hne2 : 0 ≠ g := by have := hL.lt; omega
  have l1 := hL.below hb1
  clear hN hnc hc hL
  go_wp2_with fail
  refine (some_any 7 g w1 (by omega) (by omega) hTp l1 hne2).mono ?_
  rintro e w2 ⟨A2, c2, l, rfl, ho, hl0, hl8, hchk, hst⟩
  have hB2 : Below w.heap.size w w2 := hb1.grown hst.2 hb1.size (fun j e => by have := Option.some.inj e; omega)
  have hTp2 := hst.1
  have hg2 : g < w1.heap.size := hTp.lt
  obtain ⟨G, c, er, hGb, hGl, hcap, hcap2, hnd⟩ := ho.open_ hl0
  injection er with e1 _ e2
  subst e1 e2
  have hA2 : G ≠ g := by omega
  have HCK := Lib.hid hchk
  have hln1 : 1 ≤ l.length := List.length_pos_iff.2 hl0
  obtain ⟨n, hn⟩ : ∃ n, n = l.length := ⟨_, rfl⟩
  rw [← hn] at hl8 hln1 hcap ⊢
  have HN := Lib.hid hn
  have HND := Lib.hid hnd
  have HB2 := Lib.hid hB2
  clear hst l1 hTp hb1 ho hchk hl0 hn hnd hB2
  unfold maxLen at hcap2
  go_wp2_with fail
  refine (next_any g 4 w2 hTp2 (by omega)).mono ?_
  rintro e w3 ⟨r, r0, r1, rfl, hst3⟩
  obtain ⟨m, rfl⟩ : ∃ m : Nat, r = (m : Int) := ⟨r.toNat, by omega⟩
  have hm : m ≤ 3 := by omega
  have hA3 : ∀ b o, some (⟨G, 0, none⟩ : Addr) = some ⟨b, o, none⟩ → b ≠ g := fun b o e => by injection e with e; injection e with e1 _; omega
  have HN3 := Lib.hid (nds_step HND.out hA3 hst3)
  have HB3 := Lib.hid (HB2.out.grown hst3.2 HB2.out.size (fun j e => by have := Option.some.inj e; omega))
  have hT3 := hst3.1
  have hG3 : G < w3.heap.size := by have := hst3.2.size; omega
  clear r0 r1 hst3 HND HB2 hTp2
  go_wp2_with fail
  refine (mod_any turn n w3 (by omega) (by omega)).mono ?_
  rintro e w4 ⟨rfl, rfl⟩
  obtain ⟨q, hq⟩ : ∃ q : Nat, (q : Int) = turn % n := ⟨(turn % n).toNat, by have := Int.emod_nonneg turn (show (n : Int) ≠ 0 by omega); omega⟩
  have hqn : q < n := by have := Int.emod_lt_of_pos turn (show (0 : Int) < n by omega); omega
  rw [← hq]
  clear hq
  have hch := HCK.out
  have HG1 := Lib.hid (grow_any (some ⟨G, 0, none⟩) l c2 m g w3 HN3.out hA3 hT3 hch (by omega))
  have hpm := turn_perm10 l q
  have hcm : chkV (l.drop q ++ l.take q) = 0 := chkV_perm hpm.symm hch
  have hmn : (l.drop q ++ l.take q).length = n := by rw [hpm.length_eq, ← HN.out]
  have HG2 := Lib.hid (fun (W : World) (A' : Option Addr) (c' : Nat) (h : Nds W W.heap.size A' ([] ++ l.drop q ++ l.take q)) (hA' : ∀ b o, A' = some ⟨b, o, none⟩ → b ≠ g) (ht : Tape W g) => (by
    rw [List.nil_append] at h
    have := grow_any A' (l.drop q ++ l.take q) c' m g W h hA' ht hcm (by omega)
    unfold GrowP at this
    rw [bld_perm hpm hch, hmn] at this
    exact this : Calls Tryd.prog 16 #[.pointer (some ⟨g, 0, none⟩), .slice A' n c', .int .i64 (m : Int)] W (GrowP l m g W)))
  have HSM := Lib.hid (fun (W : World) (A5 A6 : Option Addr) (c5 c6 : Nat) (h5 : Lds W W.heap.size A5 (bldV l (m + 1))) (h6 : Lds W W.heap.size A6 (bldV l (m + 1))) => (by
    have := rsame6_any A5 A6 (bldV l (m + 1)) (bldV l (m + 1)) c5 c6 W h5 h6 (by rw [bld_len]; have := (chkV_zero.1 hch).1; omega)
    rw [decide_eq_true rfl] at this
    exact this))
  have HEX := Lib.hid (fun (W : World) (A5 : Option Addr) (c5 : Nat) (h : Nds W W.heap.size (some ⟨G, 0, none⟩) l) (h5 : Lds W W.heap.size A5 (bldV l (m + 1))) => (by
    have := exact_any (some ⟨G, 0, none⟩) A5 l (bldV l (m + 1)) c2 c5 (m : Int) W h h5 (by rw [bld_len]; have := (chkV_zero.1 hch).1; unfold maxLen; omega) (fun x hx => (wide_of hch x hx).2)
    rw [exa_bld hch (by omega)] at this
    exact this))
  unfold GrowP at HG1 HG2
  generalize bldV l (m + 1) = R at *
  obtain ⟨RN, hRN⟩ : ∃ n, n = R.length := ⟨_, rfl⟩
  have HRN := Lib.hid hRN
  rw [← hRN] at HSM HEX
  rw [← HN.out] at HG1 HEX
  clear hch hpm hcm hRN
  have HMN := Lib.hid hmn
  clear hmn
  go_wp2_with fail
  refine (HG1.out).mono ?_
  rintro e w5 ⟨v5, rfl, hO5, hst5⟩
  have HO5 := Lib.hid hO5
  obtain ⟨A5, c5, hv5, -, -, hr5⟩ := hO5.read
  rw [← HRN.out] at hv5
  have HV5 := Lib.hid hv5
  have HND5 := Lib.hid (nds_step HN3.out hA3 hst5)
  have HB5 := Lib.hid (HB3.out.grown hst5.2 HB3.out.size (fun j e => by have := Option.some.inj e; omega))
  have HT5 := Lib.hid hst5.1
  have hg3 := hT3.lt
  have hG5 : G < w5.heap.size := by have := hst5.2.size; omega
  clear hO5 hr5 hst5 HN3 HB3 hT3 HG1 hGb hGl
  subst hv5
  go_upto_region 5 with fail
  have hq0 : (0 : Int) ≤ (q : Int) := by omega
  have hq1 : (q : Int) ≤ (n : Int) := by omega
  have hq2 : (q : Int) ≤ (c2 : Int) := by omega
  have hq3 : (n : Int) ≤ (c2 : Int) := by omega
  have hq4 : ¬ ((n : Int) < (q : Int)) := by omega
  have hcq : ¬ c2 = q := by omega
  have HM1 := Lib.hid (HND5.out.cut q)
  have HM2 := Lib.hid (HND5.out.take q)
  have HQ1 : Hid ((l.drop q).length = n - q) := Lib.hid (by rw [List.length_drop, ← HN.out])
  have HQ2 : Hid ((l.take q).length = q) := Lib.hid (by rw [List.length_take, ← HN.out]; omega)
  have hbe := ((Below.refl w5.heap.size w5).alloc (Nat.le_refl _) (.cells #[] 30)).drew
  have hEm : OwnN (w5.alloc (.cells #[] 30)).drew w5.heap.size (.slice (some ⟨w5.heap.size, 0, none⟩) 0 0) [] := OwnN.empty w5
  have h9 := HM1.out.below hbe
  have q1 : 0 + (n - q) ≤ 1000000 := by omega
  have q2 : w5.heap.size ≤ (World.drew (World.alloc w5 (.cells #[] 30))).heap.size := hbe.size
  have q3 : ([] ++ l.drop q).length + q ≤ 1000000 := by rw [List.nil_append, HQ1.out]; omega
  have HM9 : Hid (([] ++ l.drop q ++ l.take q : List Nd).length = n) := Lib.hid (by rw [List.nil_append]; exact HMN.out)
  have hs5 : w5.heap.size ≤ w5.heap.size := Nat.le_refl _
  have hsd : w5.heap.size ≤ w5.drew.heap.size := Nat.le_refl _
  go_region_held3 (fun w' => w5.heap.size ≤ w'.heap.size) (first | with_reducible exact hs11 | with_reducible exact hb10.size | with_reducible exact hb9.size | with_reducible exact hbe.size | with_reducible exact hsd | with_reducible exact hs5 | with_reducible assumption) (first | (go_at_call 16; obtain ⟨A3, c3, er3, hr3⟩ := ho2.read; rw [HM9.out] at er3; subst er3; refine (HG2.out wb A3 c3 hr3 (fun b o e => by have := (ho2.lt b (by rw [e]; rfl)).1; have := HT5.out.lt; omega) (HT5.out.below hb10)).mono ?_; rintro e wc ⟨v11, rfl, hO11, hst11⟩; have hs11 := Nat.le_trans hb10.size hst11.2.size) | (refine step_pushNs (w := World.drew (World.alloc w5 (.cells #[] 30))) (o := ⟨some 36, _, _, _, _, _⟩) rfl (.tmp 32) (.tmp 35) 25 (by rfl) w5.heap.size inf Tryd.underlying25 hif hif1 hif2 hif3 (.slice (some ⟨w5.heap.size, 0, none⟩) 0 0) [] (by simp [Act.eval]) hEm w5.heap.size (some ⟨G, q * 3, none⟩) (l.drop q) (n - q) (c2 - q) HQ1.out (by simp [Act.eval]) h9 q1 q2 ?_; intro v1 wa ho1 hba; have hb9 := hbe.trans hba) | (refine step_pushNs (w := wa) (o := ⟨some 40, _, _, _, _, _⟩) rfl (.tmp 36) (.tmp 39) 25 (by rfl) w5.heap.size inf Tryd.underlying25 hif hif1 hif2 hif3 v1 ([] ++ l.drop q) (by simp [Act.eval]) ho1 w5.heap.size (some ⟨G, 0, none⟩) (l.take q) q c2 HQ2.out (by simp [Act.eval]) (HM2.out.below hb9) q3 hb9.size ?_; intro v2 wb ho2 hbb; have hb10 := hb9.trans hbb))
  all_goals
    have HST := Lib.hid (((TStep.refl HT5.out).below hb10).trans hst11)
    obtain ⟨A6, c6, hv6, -, -, hr6⟩ := hO11.read
    rw [← HRN.out] at hv6
    subst hv6
    obtain ⟨_, _, er5, -, -, hr5⟩ := (HO5.out.step hg3 HST.out).read
    rw [← HRN.out] at er5
    injection er5 with e1 e3 e2
    clear e3
    subst e1 e2
    have HND6 := Lib.hid (nds_step HND5.out hA3 HST.out)
    have HB6 := Lib.hid (HB5.out.grown HST.out.2 HB5.out.size (fun j e => by have := Option.some.inj e; omega))
    have HSS := Lib.hid (HSM.out wc A5 A6 c5 c6 hr5 hr6)
    have HR5 := Lib.hid hr5
    have HEE := Lib.hid (fun (W : World) (k : Below wc.heap.size wc W) => HEX.out W A5 c5 ((HND6.out.below k).more k.size) ((HR5.out.below k).more k.size))
    clear ho1 ho2 hO11 hst11 hba hbb hb9 hb10 hs11 hbe hEm h9 q1 q2 q3 hr5 hr6 hr3 HM1 HM2 HQ1 HQ2 HSM HEX HG2 HM9 HND5 HB5 HT5 HO5 HV5 hs5 hsd
    go_wp2_with fail
    refine (HSS.out).mono ?_
    rintro e wd ⟨rfl, hbd⟩
    have HBD := Lib.hid hbd
    clear hbd HSS
    go_wp2_with fail
    refine (HEE.out _ HBD.out).mono ?_
    rintro e we ⟨rfl, hbe2⟩
    have HBE := Lib.hid (HB6.out.trans ((HBD.out.trans (hbe2.mono HBD.out.size)).mono HB6.out.size))
    clear hbe2 HEE HBD
    go_wp2_with fail
    refine (HSA.out _).mono ?_
    rintro e wz ⟨rfl, hbz⟩
    have HBZ := Lib.hid (HBE.out.trans (hbz.mono HBE.out.size))
    clear hbz
    go_wp2_with fail
    go_ret
    exact ⟨rfl, HBZ.out⟩
end Go.Proofs.YtjokbdhineilcaaDoor
