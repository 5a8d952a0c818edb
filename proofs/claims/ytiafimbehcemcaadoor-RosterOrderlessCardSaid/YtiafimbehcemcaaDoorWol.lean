/-
  The walk of RosterOrderless: from whatever numbers it answers true and only makes memory. Conditions: the first argument reads as a slice of ints; 'letters' is as its initialiser lays it.
-/
import Derived.Test.YtiafimbehcemcaaDoorWlv
namespace Go.Proofs.YtiafimbehcemcaaDoor
open Go.RowKit

theorem eql_nself (i : Int) (k : ByteArray) (n : Nat) : ∀ w : World, (binOp .eql 60 (.agg #[.int .i64 i, .string k, .int .u32 (n : Int)]) (.agg #[.int .i64 i, .string k, .int .u32 (n : Int)])).run Tryd.prog w = .ok (.bool true) w := fun w => by
  rw [run_eql_struct, eq_nd ⟨i, k, n⟩ ⟨i, k, n⟩]
  simp [Nd.same]
theorem eql_rself (k1 : ByteArray) (t1 : Bool) (k2 : ByteArray) (t2 : Bool) : ∀ w : World, (binOp .eql 74 (.agg #[.string k1, .bool t1, .string k2, .bool t2]) (.agg #[.string k1, .bool t1, .string k2, .bool t2])).run Tryd.prog w = .ok (.bool true) w := fun w => by
  rw [run_eql_struct, show (Op.equalIn 10000 74 (.agg #[.string k1, .bool t1, .string k2, .bool t2]) (.agg #[.string k1, .bool t1, .string k2, .bool t2])).run Tryd.prog w = _ from eq_rg ⟨⟨k1, t1⟩, ⟨k2, t2⟩⟩ ⟨⟨k1, t1⟩, ⟨k2, t2⟩⟩ w]
  simp

set_option maxRecDepth 100000 in
set_option maxHeartbeats 1600000 in
theorem orderless_walk (A : Option Addr) (n0 cp : Nat) (turn : Int) (w : World) (hL : Lets w) (hnc : n0 ≤ cp) (hc : cp ≤ maxLen) (hN : Nums w w.heap.size A n0) (_ht1 : -9223372036854775808 ≤ turn) (_ht2 : turn ≤ 9223372036854775807) :
    Calls Tryd.prog 11 #[.slice A n0 cp, .int .i64 turn] w (LawP w) := by
  have HSA := Lib.hid sane5_any
  obtain ⟨inf, hif, hif1, hif2, hif3⟩ := infoN_parts
  go_enter Tryd.func11, Tryd.ntmps11
  go_wp2_with fail
  refine (new_any A n0 cp _ hnc hc hN).mono ?_
  rintro e w1 ⟨g, hg1, rfl, hTp, hb1⟩
  have hne2 : 0 ≠ g := by have := hL.lt; omega
  have l1 := hL.below hb1
  clear hN hnc hc hL
  go_wp2_with fail
  refine (some_any 8 g w1 (by omega) (by omega) hTp l1 hne2).mono ?_
  rintro e w2 ⟨A2, c2, l, rfl, ho, hl0, hl8, hchk, hst⟩
  have hB2 : Below w.heap.size w w2 := hb1.grown hst.2 hb1.size (fun j e => by have := Option.some.inj e; omega)
  have hTp2 := hst.1
  have l2 := l1.step hne2 hst
  have hg2 : g < w1.heap.size := hTp.lt
  obtain ⟨G, c, er, hGb, hGl, hcap, hcap2, hnd⟩ := ho.open_ hl0
  injection er with e1 _ e2
  subst e1 e2
  have hA2 : G ≠ g := by omega
  have HCK := Lib.hid hchk
  have HNE := Lib.hid hl0
  have hln1 : 1 ≤ l.length := List.length_pos_iff.2 hl0
  obtain ⟨n, hn⟩ : ∃ n, n = l.length := ⟨_, rfl⟩
  rw [← hn] at hl8 hln1 hcap ⊢
  have HN := Lib.hid hn
  clear hst l1 hTp hb1 ho hchk hl0 hn
  unfold maxLen at hcap2
  go_wp2_with fail
  refine (mod_any turn n w2 (by omega) (by omega)).mono ?_
  rintro e w3 ⟨rfl, rfl⟩
  obtain ⟨q, hq⟩ : ∃ q : Nat, (q : Int) = turn % n := ⟨(turn % n).toNat, by have := Int.emod_nonneg turn (show (n : Int) ≠ 0 by omega); omega⟩
  have hqn : q < n := by have := Int.emod_lt_of_pos turn (show (0 : Int) < n by omega); omega
  rw [← hq]
  clear hq
  have hq0 : (0 : Int) ≤ (q : Int) := by omega
  have hq1 : (q : Int) ≤ (n : Int) := by omega
  have hq2 : (q : Int) ≤ (c2 : Int) := by omega
  have hq3 : (n : Int) ≤ (c2 : Int) := by omega
  have hq4 : ¬ ((n : Int) < (q : Int)) := by omega
  have hcq : ¬ c2 = q := by omega
  have HM1 := Lib.hid (hnd.cut q)
  have HM2 := Lib.hid (hnd.take q)
  have HQ1 : Hid ((l.drop q).length = n - q) := Lib.hid (by rw [List.length_drop, ← HN.out])
  have HQ2 : Hid ((l.take q).length = q) := Lib.hid (by rw [List.length_take, ← HN.out]; omega)
  have HND := Lib.hid hnd
  clear hnd
  go_wp2_with fail
  have hbe := ((Below.refl w2.heap.size w2).alloc (Nat.le_refl _) (.cells #[] 60)).drew
  have hEm : OwnN (w2.alloc (.cells #[] 60)).drew w2.heap.size (.slice (some ⟨w2.heap.size, 0, none⟩) 0 0) [] := OwnN.empty w2
  have h9 := HM1.out.below hbe
  have q1 : 0 + (n - q) ≤ 1000000 := by omega
  have q2 : w2.heap.size ≤ (World.drew (World.alloc w2 (.cells #[] 60))).heap.size := hbe.size
  have q3 : ([] ++ l.drop q).length + q ≤ 1000000 := by rw [List.nil_append, HQ1.out]; omega
  go_region_held3 (fun w' => Below w2.heap.size w2 w') (first | with_reducible exact hb10 | with_reducible exact hb9 | with_reducible exact hbe | with_reducible exact (Below.refl _ _).drew | with_reducible assumption) (first | (refine step_pushNs (w := World.drew (World.alloc w2 (.cells #[] 60))) (o := ⟨some 32, _, _, _, _, _⟩) rfl (.tmp 28) (.tmp 31) 23 (by rfl) w2.heap.size inf Tryd.underlying23 hif hif1 hif2 hif3 (.slice (some ⟨w2.heap.size, 0, none⟩) 0 0) [] (by simp [Act.eval]) hEm w2.heap.size (some ⟨G, q * 3, none⟩) (l.drop q) (n - q) (c2 - q) HQ1.out (by simp [Act.eval]) h9 q1 q2 ?_; intro v1 wa ho1 hba; have hb9 := hbe.trans hba) | (refine step_pushNs (w := wa) (o := ⟨some 36, _, _, _, _, _⟩) rfl (.tmp 32) (.tmp 35) 23 (by rfl) w2.heap.size inf Tryd.underlying23 hif hif1 hif2 hif3 v1 ([] ++ l.drop q) (by simp [Act.eval]) ho1 w2.heap.size (some ⟨G, 0, none⟩) (l.take q) q c2 HQ2.out (by simp [Act.eval]) (HM2.out.below hb9) q3 hb9.size ?_; intro v2 wb ho2 hbb; have hb10 := hb9.trans hbb))
  all_goals
    obtain ⟨A3, c3, rfl, hr3⟩ := ho2.read
    obtain ⟨m, hm⟩ : ∃ m, m = [] ++ l.drop q ++ l.take q := ⟨_, rfl⟩
    rw [← hm] at ho2 hr3 ⊢
    have hmn : m.length = n := by rw [hm, List.nil_append, List.length_append, HQ1.out, HQ2.out]; omega
    have hpm : m.Perm l := by
      rw [hm, List.nil_append]
      refine List.perm_append_comm.trans ?_
      rw [List.take_append_drop]
    have hA3 : ∀ b o, A3 = some ⟨b, o, none⟩ → b ≠ g := fun b o e => by
      have := (ho2.lt b (by rw [e]; rfl)).1
      omega
    have HMC := Lib.hid (chkV_perm hpm.symm HCK.out)
    have HMS := Lib.hid (srt_perm hpm (chkV_zero.1 HCK.out).2.2)
    have HMN := Lib.hid hmn
    have HM0 : Hid (m ≠ []) := Lib.hid fun e => by rw [e] at hmn; simp only [List.length_nil] at hmn; omega
    rw [hmn]
    have hndb := (HND.out.below hb10).more hb10.size
    have hTpb := hTp2.below hb10
    have l3 := l2.below hb10
    have HB3 := Lib.hid (hB2.trans (hb10.mono hB2.size))
    clear hm hpm hmn ho1 ho2 hba hbb hb9 hb10 hbe hEm h9 q1 q2 q3 HM1 HM2 HQ1 HQ2 HND hTp2 l2 hB2
    have HID := Lib.hid (id_any (some ⟨G, 0, none⟩) l c2 g wb hTpb hndb (by rw [← HN.out]; omega) (fun b o e => by injection e with e; injection e with e1 _; omega))
    rw [← HN.out] at HID
    go_wp2_with fail
    refine (HID.out).mono ?_
    rintro e w4 ⟨id, rfl, hst4⟩
    go_wp2_with fail
    refine (key_any g _ hst4.1 (l3.step hne2 hst4) hne2).mono ?_
    rintro e w5 ⟨key, hkey, rfl, hst5⟩
    have st5 := hst4.trans hst5
    have HNL := Lib.hid ((hndb.step (fun b o e => by injection e with e; injection e with e1 _; omega) (Nat.le_refl _) st5).more st5.2.size)
    have HNM := Lib.hid ((hr3.step hA3 (Nat.le_refl _) st5).more st5.2.size)
    have HB5 := Lib.hid (HB3.out.grown st5.2 HB3.out.size (fun j e => by have := Option.some.inj e; omega))
    have hvk : vk key = true := by simp only [vk, decide_eq_true_eq]; exact hkey
    have HSO := Lib.hid (fun (W : World) (k : Below w5.heap.size w5 W) => sort_any (some ⟨G, 0, none⟩) l c2 W ((HNL.out.below k).more k.size) HNE.out (by rw [← HN.out]; omega))
    have HSM := Lib.hid (fun (W : World) (k : Below w5.heap.size w5 W) => sort_any A3 m c3 W ((HNM.out.below k).more k.size) HM0.out (by rw [HMN.out]; omega))
    have HOL := Lib.hid (fun (W : World) (k : Below w5.heap.size w5 W) => owner_yes (some ⟨G, 0, none⟩) l c2 key W ((HNL.out.below k).more k.size) HNE.out (by rw [← HN.out]; omega) HCK.out hvk)
    have HOM := Lib.hid (fun (W : World) (k : Below w5.heap.size w5 W) => owner_yes A3 m c3 key W ((HNM.out.below k).more k.size) HM0.out (by rw [HMN.out]; omega) HMC.out hvk)
    have HIL := Lib.hid (fun (W : World) (k : Below w5.heap.size w5 W) => interval_any (some ⟨G, 0, none⟩) l c2 id W ((HNL.out.below k).more k.size) HNE.out (by rw [← HN.out]; omega) HCK.out)
    have HIM := Lib.hid (fun (W : World) (k : Below w5.heap.size w5 W) => interval_any A3 m c3 id W ((HNM.out.below k).more k.size) HM0.out (by rw [HMN.out]; omega) HMC.out)
    have HCM := Lib.hid (fun (W : World) (k : Below w5.heap.size w5 W) => check_any A3 m c3 W ((HNM.out.below k).more k.size) (ros_wide HMC.out))
    rw [HMC.out] at HCM
    rw [HMS.out] at HOM HIM
    rw [← HN.out] at HSO HOL HIL
    rw [HMN.out] at HSM HOM HIM HCM
    obtain ⟨S, hS⟩ : ∃ S, S = srt l := ⟨_, rfl⟩
    have HES : Hid (∀ s, Srt l s → s = S) := Lib.hid fun s h => (srt_of h (chkV_zero.1 HCK.out).2.2).trans hS.symm
    have HEM : Hid (∀ s, Srt m s → s = S) := Lib.hid fun s h => ((srt_of h (chkV_zero.1 HMC.out).2.2).trans HMS.out).trans hS.symm
    have HET : Hid (∀ s, Srt S s → s = S) := Lib.hid fun s h => by
      have hc : chkV S = 0 := chkV_perm (by rw [hS]; exact (srt_srt l).1.symm) HCK.out
      rw [srt_of h (chkV_zero.1 hc).2.2]
      refine (srt_of ⟨List.Perm.refl _, ?_⟩ (chkV_zero.1 hc).2.2).symm
      rw [hS]
      exact (srt_srt l).2
    have HSN : Hid (S.length = n) := Lib.hid (by rw [hS, (srt_srt l).len, HN.out])
    have HS0 : Hid (S ≠ []) := Lib.hid fun e => by have := HSN.out; rw [e] at this; simp only [List.length_nil] at this; omega
    rw [← hS] at HOL HOM HIL HIM
    generalize ownV S key = oo at *
    generalize ivlV S id = rr at *
    generalize decide (plc S id < S.length) = fd at *
    obtain ⟨oi, ok, ow⟩ := oo
    obtain ⟨⟨rk1, rt1⟩, ⟨rk2, rt2⟩⟩ := rr
    clear hst4 hst5 st5 hS HID hndb hTpb l3 HB3 hr3 hkey HNL HNM HMC HMS HM0 hA3 hvk
    go_wp2_with fail
    refine (HOL.out w5 (Below.refl _ _)).mono ?_
    rintro e w6 ⟨rfl, hb6⟩
    have K6 := hb6.alloc hb6.size (.cells #[.int .i64 oi, .string ok, .int .u32 (ow : Int)] 60)
    have X6 := Has.new w6 60 #[.int .i64 oi, .string ok, .int .u32 (ow : Int)]
    have HX6 := Lib.hid X6
    have HK6 := Lib.hid K6
    clear HOL hb6 K6 X6
    go_wp2_with fail
    refine (HOM.out _ HK6.out).mono ?_
    rintro e w7 ⟨rfl, hb7⟩
    have K7 := hb7.alloc hb7.size (.cells #[.int .i64 oi, .string ok, .int .u32 (ow : Int)] 60)
    have KK7 := HK6.out.trans (K7.mono HK6.out.size)
    have HX7 := Lib.hid (HX6.out.below K7)
    have HY7 := Lib.hid (Has.new w7 60 #[.int .i64 oi, .string ok, .int .u32 (ow : Int)])
    have HK7 := Lib.hid KK7
    clear HOM hb7 K7 KK7 HX6 HK6
    go_wp2_with fail
    refine (HIL.out _ HK7.out).mono ?_
    rintro e w8 ⟨rfl, hb8⟩
    have K8 := hb8.alloc hb8.size (.cells #[.string rk1, .bool rt1, .string rk2, .bool rt2] 74)
    have KK8 := HK7.out.trans (K8.mono HK7.out.size)
    have HX8 := Lib.hid (HX7.out.below K8)
    have HY8 := Lib.hid (HY7.out.below K8)
    have HZ8 := Lib.hid (Has.new w8 74 #[.string rk1, .bool rt1, .string rk2, .bool rt2])
    have HK8 := Lib.hid KK8
    clear HIL hb8 K8 KK8 HX7 HY7 HK7
    go_wp2_with fail
    refine (HIM.out _ HK8.out).mono ?_
    rintro e w9 ⟨rfl, hb9⟩
    have K9 := hb9.alloc hb9.size (.cells #[.string rk1, .bool rt1, .string rk2, .bool rt2] 74)
    have KK9 := HK8.out.trans (K9.mono HK8.out.size)
    have HX9 := Lib.hid (HX8.out.below K9)
    have HY9 := Lib.hid (HY8.out.below K9)
    have HZ9 := Lib.hid (HZ8.out.below K9)
    have HV9 := Lib.hid (Has.new w9 74 #[.string rk1, .bool rt1, .string rk2, .bool rt2])
    have HK9 := Lib.hid KK9
    clear HIM hb9 K9 KK9 HX8 HY8 HZ8 HK8
    go_wp2_with fail
    refine (HSO.out _ HK9.out).mono ?_
    rintro e wa ⟨s, hs, A4, c4, rfl, ho4, hb4⟩
    obtain rfl := HES.out s hs
    obtain ⟨_, _, er, hr4⟩ := ho4.read
    injection er with e1 _ e2
    subst e1 e2
    have HKA := Lib.hid (HK9.out.trans (hb4.mono HK9.out.size))
    have Xa := HX9.out.below hb4
    have Ya := HY9.out.below hb4
    have Za := HZ9.out.below hb4
    have Va := HV9.out.below hb4
    have x0 := Xa.cell 0
    have x1 := Xa.cell 1
    have x2 := Xa.cell 2
    have y0 := Ya.cell 0
    have y1 := Ya.cell 1
    have y2 := Ya.cell 2
    have z0 := Za.cell 0
    have z1 := Za.cell 1
    have z2 := Za.cell 2
    have z3 := Za.cell 3
    have v0 := Va.cell 0
    have v1 := Va.cell 1
    have v2 := Va.cell 2
    have v3 := Va.cell 3
    have hne1 := eql_nself oi ok ow
    have hne2' := eql_rself rk1 rt1 rk2 rt2
    have hff : (fd == fd) = true := by simp
    have HSS := Lib.hid (fun (W : World) (k : Below wa.heap.size wa W) => sort_any A4 s c4 W ((hr4.below k).more k.size) HS0.out (by rw [HSN.out]; omega))
    have HNS := Lib.hid (fun (W : World) (k : Below wa.heap.size wa W) => ((hr4.below k).more k.size))
    rw [HSN.out] at HSS ⊢
    clear hs ho4 hb4 hr4 HSO HX9 HY9 HZ9 HV9 HK9 Xa Ya Za Va HES
    go_wp2_with fail
    refine (HSM.out _ HKA.out).mono ?_
    rintro e wb2 ⟨s2, hs2, A5, c5, rfl, ho5, hb5⟩
    obtain rfl := HEM.out s2 hs2
    obtain ⟨_, _, er, hr5⟩ := ho5.read
    injection er with e1 _ e2
    subst e1 e2
    have HSAME := Lib.hid (same_nodes A4 A5 s2 s2 c4 c5 wb2 (HNS.out _ hb5) hr5 (by rw [HSN.out]; omega))
    have HB5' := Lib.hid hb5
    rw [HSN.out, sameN_self] at HSAME
    rw [HSN.out]
    clear x0 x1 x2 y0 y1 y2 z0 z1 z2 z3 v0 v1 v2 v3 hs2 ho5 hb5 hr5 HSM hne1 hne2' HEM
    go_wp2_with fail
    refine (HSAME.out).mono ?_
    rintro e wc ⟨rfl, hbc⟩
    have HBC := Lib.hid (HB5'.out.trans (hbc.mono HB5'.out.size))
    clear hbc HSAME HB5'
    go_wp2_with fail
    refine (HSS.out _ HBC.out).mono ?_
    rintro e wd ⟨s3, hs3, A6, c6, rfl, ho6, hb6⟩
    obtain rfl := HET.out s3 hs3
    obtain ⟨_, _, er, hr6⟩ := ho6.read
    injection er with e1 _ e2
    subst e1 e2
    have hBD := HBC.out.trans (hb6.mono HBC.out.size)
    have HSAME := Lib.hid (same_nodes A4 A6 s3 s3 c4 c6 wd (HNS.out _ hBD) hr6 (by rw [HSN.out]; omega))
    rw [HSN.out, sameN_self] at HSAME
    rw [HSN.out]
    have HBD := Lib.hid hBD
    clear hs3 ho6 hb6 hr6 HSS HET hBD HNS HBC
    go_wp2_with fail
    refine (HSAME.out).mono ?_
    rintro e we ⟨rfl, hbe⟩
    have HBE := Lib.hid (HKA.out.trans ((HBD.out.trans (hbe.mono HBD.out.size)).mono HKA.out.size))
    clear hbe HSAME HBD
    go_wp2_with fail
    refine (HCM.out _ HBE.out).mono ?_
    rintro e wf ⟨rfl, hbf⟩
    have HBF := Lib.hid (HBE.out.trans (hbf.mono HBE.out.size))
    clear hbf HBE HCM
    go_wp2_with fail
    refine (HSA.out _).mono ?_
    rintro e wg ⟨rfl, hbg⟩
    have HBG := Lib.hid (HB5.out.trans ((HBF.out.trans (hbg.mono HBF.out.size)).mono HB5.out.size))
    go_wp2_with fail
    go_ret
    exact ⟨rfl, HBG.out⟩
end Go.Proofs.YtiafimbehcemcaaDoor
