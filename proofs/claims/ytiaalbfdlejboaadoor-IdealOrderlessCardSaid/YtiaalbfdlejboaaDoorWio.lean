/-
  The walk of IdealOrderless: from whatever numbers it answers true and only makes memory. Conditions: the arguments can be read; 'letters' is as its initialiser lays it.
-/
import Derived.Test.YtiaalbfdlejboaaDoorKmI
import Derived.Test.YtiaalbfdlejboaaDoorLgJ
import Derived.Test.YtiaalbfdlejboaaDoorLdX
import Derived.Deep.DeepCutAuto
import Derived.Deep.CutBlock
import Derived.Deep.RegionHeld3
namespace Go.Proofs.YtiaalbfdlejboaaDoor
open Go.RowKit

/-- A row of nodes' links of which the first i have lost their last level. -/
def CutS (w : World) (g : Nat) (H : Nat → Nat) (ls : List Ld) (M i : Nat) : Prop :=
  (∃ cs, Has w g 71 cs ∧ ∀ j (h : j < ls.length), cs[j * 2]? = some (.int .i64 ls[j].id) ∧ cs[j * 2 + 1]? = some (.slice (some ⟨H j, 0, none⟩) (if j < i then M else M + 1) (M + 1))) ∧ ∀ j (h : j < ls.length), g < H j ∧ Has w (H j) 53 (flatK ls[j].levels).toArray
section
variable {w w' : World} {g : Nat} {H : Nat → Nat} {ls : List Ld} {M i : Nat}
theorem CutS.start (h : DBlk w g H ls []) (hm : ∀ x ∈ ls, x.levels.length = M + 1) : CutS w g H ls M 0 := by
  refine ⟨⟨_, h.outer, fun j hj => ?_⟩, h.inner⟩
  obtain ⟨h1, h2⟩ := h.head hj
  rw [h.outer.cell] at h1 h2
  rw [hm _ (List.getElem_mem hj)] at h2
  exact ⟨h1, h2⟩
theorem CutS.below (h : CutS w g H ls M i) (k : Below w.heap.size w w') : CutS w' g H ls M i := by
  obtain ⟨⟨cs, h1, h2⟩, h3⟩ := h
  exact ⟨⟨cs, h1.below k, h2⟩, fun j hj => ⟨(h3 j hj).1, (h3 j hj).2.below k⟩⟩
theorem CutS.cells (h : CutS w g H ls M i) {j : Nat} (hj : j < ls.length) : w.cell? ⟨g, j * 2 + 1, none⟩ = some (.slice (some ⟨H j, 0, none⟩) (if j < i then M else M + 1) (M + 1)) ∧ ∀ o, w.frozen? ⟨g, o, none⟩ = false := by
  obtain ⟨⟨cs, h1, h2⟩, h3⟩ := h
  exact ⟨by rw [h1.cell]; exact (h2 j hj).2, fun o => h1.frozen o⟩
theorem CutS.step (h : CutS w g H ls M i) (_hi : i < ls.length) : CutS (w.setCell ⟨g, i * 2 + 1, none⟩ (.slice (some ⟨H i, 0, none⟩) M (M + 1))) g H ls M (i + 1) := by
  obtain ⟨⟨cs, h1, h2⟩, h3⟩ := h
  refine ⟨⟨_, h1.set_ _ _, fun j hj => ?_⟩, fun j hj => ⟨(h3 j hj).1, (h3 j hj).2.far (p := ⟨g, i * 2 + 1, none⟩) (by have := (h3 j hj).1; show H j ≠ g; omega) _⟩⟩
  obtain ⟨k1, k2⟩ := h2 j hj
  refine ⟨by rw [Array.getElem?_setIfInBounds_ne (by omega)]; exact k1, ?_⟩
  by_cases e : i = j
  · subst e
    have hs : i * 2 + 1 < cs.size := by
      rcases Nat.lt_or_ge (i * 2 + 1) cs.size with k | k
      · exact k
      · rw [Array.getElem?_eq_none k] at k2; cases k2
    rw [Array.getElem?_setIfInBounds_self_of_lt hs, if_pos (Nat.lt_succ_self _)]
  · rw [Array.getElem?_setIfInBounds_ne (by omega), k2]
    have e2 : (j < i) ↔ (j < i + 1) := by omega
    by_cases h5 : j < i
    · rw [if_pos h5, if_pos (e2.1 h5)]
    · rw [if_neg h5, if_neg (fun q => h5 (e2.2 q))]
theorem CutS.read (h : CutS w g H ls M ls.length) (hm : ∀ x ∈ ls, x.levels.length = M + 1) (hM : M + 1 ≤ maxLen) : Lds w w.heap.size (some ⟨g, 0, none⟩) (ls.map fun x => (⟨x.id, x.levels.take M⟩ : Ld)) := fun _ => by
  obtain ⟨⟨cs, h1, h2⟩, h3⟩ := h
  refine ⟨g, 0, rfl, h1.lt, fun j hj => ?_⟩
  have hj2 : j < ls.length := by simpa using hj
  obtain ⟨k1, k2⟩ := h2 j hj2
  rw [if_pos hj2] at k2
  have hl := hm _ (List.getElem_mem hj2)
  simp only [List.getElem_map, Nat.zero_add]
  rw [h1.cell, h1.cell, k1, k2]
  refine ⟨rfl, some ⟨H j, 0, none⟩, M + 1, by rw [List.length_take, hl, Nat.min_eq_left (Nat.le_succ M)], by rw [List.length_take, hl]; omega, hM, fun _ => ⟨H j, 0, rfl, (h3 j hj2).2.lt, fun t ht => ?_⟩⟩
  have ht2 : t < ls[j].levels.length := by rw [List.length_take] at ht; omega
  obtain ⟨q1, q2⟩ := flatK_at ls[j].levels t ht2
  rw [Nat.zero_add, (h3 j hj2).2.cell, (h3 j hj2).2.cell, List.getElem_take]
  simp only [List.getElem?_toArray]
  exact ⟨q1, q2⟩
end

set_option maxRecDepth 100000 in
set_option maxHeartbeats 1600000 in
theorem iorderless_walk (A : Option Addr) (n0 cp : Nat) (turn : Int) (w : World) (hL : Lets w) (hnc : n0 ≤ cp) (hc : cp ≤ maxLen) (hN : Nums w w.heap.size A n0) :
    Calls Tryd.prog 9 #[.slice A n0 cp, .int .i64 turn] w (LawP w) := by
  have HSA := Lib.hid sane6_any
  obtain ⟨inf, hif, hif1, hif2, hif3⟩ := infoN_parts
  go_enter Tryd.func9, Tryd.ntmps9
  go_wp2_with fail
  refine (new_any A n0 cp _ hnc hc hN).mono ?_
  rintro e w1 ⟨g, hg1, rfl, hTp, hb1⟩
  have hne2 : 0 ≠ g := by have := hL.lt; omega
  have l1 := hL.below hb1
  clear hN hnc hc hL
  go_wp2_with fail
  refine (some_any 8 g w1 (by omega) (by omega) hTp l1 hne2).mono ?_
  rintro e w2 ⟨A2, c2, l, rfl, ho, hl0, hl8, hchk, hst⟩
  have hB2 : Below w.heap.size w w2 := hb1.grown hst.2 hb1.size (fun j e => by have := Option.some.inj e; omega)
  have hgw : g < w1.heap.size := hTp.lt
  obtain ⟨G, c, er, hGb, hGl, hcap, hcap2, hnd⟩ := ho.open_ hl0
  injection er with e1 _ e2
  subst e1 e2
  have hA2 : ∀ b o, (some ⟨G, 0, none⟩ : Option Addr) = some ⟨b, o, none⟩ → b ≠ g := fun b o e => by
    injection e with e
    injection e with e _
    omega
  have hTp2 := hst.1
  have HCK := Lib.hid hchk
  obtain ⟨n, hn⟩ : ∃ n, n = l.length := ⟨_, rfl⟩
  have hwd : ∀ x ∈ l, x.word < 4294967296 := fun x hx => (wide_of hchk x hx).2
  have l2 := l1.step hne2 hst
  have hln1 : 1 ≤ l.length := List.length_pos_iff.2 hl0
  have HBD := Lib.hid (fun (W : World) (hr : Nds W W.heap.size (some ⟨G, 0, none⟩) l) (m : Nat) (hm : m ≤ 16) => build_ok (some ⟨G, 0, none⟩) l c2 m W hr hchk hm)
  rw [← hn] at hl8 hcap hln1 HBD ⊢
  have HN := Lib.hid hn
  have HB2 := Lib.hid hB2
  clear hst l1 hTp hb1 ho hchk hl0 hwd hB2 l2 hn
  unfold maxLen at hcap2
  go_wp2_with fail
  refine (mod_any turn n w2 (by omega) (by omega)).mono ?_
  rintro e w3 ⟨rfl, rfl⟩
  obtain ⟨q, hq⟩ : ∃ q : Nat, (q : Int) = turn % n := ⟨(turn % n).toNat, by have := Int.emod_nonneg turn (show (n : Int) ≠ 0 by omega); omega⟩
  have hqn : q < n := by have := Int.emod_lt_of_pos turn (show (0 : Int) < n by omega); omega
  rw [← hq]
  clear hq
  go_wp2_with fail
  refine (next_any g 4 w2 hTp2 (by omega)).mono ?_
  rintro e w3 ⟨r, r0, r1, rfl, hst3⟩
  obtain ⟨m, rfl⟩ : ∃ m : Nat, r = (m : Int) := ⟨r.toNat, by omega⟩
  have hm4 : m < 4 := by omega
  have hnd3 := nds_step hnd hA2 hst3
  have HB3 := Lib.hid (HB2.out.grown hst3.2 HB2.out.size (fun j e => by have := Option.some.inj e; omega))
  have hG3 : G < w3.heap.size := Nat.lt_of_lt_of_le hGl hst3.2.size
  clear hst3 hTp2 hnd HB2 r0 r1 hgw hGl
  have HA := Lib.hid (HBD.out w3 hnd3 m (by omega))
  have HRL : Hid ((bldV l (m + 1)).length = n) := Lib.hid (by rw [bld_len, HN.out])
  obtain ⟨R, hR⟩ : ∃ R, R = bldV l (m + 1) := ⟨_, rfl⟩
  have HRE := Lib.hid hR
  rw [← hR] at HA HRL
  unfold BldOk at HA
  rw [HRL.out] at HA
  clear hR
  go_wp2_with fail
  refine (HA.out).mono ?_
  rintro e w4 ⟨ga, Ha, hga, rfl, hDa, hb4⟩
  have hnd4 := (hnd3.below hb4).more hb4.size
  have HDA := Lib.hid hDa
  have HB4 := Lib.hid (HB3.out.trans (hb4.mono HB3.out.size))
  have HND := Lib.hid hnd4
  have hq0 : (0 : Int) ≤ (q : Int) := by omega
  have hq1 : (q : Int) ≤ (n : Int) := by omega
  have hq2 : (q : Int) ≤ (c2 : Int) := by omega
  have hq3 : (n : Int) ≤ (c2 : Int) := by omega
  have hq4 : ¬ ((n : Int) < (q : Int)) := by omega
  have hcq : ¬ c2 = q := by omega
  have HM1 := Lib.hid (hnd4.cut q)
  have HM2 := Lib.hid (hnd4.take q)
  have HQ1 : Hid ((l.drop q).length = n - q) := Lib.hid (by rw [List.length_drop, ← HN.out])
  have HQ2 : Hid ((l.take q).length = q) := Lib.hid (by rw [List.length_take, ← HN.out]; omega)
  obtain ⟨mm, hmm⟩ : ∃ mm, mm = [] ++ l.drop q ++ l.take q := ⟨_, rfl⟩
  have hpm : mm.Perm l := by
    rw [hmm, List.nil_append]
    refine List.perm_append_comm.trans ?_
    rw [List.take_append_drop]
  have hmn : mm.length = n := by rw [hmm, List.nil_append, List.length_append, HQ1.out, HQ2.out]; omega
  have HBM := Lib.hid (fun (W : World) (A : Option Addr) (cc : Nat) (hr : Nds W W.heap.size A mm) => build_ok A mm cc m W hr (chkV_perm hpm.symm HCK.out) (by omega))
  rw [bld_perm hpm HCK.out, ← HRE.out, hmn] at HBM
  unfold BldOk at HBM
  rw [HRL.out] at HBM
  have HMM := Lib.hid hmm
  have HMN := Lib.hid hmn
  clear hnd3 hnd4 hb4 hDa HB3 HA hmm hpm hmn
  go_upto_region 5 with fail
  have hbe := ((Below.refl w4.heap.size w4).alloc (Nat.le_refl _) (.cells #[] 64)).drew
  have hEm : OwnN (w4.alloc (.cells #[] 64)).drew w4.heap.size (.slice (some ⟨w4.heap.size, 0, none⟩) 0 0) [] := OwnN.empty w4
  have h9 := HM1.out.below hbe
  have q1 : 0 + (n - q) ≤ 1000000 := by omega
  have q2 : w4.heap.size ≤ (World.drew (World.alloc w4 (.cells #[] 64))).heap.size := hbe.size
  have q3 : ([] ++ l.drop q).length + q ≤ 1000000 := by rw [List.nil_append, HQ1.out]; omega
  have hqc : (c2 : Int) ≤ 9223372036854775807 := by omega
  go_region_held3 (fun w' => Below w4.heap.size w4 w') (first | with_reducible exact hb11 | with_reducible exact hb10 | with_reducible exact hb9 | with_reducible exact hbe | with_reducible exact (Below.refl _ _).drew | with_reducible assumption) (first | (go_at_call 31; refine (HBM.out wb A3 c3 hr3).mono ?_; rintro e wc ⟨gb, Hb, hgb, rfl, hDb, hbc⟩; have hb11 := hb10.trans (hbc.mono hb10.size)) | (refine step_pushNs (w := wa) (o := ⟨some 41, _, _, _, _, _⟩) rfl (.tmp 37) (.tmp 40) 23 (by rfl) w4.heap.size inf Tryd.underlying23 hif hif1 hif2 hif3 v1 ([] ++ l.drop q) (by simp [Act.eval]) ho1 w4.heap.size (some ⟨G, 0, none⟩) (l.take q) q c2 HQ2.out (by simp [Act.eval]) (HM2.out.below hb9) q3 hb9.size ?_; intro v2 wb ho2 hbb; have hb10 := hb9.trans hbb; rw [← HMM.out] at ho2; obtain ⟨A3, c3, hv2, hr3⟩ := ho2.read; rw [HMN.out] at hv2; subst hv2) | (refine step_pushNs (w := World.drew (World.alloc w4 (.cells #[] 64))) (o := ⟨some 37, _, _, _, _, _⟩) rfl (.tmp 33) (.tmp 36) 23 (by rfl) w4.heap.size inf Tryd.underlying23 hif hif1 hif2 hif3 (.slice (some ⟨w4.heap.size, 0, none⟩) 0 0) [] (by simp [Act.eval]) hEm w4.heap.size (some ⟨G, q * 3, none⟩) (l.drop q) (n - q) (c2 - q) HQ1.out (by simp [Act.eval]) h9 q1 q2 ?_; intro v1 wa ho1 hba; have hb9 := hbe.trans hba))
  all_goals
    have HDB := Lib.hid hDb
    have HDC := Lib.hid (HDA.out.below hb11)
    have HNC := Lib.hid ((HND.out.below hb11).more hb11.size)
    have HBC := Lib.hid (HB4.out.trans (hb11.mono HB4.out.size))
    have HC := Lib.hid (HBD.out wc HNC.out (m + 1) (by omega))
    rw [show ((m + 1 : Nat) : Int) = (m : Int) + 1 by omega] at HC
    have HR2 : Hid ((bldV l (m + 1 + 1)).length = n) := Lib.hid (by rw [bld_len, HN.out])
    have HLV := Lib.hid (bld_lev l (m + 1 + 1))
    have HCUT := Lib.hid (bld_cut l (m + 1))
    rw [← HRE.out] at HCUT
    generalize bldV l (m + 1 + 1) = R2 at *
    unfold BldOk at HC
    rw [HR2.out] at HC
    have HLR : Hid (∀ x ∈ R, x.levels.length = m + 1) := Lib.hid (by rw [HRE.out]; exact bld_lev l (m + 1))
    have HS1 := Lib.hid (fun (W : World) (k : Below wc.heap.size wc W) => rsame6_any (some ⟨ga, 0, none⟩) (some ⟨gb, 0, none⟩) R R n n W (((HDC.out.below k).read (fun x hx => by rw [HLR.out x hx]; unfold maxLen; omega))) (((HDB.out.below k).read (fun x hx => by rw [HLR.out x hx]; unfold maxLen; omega))) (by rw [HRL.out]; omega))
    rw [HRL.out, decide_eq_true (rfl : R = R)] at HS1
    have mz0 : (0 : Int) ≤ (m : Int) := by omega
    have mz1 : (m : Int) < 4 := by omega
    have nz1 : (n : Int) ≤ 8 := by omega
    clear hDb hbe hEm h9 q1 q2 q3 hqc ho1 ho2 hba hbb hb9 hb10 hb11 hbc hgb hr3 hq0 hq1 hq2 hq3 hq4 hcq HM1 HM2 HQ1 HQ2 HMM HMN HBM HB4 HND HBD hga
    go_wp2_with fail
    refine (HC.out).mono ?_
    rintro e wd ⟨gc, Hc, hgc, rfl, hDd, hbd⟩
    have HDD := Lib.hid hDd
    have HDA2 := Lib.hid (HDC.out.below hbd)
    have HBD2 := Lib.hid (HBC.out.trans (hbd.mono HBC.out.size))
    have HS2 := Lib.hid (HS1.out wd hbd)
    have hnn : ((n : Int) != (n : Int)) = false := by simp
    have HFAR : Hid (ga ≠ gc ∧ (∀ j, j < R.length → Ha j ≠ gc) ∧ w.heap.size ≤ gc) := Lib.hid ⟨by have := HDC.out.outer.lt; omega, fun j hj => by have := (HDC.out.inner j hj).2.lt; omega, by have := HBC.out.size; omega⟩
    clear hDd hbd HC HS1 HDC HBC HDB hgc
    go_wp2_with fail
    refine (HS2.out).mono ?_
    rintro e we ⟨rfl, hbe⟩
    have HC0 := Lib.hid ((CutS.start HDD.out HLV.out).below hbe)
    have HDA3 := Lib.hid (HDA2.out.below hbe)
    have HBE := Lib.hid (HBD2.out.trans (hbe.mono HBD2.out.size))
    clear hbe HDD HDA2 HBD2 HS2
    go_wp2_with fail
    go_loopw [15] (fun vi wr => ∃ i : Nat, vi = .int .i64 (i : Int) ∧ i ≤ n ∧ CutS wr gc Hc R2 (m + 1) i ∧ DBlk wr ga Ha R [] ∧ Below w.heap.size w wr) (fun vi _ => n - (intOf vi).toNat)
    case atStart => exact ⟨0, rfl, by omega, HC0.out, HDA3.out, HBE.out⟩
    case round =>
      clear HC0 HDA3 HBE
      obtain ⟨i, rfl, hi, hC, hD, hB⟩ := hrel
      by_cases hlt : i < n
      · have i2 : i < R2.length := by rw [HR2.out]; exact hlt
        obtain ⟨f1, fz⟩ := hC.cells i2
        rw [if_neg (Nat.lt_irrefl i)] at f1
        have hst := hC.step i2
        have i0 : (0 : Int) ≤ (i : Int) := by omega
        have i1 : (i : Int) < (n : Int) := by omega
        have hmm2 : ((((m + 1 + 1 : Nat) : Int)) != (m : Int) + 2) = false := by simp; omega
        have hDF : ∀ u, DBlk (wr.setCell ⟨gc, i * 2 + 1, none⟩ u) ga Ha R [] := fun u => ⟨hD.outer.far (p := ⟨gc, i * 2 + 1, none⟩) HFAR.out.1 u, fun j hj => ⟨(hD.inner j hj).1, (hD.inner j hj).2.far (p := ⟨gc, i * 2 + 1, none⟩) (HFAR.out.2.1 j hj) u⟩, hD.mono⟩
        have HST := Lib.hid hst
        have HDF := Lib.hid hDF
        have HBF := Lib.hid hB
        clear hst hDF hC hD hB
        go_wp2_with fail
        exact ⟨⟨i + 1, by go_num, hlt, HST.out, HDF.out _, HBF.out.setCell (p := ⟨gc, i * 2 + 1, none⟩) HFAR.out.2.2 _⟩, by simp [intOf]; omega⟩
      · have ei : i = R2.length := by rw [HR2.out]; omega
        rw [ei] at hC
        have hrd := hC.read HLV.out (by unfold maxLen; omega)
        rw [HCUT.out] at hrd
        have HS3 := Lib.hid (rsame6_any (some ⟨ga, 0, none⟩) (some ⟨gc, 0, none⟩) R R n n wr (hD.read (fun x hx => by rw [HLR.out x hx]; unfold maxLen; omega)) hrd (by rw [HRL.out]; omega))
        rw [HRL.out, decide_eq_true (rfl : R = R)] at HS3
        have HBF := Lib.hid hB
        clear ei hC hD hrd hB
        go_wp2_with fail
        refine (HS3.out).mono ?_
        rintro e wf ⟨rfl, hbf⟩
        have HBG := Lib.hid (HBF.out.trans (hbf.mono HBF.out.size))
        have HS9 := Lib.hid (HSA.out wf)
        clear hbf HS3 HBF
        go_wp2_with fail
        refine (HS9.out).mono ?_
        rintro e w9 ⟨rfl, hb9⟩
        go_wp2_with fail
        go_ret
        exact ⟨rfl, HBG.out.trans (hb9.mono HBG.out.size)⟩
end Go.Proofs.YtiaalbfdlejboaaDoor
