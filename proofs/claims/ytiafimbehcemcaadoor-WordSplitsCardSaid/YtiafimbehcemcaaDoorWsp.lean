/-
  The walk of WordSplits: from whatever numbers it answers true and only makes memory. Conditions: the first argument reads as a slice of ints; 'letters' and the library's table of trailing zeros are as their initialisers lay them.
-/
import Derived.Test.YtiafimbehcemcaaDoorKeA
import Derived.Test.YtiafimbehcemcaaDoorKdR
namespace Go.Proofs.YtiafimbehcemcaaDoor
open Go.RowKit

theorem sum_take {m : List Nd → Nat} {cs : List (List Nd)} {k : Nat} (h : k < cs.length) : ((cs.take (k + 1)).map m).sum = ((cs.take k).map m).sum + m cs[k] := by
  rw [List.take_succ_eq_append_getElem h, List.map_append, List.sum_append]
  simp
theorem count_take {b : Nd → Bool} {c : List Nd} {j : Nat} (h : j < c.length) : (c.take (j + 1)).countP b = (c.take j).countP b + (b c[j]).toNat := by
  rw [List.take_succ_eq_append_getElem h, List.countP_append]
  cases hb : b c[j] <;> simp [hb]
theorem prt_count (b : Nd → Bool) (c : List Nd) : prt b c = (if 0 < c.countP b then 1 else 0) + if c.countP b < c.length then 1 else 0 := by
  unfold prt
  have e1 : c.any b = true ↔ 0 < c.countP b := by rw [List.any_eq_true, List.countP_pos_iff]
  have e2 : c.any (fun x => !b x) = true ↔ c.countP b < c.length := by
    rw [List.any_eq_true]
    have h := List.length_eq_countP_add_countP b (l := c)
    have h2 : (∃ x, x ∈ c ∧ (!b x) = true) ↔ 0 < c.countP (fun x => !b x) := by rw [List.countP_pos_iff]
    rw [h2]
    simp only [Bool.not_eq_true, Bool.decide_eq_false] at h
    omega
  simp only [e1, e2]

set_option maxRecDepth 100000 in
set_option maxHeartbeats 6400000 in
theorem splits_walk (A : Option Addr) (n0 cp : Nat) (lv : Int) (w : World) (hL : Lets w) (hT : Deb w) (hnc : n0 ≤ cp) (hc : cp ≤ maxLen) (hN : Nums w w.heap.size A n0) :
    Calls Tryd.prog 6 #[.slice A n0 cp, .int .i64 lv] w (LawP w) := by
  go_enter Tryd.func6, Tryd.ntmps6
  go_wp2_with fail
  refine (new_any A n0 cp _ hnc hc hN).mono ?_
  rintro e w1 ⟨g, hg1, rfl, hTp, hb1⟩
  have hne : 1 ≠ g := by have := hT.lt; omega
  have hne2 : 0 ≠ g := by have := hL.lt; omega
  have d1 := hT.below hb1
  have l1 := hL.below hb1
  clear hT hN hnc hc hL
  go_wp2_with fail
  refine (roster_any 10 g w1 (by omega) (by omega) hTp l1 hne2).mono ?_
  rintro e w2 ⟨A2, c2, l, rfl, ho, hl10, hwd, hchk, hst⟩
  have d2 := d1.step hne hst
  have hB2 : Below w.heap.size w w2 := hb1.grown hst.2 hb1.size (fun j e => by have := Option.some.inj e; omega)
  obtain ⟨_, _, er, hnd⟩ := ho.read
  injection er with e1 _ e2
  subst e1 e2
  have hwd2 : ∀ x ∈ l, x.word < 4294967296 := fun x hx => Nat.lt_trans (hwd x hx) (by decide)
  clear hst l1 d1 hTp hb1 ho hchk hwd
  go_wp2_with fail
  refine (mod_any lv 16 w2 (by omega) (by omega)).mono ?_
  rintro e w3 ⟨rfl, rfl⟩
  obtain ⟨h, hh⟩ : ∃ h : Nat, (h : Int) = lv % 16 := ⟨(lv % 16).toNat, by omega⟩
  have h16 : h < 16 := by omega
  rw [← hh]
  clear hh
  have v1 : clsV l (h : Int) = clsK (lowK h) l := by unfold clsV; rw [if_neg (by omega), Int.toNat_natCast]
  have v2 : clsV l ((h : Int) + 1) = clsK (lowK (h + 1)) l := by unfold clsV; rw [if_neg (by omega), show ((h : Int) + 1).toNat = h + 1 by omega]
  have C1 := Lib.hid (classes_any A2 l c2 (h : Int) w2 hnd (by omega) hwd2)
  have C2 := Lib.hid (fun (W : World) (k : Below w2.heap.size w2 W) => classes_any A2 l c2 ((h : Int) + 1) W ((hnd.below k).more k.size) (by omega) hwd2)
  have hs : ((clsK (lowK h) l).map (prt fun x => x.word.testBit h)).sum = (clsK (lowK (h + 1)) l).length := sum_prt _ _ _ _ (fun x _ y _ => by unfold lowK; exact low_next _ _ _)
  have hsl := sum_len (lowK h) l
  have hpu : ∀ c ∈ clsK (lowK h) l, ∀ z ∈ c, z.word < 4294967296 ∧ kf (lowK h) c = some (lowK h z) := fun c hc z hz => ⟨hwd2 z (pure_cls _ _ c hc z hz).1, (pure_cls _ _ c hc z hz).2⟩
  have hml : ∀ c ∈ clsK (lowK h) l, c.length ≤ 10 := fun c hc => Nat.le_trans (cls_row_len _ _ c hc) hl10
  have hcl := cls_len (lowK h) l
  have hch := cls_len (lowK (h + 1)) l
  rw [v1] at C1
  rw [v2] at C2
  generalize clsK (lowK h) l = low at *
  generalize clsK (lowK (h + 1)) l = high at *
  clear v1 v2 hnd hwd2
  have h0 : (0 : Int) ≤ (h : Int) := by omega
  have h1 : (h : Int) < 16 := by omega
  go_wp2_with fail
  refine (C1.out).mono ?_
  rintro e w4 ⟨A4, c4, rfl, hr4, hb4⟩
  go_wp2_with fail
  refine (C2.out w4 hb4).mono ?_
  rintro e w5 ⟨A5, c5, rfl, hr5, hb5⟩
  have hr := (hr4.below hb5).more hb5.size
  have hB5 := (hB2.trans (hb4.mono hB2.size))
  replace hB5 := hB5.trans (hb5.mono hB5.size)
  have d5 := (d2.below hb4).below hb5
  clear C1 C2 hr4 hr5 hb4 hb5 hB2 d2
  have HNL := Lib.hid hsl
  have HHI := Lib.hid hs
  clear hsl hs
  generalize hnl : l.length = nl at *
  generalize hM : low.length = M at *
  generalize hH : high.length = nh at *
  have HM := Lib.hid hM
  have HML := Lib.hid hml
  have HPU := Lib.hid hpu
  clear hM hH hnl hml hpu
  go_wp2_with fail
  go_loopw [10, 11, 12] (fun n p i wr => ∃ (k s q : Nat), k ≤ M ∧ i = .int .i64 (k : Int) ∧ n = .int .i64 (s : Int) ∧ p = .int .i64 (q : Int) ∧ Hid (s = ((low.take k).map List.length).sum) ∧ Hid (q = ((low.take k).map (prt fun x => x.word.testBit h)).sum) ∧ s ≤ 10 * k ∧ q ≤ 2 * k ∧ Below w5.heap.size w5 wr) (fun _ _ i _ => M - (intOf i).toNat)
  case atStart => exact ⟨0, 0, 0, by omega, rfl, rfl, rfl, Lib.hid rfl, Lib.hid rfl, by omega, by omega, Below.refl _ _⟩
  case round =>
    obtain ⟨k, s, q, hk, rfl, rfl, rfl, HS1, HS2, hs10, hq2, hB⟩ := hrel
    by_cases hlt : k < M
    · have hkl : k < low.length := by rw [HM.out]; exact hlt
      obtain ⟨b, o, Ai, ci, eA, hb, f1, hrow⟩ := hr.at_ hkl
      subst eA
      have HN1 := Lib.hid (sum_take (m := List.length) hkl)
      have HN2 := Lib.hid (sum_take (m := prt fun x => x.word.testBit h) hkl)
      have hcl10 := HML.out _ (List.getElem_mem hkl)
      have HPC := Lib.hid (HPU.out _ (List.getElem_mem hkl))
      have F1 := (hB.cell (p := ⟨b, o + k, none⟩) hb).trans f1
      generalize low[k] = c at *
      obtain ⟨nc, hnc⟩ : ∃ nc, nc = c.length := ⟨_, rfl⟩
      rw [← hnc] at f1 F1 hcl10
      have HNC := Lib.hid hnc
      clear hnc
      have i0 : (0 : Int) ≤ (k : Int) := by omega
      have i1 : (k : Int) < (M : Int) := by omega
      go_wp2_with fail
      go_loopw [13, 14] (fun t j wz => ∃ (j' t' : Nat), j' ≤ nc ∧ j = .int .i64 (j' : Int) ∧ t = .int .i64 (t' : Int) ∧ t' ≤ j' ∧ Hid (t' = (c.take j').countP fun x => x.word.testBit h) ∧ Below w5.heap.size w5 wz) (fun _ j _ => nc - (intOf j).toNat)
      case atStart => exact ⟨0, 0, by omega, rfl, rfl, by omega, Lib.hid rfl, hB⟩
      case round =>
        clear hB F1
        obtain ⟨j, t, hj, rfl, rfl, htj, HT, hB⟩ := hrel
        have F1 := (hB.cell (p := ⟨b, o + k, none⟩) hb).trans f1
        by_cases hjn : j < nc
        · have hjc : j < c.length := by rw [← HNC.out]; exact hjn
          have h0c : 0 < c.length := by omega
          obtain ⟨b2, o2, eA, hb2, g1, g2, g3⟩ := hrow.at_ hjc
          obtain ⟨b3, o3, eA3, hb3, k1, k2, k3⟩ := hrow.at_ h0c
          rw [eA] at eA3
          injection eA3 with eA3
          injection eA3 with eb eo
          subst eA eb eo
          rw [Nat.zero_mul, Nat.add_zero] at k3
          obtain ⟨hz1, hz2⟩ := HPC.out _ (List.getElem_mem hjc)
          obtain ⟨hy1, hy2⟩ := HPC.out _ (List.getElem_mem h0c)
          have HCT := Lib.hid (count_take (b := fun x => x.word.testBit h) hjc)
          have hcm : (h : Int) ≤ (cm c[j].word c[0].word : Int) := by
            have := Option.some.inj (hz2.symm.trans hy2)
            rw [low_cm_int hz1 hy1 (by omega), Int.toNat_natCast]
            exact this
          have G3 := (hB.cell (p := ⟨b2, o2 + j * 3 + 2, none⟩) hb2).trans g3
          have K3 := (hB.cell (p := ⟨b2, o2 + 2, none⟩) hb2).trans k3
          have hbit := wbit_in (x := c[j].word) h16
          have hd : decide ((h : Int) ≤ (cm c[j].word c[0].word : Int)) = true := by simpa using hcm
          have HS : Hid (∀ n : Nat, Calls Tryd.prog 40 #[.int .u32 (c[j].word : Int), .int .u32 (c[0].word : Int), .int .i64 (h : Int)] (wr.drewN n) fun e w' => e = .returned (.bool true) ∧ wr.drewN n = w') := Lib.hid fun n => (same_any c[j].word c[0].word (h : Int) (wr.drewN n) hz1 hy1 (d5.below (w' := wr.drewN n) ⟨hB.os, hB.tape, hB.output, hB.size, hB.block⟩)).mono fun e w' k => ⟨by rw [k.1, hd], k.2⟩
          have HBT : Hid (∀ W : World, Calls Tryd.prog 39 #[.int .u32 (c[j].word : Int), .int .i64 (h : Int)] W fun e w' => e = .returned (.int .i64 ((c[j].word.testBit h).toNat : Int)) ∧ W = w') := Lib.hid fun W => (bit_any c[j].word (h : Int) W hz1).mono fun e w' k => ⟨by rw [k.1, hbit], k.2⟩
          have hb1' : (c[j].word.testBit h).toNat ≤ 1 := Bool.toNat_le _
          clear hd hcm hz2 hy2 hbit g1 g2 k1 k2 g3 k3
          generalize (c[j].word.testBit h).toNat = bt at *
          generalize c[j].word = zw at *
          generalize c[0].word = yw at *
          have j0 : (0 : Int) ≤ (j : Int) := by omega
          have j1 : (j : Int) < (nc : Int) := by omega
          have j2 : (0 : Int) < (nc : Int) := by omega
          go_wp2_with fail
          refine (HBT.out _).mono ?_
          rintro e w' ⟨rfl, rfl⟩
          go_wp2_with fail
          go_quiet ((go_at_call 40; exact quiet_left (HS.out _)))
          go_wp2_with fail
          exact ⟨⟨j + 1, t + bt, hjn, by go_num, by go_num, by omega, Lib.hid (by rw [HCT.out, ← HT.out]), ⟨hB.os, hB.tape, hB.output, hB.size, hB.block⟩⟩, by simp [intOf]; omega⟩
        · have HC2 : Hid (t = c.countP fun x => x.word.testBit h) := Lib.hid (by
            have := HT.out
            rwa [List.take_of_length_le (by have := HNC.out; omega)] at this)
          have HP : Hid (prt (fun x => x.word.testBit h) c = (if 0 < t then 1 else 0) + if t < nc then 1 else 0) := Lib.hid (by rw [prt_count, ← HC2.out, ← HNC.out])
          clear HT HC2
          by_cases ht0 : 0 < t
          · by_cases ht1 : t < nc
            · have HQ : Hid (prt (fun x => x.word.testBit h) c = 2) := Lib.hid (by rw [HP.out, if_pos ht0, if_pos ht1])
              clear HP
              go_wp2_with fail
              exact ⟨⟨k + 1, s + nc, q + 2, hlt, by go_num, by go_num, by go_num, Lib.hid (by rw [HN1.out, ← HS1.out, HNC.out]), Lib.hid (by rw [HN2.out, ← HS2.out, HQ.out]), by omega, by omega, hB⟩, by simp [intOf]; omega⟩
            · have HQ : Hid (prt (fun x => x.word.testBit h) c = 1) := Lib.hid (by rw [HP.out, if_pos ht0, if_neg ht1])
              clear HP
              go_wp2_with fail
              exact ⟨⟨k + 1, s + nc, q + 1, hlt, by go_num, by go_num, by go_num, Lib.hid (by rw [HN1.out, ← HS1.out, HNC.out]), Lib.hid (by rw [HN2.out, ← HS2.out, HQ.out]), by omega, by omega, hB⟩, by simp [intOf]; omega⟩
          · by_cases ht1 : t < nc
            · have HQ : Hid (prt (fun x => x.word.testBit h) c = 1) := Lib.hid (by rw [HP.out, if_neg ht0, if_pos ht1])
              clear HP
              go_wp2_with fail
              exact ⟨⟨k + 1, s + nc, q + 1, hlt, by go_num, by go_num, by go_num, Lib.hid (by rw [HN1.out, ← HS1.out, HNC.out]), Lib.hid (by rw [HN2.out, ← HS2.out, HQ.out]), by omega, by omega, hB⟩, by simp [intOf]; omega⟩
            · have HQ : Hid (prt (fun x => x.word.testBit h) c = 0) := Lib.hid (by rw [HP.out, if_neg ht0, if_neg ht1])
              clear HP
              go_wp2_with fail
              exact ⟨⟨k + 1, s + nc, q, hlt, by go_num, by go_num, by go_num, Lib.hid (by rw [HN1.out, ← HS1.out, HNC.out]), Lib.hid (by rw [HN2.out, ← HS2.out, HQ.out]; rfl), by omega, by omega, hB⟩, by simp [intOf]; omega⟩
    · have e1 : s = nl := by rw [HS1.out, List.take_of_length_le (by rw [HM.out]; omega)]; exact HNL.out
      have e2 : q = nh := by rw [HS2.out, List.take_of_length_le (by rw [HM.out]; omega)]; exact HHI.out
      have hsa := Lib.hid (sane4_any wr (d5.below hB))
      subst e1 e2
      clear HS1 HS2 HNL HHI
      have hBw := hB5.trans (hB.mono hB5.size)
      go_wp2_with fail
      refine (hsa.out).mono ?_
      rintro e w9 ⟨rfl, hb9⟩
      go_wp2_with fail
      go_ret
      exact ⟨rfl, hBw.trans (hb9.mono hBw.size)⟩
end Go.Proofs.YtiafimbehcemcaaDoor
