/-
  The walk of WordGroups: from whatever numbers and nodes it answers true and only makes memory. Conditions: the first argument reads as a slice of ints, the second as a slice of nodes; 'letters' and the library's table of trailing zeros are as their initialisers lay them.
-/
import Derived.Test.YtiafimbehcemcaaDoorKeB
import Derived.Test.YtiafimbehcemcaaDoorKeC
import Derived.Test.YtiafimbehcemcaaDoorKdR
import Derived.Test.YtiafimbehcemcaaDoorKdI
namespace Go.Proofs.YtiafimbehcemcaaDoor
open Go.RowKit

set_option maxRecDepth 100000 in
set_option maxHeartbeats 6400000 in
theorem groups_walk (A A1 : Option Addr) (n0 cp c1 : Nat) (l1 : List Nd) (lv : Int) (v : Nat) (w : World) (hL : Lets w) (hT : Deb w) (hnc : n0 ≤ cp) (hc : cp ≤ maxLen) (hN : Nums w w.heap.size A n0) (hn1 : Nds w w.heap.size A1 l1) (hw1 : ∀ i (h : i < l1.length), l1[i].wide) (hv : v < 4294967296) :
    Calls Tryd.prog 5 #[.slice A n0 cp, .slice A1 l1.length c1, .int .i64 lv, .int .u32 (v : Int)] w (LawP w) := by
  have hww : ∀ x ∈ l1, x.word < 4294967296 := fun x hx => by
    obtain ⟨i, hi, rfl⟩ := List.getElem_of_mem hx
    exact (hw1 i hi).2
  clear hw1
  go_enter Tryd.func5, Tryd.ntmps5
  go_wp2_with fail
  refine (new_any A n0 cp _ hnc hc hN).mono ?_
  rintro e w1 ⟨g, hg1, rfl, hTp, hb1⟩
  have hne : 1 ≠ g := by have := hT.lt; omega
  have hne2 : 0 ≠ g := by have := hL.lt; omega
  have d1 := hT.below hb1
  have k1 := hL.below hb1
  clear hT hN hnc hc hL
  go_wp2_with fail
  go_loopw [10] (fun i wr => ∃ k : Nat, k ≤ 4 ∧ i = .int .i64 (k : Int) ∧ Below w.heap.size w wr ∧ Tape wr g ∧ Deb wr ∧ Lets wr) (fun i _ => 4 - (intOf i).toNat)
  case atStart => exact ⟨0, by omega, rfl, hb1, hTp, d1, k1⟩
  case round =>
    clear hb1 hTp d1 k1
    obtain ⟨k, hk, rfl, hB, hTp, dT, lT⟩ := hrel
    by_cases hlt : k < 4
    · have hgr := hTp.lt
      go_wp2_with fail
      refine (roster_any 8 g wr (by omega) (by omega) hTp lT hne2).mono ?_
      rintro e w2 ⟨A2, c2, l, rfl, ho, hl8, hwd, hchk, hst⟩
      clear hchk
      go_wp2_with fail
      refine (next_any g _ _ hst.1 (by omega)).mono ?_
      rintro e w3 ⟨r, r0, r1, rfl, hst3⟩
      have o3 := ho.step hgr hst3
      have s3 := hst.trans hst3
      clear ho hst hst3
      go_wp2_with fail
      refine (word_any g _ s3.1).mono ?_
      rintro e w4 ⟨z, hz, rfl, hst4⟩
      have o4 := o3.step hgr hst4
      have s4 := s3.trans hst4
      clear o3 s3 hst4
      have dT4 := dT.step hne s4
      have lT4 := lT.step hne2 s4
      have hB4 : Below w.heap.size w w4 := hB.grown s4.2 hB.size (fun j e => by have := Option.some.inj e; omega)
      have hTp4 := s4.1
      obtain ⟨_, _, er, hnd⟩ := o4.read
      injection er with e1 _ e2
      subst e1 e2
      have hwd2 : ∀ x ∈ l, x.word < 4294967296 := fun x hx => Nat.lt_trans (hwd x hx) (by decide)
      have hnd1 := (hn1.below hB4).more hB4.size
      clear o4 s4 hwd dT lT hTp hB r1
      by_cases h3 : k = 3
      · subst h3
        by_cases h100 : l1.length ≤ 100
        · have h100' : (l1.length : Int) ≤ 100 := by omega
          have G1 := Lib.hid (group_any A1 l1 c1 lv v w4 hnd1 (by omega) hww hv dT4)
          have G2 := Lib.hid (fun (W : World) (b : Below w4.heap.size w4 W) => rgroup_any A1 l1 c1 lv v W ((hnd1.below b).more b.size) (by omega) hww hv)
          have C1 := Lib.hid (fun (W : World) (b : Below w4.heap.size w4 W) => classes_any A1 l1 c1 lv W ((hnd1.below b).more b.size) (by omega) hww)
          have C2 := Lib.hid (fun (W : World) (b : Below w4.heap.size w4 W) => rclasses_any A1 l1 c1 lv W ((hnd1.below b).more b.size) (by omega) hww)
          have hgl : (grp l1 lv v).length ≤ 1000000 := by have := grp_len l1 lv v; omega
          have hcm : (∀ d ∈ clsV l1 lv, d.length ≤ 1000000) ∧ (clsV l1 lv).length ≤ 1000000 := by
            unfold clsV
            split
            · exact ⟨fun d hd => absurd hd (by simp), by simp⟩
            · exact ⟨fun d hd => Nat.le_trans (cls_row_len _ _ d hd) (by omega), Nat.le_trans (cls_len _ _) (by omega)⟩
          generalize grp l1 lv v = gl at *
          generalize clsV l1 lv = cs at *
          clear hnd hnd1 hwd2
          go_wp2_with fail
          refine (G1.out).mono ?_
          rintro e w6 ⟨A6, c6, rfl, ho6, hb6⟩
          go_wp2_with fail
          refine (G2.out w6 hb6).mono ?_
          rintro e w7 ⟨A7, c7, rfl, ho7, hb7⟩
          have B7 := hb6.trans (hb7.mono hb6.size)
          obtain ⟨_, _, er6, hr6⟩ := ho6.read
          injection er6 with e1 _ e2
          subst e1 e2
          obtain ⟨_, _, er7, hr7⟩ := ho7.read
          injection er7 with e1 _ e2
          subst e1 e2
          have S1 := Lib.hid (same_nodes A6 A7 gl gl c6 c7 w7 ((hr6.below hb7).more hb7.size) hr7 hgl)
          clear ho6 ho7 hr6 hr7 G1 G2 hb6 hb7 hgl
          go_wp2_with fail
          refine (S1.out).mono ?_
          rintro e w8 ⟨he, hb8⟩
          rw [sameN_self] at he
          subst he
          have B8 := B7.trans (hb8.mono B7.size)
          clear S1 hb8 B7
          go_wp2_with fail
          refine (C1.out w8 B8).mono ?_
          rintro e w9 ⟨A9, c9, rfl, hr9, hb9⟩
          have B9 := B8.trans (hb9.mono B8.size)
          go_wp2_with fail
          refine (C2.out w9 B9).mono ?_
          rintro e w10 ⟨A10, c10, rfl, hr10, hb10⟩
          have B10 := B9.trans (hb10.mono B9.size)
          have L1 := Lib.hid (lists_any A9 A10 cs c9 c10 w10 ((hr9.below hb10).more hb10.size) hr10 hcm.1 hcm.2)
          clear C1 C2 hr9 hr10 hb9 hb10 B9 B8
          go_wp2_with fail
          refine (L1.out).mono ?_
          rintro e w11 ⟨rfl, hb11⟩
          have B11 := B10.trans (hb11.mono B10.size)
          go_wp2_with fail
          exact ⟨⟨3 + 1, by omega, by go_num, hB4.trans (B11.mono hB4.size), hTp4.below B11, dT4.below B11, lT4.below B11⟩, by simp [intOf]⟩
        · have h100' : ¬ (l1.length : Int) ≤ 100 := by omega
          have G1 := Lib.hid (group_any A2 l c2 (r - 1) z w4 hnd (by omega) hwd2 (by omega) dT4)
          have G2 := Lib.hid (fun (W : World) (b : Below w4.heap.size w4 W) => rgroup_any A2 l c2 (r - 1) z W ((hnd.below b).more b.size) (by omega) hwd2 (by omega))
          have C1 := Lib.hid (fun (W : World) (b : Below w4.heap.size w4 W) => classes_any A2 l c2 (r - 1) W ((hnd.below b).more b.size) (by omega) hwd2)
          have C2 := Lib.hid (fun (W : World) (b : Below w4.heap.size w4 W) => rclasses_any A2 l c2 (r - 1) W ((hnd.below b).more b.size) (by omega) hwd2)
          have hgl : (grp l (r - 1) z).length ≤ 1000000 := by have := grp_len l (r - 1) z; omega
          have hcm : (∀ d ∈ clsV l (r - 1), d.length ≤ 1000000) ∧ (clsV l (r - 1)).length ≤ 1000000 := by
            unfold clsV
            split
            · exact ⟨fun d hd => absurd hd (by simp), by simp⟩
            · exact ⟨fun d hd => Nat.le_trans (cls_row_len _ _ d hd) (by omega), Nat.le_trans (cls_len _ _) (by omega)⟩
          generalize grp l (r - 1) z = gl at *
          generalize clsV l (r - 1) = cs at *
          clear hnd hnd1 hwd2
          go_wp2_with fail
          refine (G1.out).mono ?_
          rintro e w6 ⟨A6, c6, rfl, ho6, hb6⟩
          go_wp2_with fail
          refine (G2.out w6 hb6).mono ?_
          rintro e w7 ⟨A7, c7, rfl, ho7, hb7⟩
          have B7 := hb6.trans (hb7.mono hb6.size)
          obtain ⟨_, _, er6, hr6⟩ := ho6.read
          injection er6 with e1 _ e2
          subst e1 e2
          obtain ⟨_, _, er7, hr7⟩ := ho7.read
          injection er7 with e1 _ e2
          subst e1 e2
          have S1 := Lib.hid (same_nodes A6 A7 gl gl c6 c7 w7 ((hr6.below hb7).more hb7.size) hr7 hgl)
          clear ho6 ho7 hr6 hr7 G1 G2 hb6 hb7 hgl
          go_wp2_with fail
          refine (S1.out).mono ?_
          rintro e w8 ⟨he, hb8⟩
          rw [sameN_self] at he
          subst he
          have B8 := B7.trans (hb8.mono B7.size)
          clear S1 hb8 B7
          go_wp2_with fail
          refine (C1.out w8 B8).mono ?_
          rintro e w9 ⟨A9, c9, rfl, hr9, hb9⟩
          have B9 := B8.trans (hb9.mono B8.size)
          go_wp2_with fail
          refine (C2.out w9 B9).mono ?_
          rintro e w10 ⟨A10, c10, rfl, hr10, hb10⟩
          have B10 := B9.trans (hb10.mono B9.size)
          have L1 := Lib.hid (lists_any A9 A10 cs c9 c10 w10 ((hr9.below hb10).more hb10.size) hr10 hcm.1 hcm.2)
          clear C1 C2 hr9 hr10 hb9 hb10 B9 B8
          go_wp2_with fail
          refine (L1.out).mono ?_
          rintro e w11 ⟨rfl, hb11⟩
          have B11 := B10.trans (hb11.mono B10.size)
          go_wp2_with fail
          exact ⟨⟨3 + 1, by omega, by go_num, hB4.trans (B11.mono hB4.size), hTp4.below B11, dT4.below B11, lT4.below B11⟩, by simp [intOf]⟩
      · have h3' : ((k : Int) == 3) = false := by simp; omega
        have G1 := Lib.hid (group_any A2 l c2 (r - 1) z w4 hnd (by omega) hwd2 (by omega) dT4)
        have G2 := Lib.hid (fun (W : World) (b : Below w4.heap.size w4 W) => rgroup_any A2 l c2 (r - 1) z W ((hnd.below b).more b.size) (by omega) hwd2 (by omega))
        have C1 := Lib.hid (fun (W : World) (b : Below w4.heap.size w4 W) => classes_any A2 l c2 (r - 1) W ((hnd.below b).more b.size) (by omega) hwd2)
        have C2 := Lib.hid (fun (W : World) (b : Below w4.heap.size w4 W) => rclasses_any A2 l c2 (r - 1) W ((hnd.below b).more b.size) (by omega) hwd2)
        have hgl : (grp l (r - 1) z).length ≤ 1000000 := by have := grp_len l (r - 1) z; omega
        have hcm : (∀ d ∈ clsV l (r - 1), d.length ≤ 1000000) ∧ (clsV l (r - 1)).length ≤ 1000000 := by
          unfold clsV
          split
          · exact ⟨fun d hd => absurd hd (by simp), by simp⟩
          · exact ⟨fun d hd => Nat.le_trans (cls_row_len _ _ d hd) (by omega), Nat.le_trans (cls_len _ _) (by omega)⟩
        generalize grp l (r - 1) z = gl at *
        generalize clsV l (r - 1) = cs at *
        clear hnd hnd1 hwd2
        go_wp2_with fail
        refine (G1.out).mono ?_
        rintro e w6 ⟨A6, c6, rfl, ho6, hb6⟩
        go_wp2_with fail
        refine (G2.out w6 hb6).mono ?_
        rintro e w7 ⟨A7, c7, rfl, ho7, hb7⟩
        have B7 := hb6.trans (hb7.mono hb6.size)
        obtain ⟨_, _, er6, hr6⟩ := ho6.read
        injection er6 with e1 _ e2
        subst e1 e2
        obtain ⟨_, _, er7, hr7⟩ := ho7.read
        injection er7 with e1 _ e2
        subst e1 e2
        have S1 := Lib.hid (same_nodes A6 A7 gl gl c6 c7 w7 ((hr6.below hb7).more hb7.size) hr7 hgl)
        clear ho6 ho7 hr6 hr7 G1 G2 hb6 hb7 hgl
        go_wp2_with fail
        refine (S1.out).mono ?_
        rintro e w8 ⟨he, hb8⟩
        rw [sameN_self] at he
        subst he
        have B8 := B7.trans (hb8.mono B7.size)
        clear S1 hb8 B7
        go_wp2_with fail
        refine (C1.out w8 B8).mono ?_
        rintro e w9 ⟨A9, c9, rfl, hr9, hb9⟩
        have B9 := B8.trans (hb9.mono B8.size)
        go_wp2_with fail
        refine (C2.out w9 B9).mono ?_
        rintro e w10 ⟨A10, c10, rfl, hr10, hb10⟩
        have B10 := B9.trans (hb10.mono B9.size)
        have L1 := Lib.hid (lists_any A9 A10 cs c9 c10 w10 ((hr9.below hb10).more hb10.size) hr10 hcm.1 hcm.2)
        clear C1 C2 hr9 hr10 hb9 hb10 B9 B8
        go_wp2_with fail
        refine (L1.out).mono ?_
        rintro e w11 ⟨rfl, hb11⟩
        have B11 := B10.trans (hb11.mono B10.size)
        go_wp2_with fail
        exact ⟨⟨k + 1, by omega, by go_num, hB4.trans (B11.mono hB4.size), hTp4.below B11, dT4.below B11, lT4.below B11⟩, by simp [intOf]; omega⟩
    · have hsa := Lib.hid (sane4_any wr dT)
      go_wp2_with fail
      refine (hsa.out).mono ?_
      rintro e w9 ⟨rfl, hb9⟩
      go_wp2_with fail
      go_ret
      exact ⟨rfl, hB.trans (hb9.mono hB.size)⟩
end Go.Proofs.YtiafimbehcemcaaDoor
