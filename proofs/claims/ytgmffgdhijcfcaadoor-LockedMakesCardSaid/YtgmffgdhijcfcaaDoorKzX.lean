/-
  New of package locked. Conditions: keys and truths can be read.
-/
import Derived.Test.YtgmffgdhijcfcaaDoorKzV
import Derived.Test.YtgmffgdhijcfcaaDoorKzX1
namespace Go.Proofs.YtgmffgdhijcfcaaDoor
open Go.RowKit Go.Maps
namespace Lk
set_option maxRecDepth 100000 in
set_option maxHeartbeats 6400000 in
theorem new_any (A1 A2 : Option Addr) (ks : List ByteArray) (is : List Bool) (kn bn c1 c2 : Nat) (m : Int) (w : World) (hk : ks.length = kn) (hi : is.length = bn) (h1 : RdR trow 1 w 0 A1 ks) (h2 : RdR brow 1 w 0 A2 is) (hk2 : kn ≤ 9223372036854775807) (hb2 : bn ≤ 9223372036854775807) :
    Calls Tryd.prog 14 #[.slice A1 kn c1, .slice A2 bn c2, .int .i64 m] w (NewP ks is m kn w) := by
  have hb := (Below.refl w.heap.size w).alloc (Nat.le_refl _) (.cells #[.slice none 0 0, .slice none 0 0] 35)
  have hy := Has.new w 35 #[.slice none 0 0, .slice none 0 0]
  have HB := Lib.hid hb
  have HY := Lib.hid hy
  have HK := Lib.hid hk
  have HI := Lib.hid hi
  have HR1 := Lib.hid (RdR.below h1 hb)
  have HR2 := Lib.hid (RdR.below h2 hb)
  have hsz : (w.alloc (.cells #[.slice none 0 0, .slice none 0 0] 35)).heap.size = w.heap.size + 1 := World.size_alloc _ _
  clear hb hy hk hi h1 h2
  go_enter Tryd.func14, Tryd.ntmps14
  go_upto_region 1 with fail
  generalize w.alloc (.cells #[.slice none 0 0, .slice none 0 0] 35) = W at *
  obtain ⟨B, hB⟩ : ∃ B, B = w.heap.size := ⟨_, rfl⟩
  have HBB := Lib.hid hB
  rw [← hB] at HB HY hsz ⊢
  clear hB
  have y0 := HY.out.cell 0
  have y1 := HY.out.cell 1
  have z0 := HY.out.frozen 0
  have z1 := HY.out.frozen 1
  by_cases q1 : kn > 64
  · have q1i : ((kn : Int) > 64) := by omega
    have HEQ : Hid (newE ks is m = 3) := Lib.hid (by unfold newE; rw [if_pos (by rw [HK.out]; exact q1)])
    have HNE : Hid (newE ks is m ≠ 0) := Lib.hid (by rw [HEQ.out]; decide)
    go_wp2_with fail
    (try simp only [Exit.inBlock, Exit.then])
    have h2 := twice0 W B (.slice none 0 0) (.slice none 0 0) _ _ y0 y1
    refine bodyPost_ret (results_list1 rfl _ _ B rfl h2.1 h2.2) rfl (.inl ⟨HNE.out, ?_, ?_⟩)
    · rw [HEQ.out]; rfl
    · rw [← HBB.out]
      exact (HB.out.setCell (p := ⟨B, 0, none⟩) (by simp only; omega) _).setCell (p := ⟨B, 1, none⟩) (by simp only; omega) _
  · have q1i : ¬ ((kn : Int) > 64) := by omega
    have q1n : Hid (¬ ks.length > 64) := Lib.hid (by rw [HK.out]; exact q1)
    by_cases q2 : 1 ≤ m ∧ m ≤ 8
    · have HP := Lib.hid ((isProcCount_any m W).mono fun e w' h => h.yes q2)
      by_cases q3 : kn = bn
      · subst q3
        have HLE : Hid (ks.length = is.length) := Lib.hid (by rw [HK.out, HI.out])
        by_cases q4 : ∀ k ∈ ks, vk k = true
        · have HV := Lib.hid ((validKeys_any A1 ks kn c1 0 W HK.out HR1.out (by unfold maxLen; omega)).mono fun e w' h => h.yes q4)
          have HDF := Lib.hid (different_any A1 ks kn c1 W HK.out (HR1.out) (by omega) q4)
          by_cases q5 : ks.Nodup
          · have HD := Lib.hid (HDF.out.mono fun e w' h => h.yes q5)
            obtain ⟨mm, rfl, hmm⟩ : ∃ mm : Nat, m = (mm : Int) ∧ mm ≤ 8 := ⟨m.toNat, by omega, by omega⟩
            have hm1 : 1 ≤ mm := by omega
            have HEQ0 : Hid (newE ks is (mm : Int) = 0) := Lib.hid (by unfold newE; rw [if_neg q1n.out, if_neg (fun q => q q2), if_neg (fun q => q.elim (fun q => q HLE.out) (fun q => q q4)), if_neg (fun q => q q5)])
            have HOK : Hid (NwOk ks mm) := Lib.hid ⟨by have := HK.out; omega, hm1, hmm, q4, q5⟩
            clear q2 q4 q5 HDF
            go_wp2_with (first | (go_at_call 32; with_reducible refine (HP.out).mono ?_; rintro e w' ⟨rfl, rfl⟩) | (go_at_call 33; with_reducible refine (HV.out).mono ?_; rintro e w' ⟨rfl, rfl⟩) | (go_at_call 34; with_reducible refine (HD.out).mono ?_; rintro e w2 ⟨rfl, hb2⟩))
            have m0 : (0 : Int) ≤ (mm : Int) := by omega
            have m9 : (mm : Int) ≤ 8 := by omega
            have HB2 := Lib.hid (HB.out.trans (hb2.mono (by omega)))
            have HY2 := Lib.hid (HY.out.below hb2)
            have HR12 := Lib.hid (RdR.below HR1.out hb2)
            have HR22 := Lib.hid (RdR.below HR2.out hb2)
            have hs2 : B + 1 ≤ w2.heap.size := by have := hb2.size; omega
            clear hb2 y0 y1 z0 z1 HB HY HR1 HR2 HV HD HP
            have hmc := make_cells
            have hmp := fun W => make_procs W mm hmm
            go_cut [8] (fun s wx => ∃ X G1 G2 : Nat, s = .pointer (some ⟨X, 0, none⟩) ∧ NewS w2.heap.size wx X G2 mm (.slice (some ⟨G1, 0, none⟩) 2 2) [Ce.zero, Ce.zero] ∧ Below w2.heap.size w2 wx)
            case first =>
              go_region
              all_goals (go_wp2_with fail; go_meet)
              all_goals first | exact ⟨_, _, _, rfl, NewS.of hmm (three _ _ _ _ _ _ _).1 (three _ _ _ _ _ _ _).2.1 (three _ _ _ _ _ _ _).2.2.1 (by omega) (by omega) (by omega) (by omega) (by omega) (by omega), (three _ _ _ _ _ _ _).2.2.2⟩ | exact ⟨_, _, _, rfl, NewS.of hmm (three _ _ _ _ _ _ _).1 (three _ _ _ _ _ _ _).2.2.1 (three _ _ _ _ _ _ _).2.1 (by omega) (by omega) (by omega) (by omega) (by omega) (by omega), (three _ _ _ _ _ _ _).2.2.2⟩ | exact ⟨_, _, _, rfl, NewS.of hmm (three _ _ _ _ _ _ _).2.1 (three _ _ _ _ _ _ _).1 (three _ _ _ _ _ _ _).2.2.1 (by omega) (by omega) (by omega) (by omega) (by omega) (by omega), (three _ _ _ _ _ _ _).2.2.2⟩ | exact ⟨_, _, _, rfl, NewS.of hmm (three _ _ _ _ _ _ _).2.1 (three _ _ _ _ _ _ _).2.2.1 (three _ _ _ _ _ _ _).1 (by omega) (by omega) (by omega) (by omega) (by omega) (by omega), (three _ _ _ _ _ _ _).2.2.2⟩ | exact ⟨_, _, _, rfl, NewS.of hmm (three _ _ _ _ _ _ _).2.2.1 (three _ _ _ _ _ _ _).1 (three _ _ _ _ _ _ _).2.1 (by omega) (by omega) (by omega) (by omega) (by omega) (by omega), (three _ _ _ _ _ _ _).2.2.2⟩ | exact ⟨_, _, _, rfl, NewS.of hmm (three _ _ _ _ _ _ _).2.2.1 (three _ _ _ _ _ _ _).2.1 (three _ _ _ _ _ _ _).1 (by omega) (by omega) (by omega) (by omega) (by omega) (by omega), (three _ _ _ _ _ _ _).2.2.2⟩
            case rest =>
            obtain ⟨X, G1, G2, rfl, hN, hbc⟩ := hcut
            clear hmc hmp
            go_wp2_with fail
            go_loopw [47] (fun vi wr => ∃ (i : Nat) (v1 : Value), vi = .int .i64 (i : Int) ∧ i ≤ kn ∧ NewS w2.heap.size wr X G2 mm v1 (nwC ks is i) ∧ Below w2.heap.size w2 wr) (fun vi _ => kn - (intOf vi).toNat)
            case atStart => exact ⟨0, _, rfl, Nat.zero_le _, hN, hbc⟩
            case round =>
              obtain ⟨i, v1, rfl, hi, hN1, hB1⟩ := hrel
              clear hN hbc
              have hsz1 := hB1.size
              obtain ⟨A3, q3, hv3⟩ := hN1.own.shape
              have hln := nwC_len ks is i
              rw [hln] at hv3
              subst hv3
              have x0 := hN1.x0
              have x1 := hN1.x1
              have f0 := hN1.fz
              have HN1 := Lib.hid hN1
              have HB1 := Lib.hid hB1
              by_cases hlt : i < kn
              · obtain ⟨b1, o1, e1, -, hb1, t1⟩ := text_at (RdR.below HR12.out hB1) (i := i) (by rw [HK.out]; exact hlt)
                obtain ⟨b2, o2, e2, -, hb2, t2⟩ := bool_at (RdR.below HR22.out hB1) (i := i) (by rw [← HLE.out, HK.out]; exact hlt)
                obtain ⟨xk, hxk⟩ : ∃ xk, ks[i]'(by rw [HK.out]; exact hlt) = xk := ⟨_, rfl⟩
                obtain ⟨xb, hxb⟩ : ∃ xb, is[i]'(by rw [← HLE.out, HK.out]; exact hlt) = xb := ⟨_, rfl⟩
                have HNX : Hid (nwC ks is (i + 1) = nwC ks is i ++ [⟨xk, 0, 0, 0, !xb⟩]) := Lib.hid (by
                  rw [nwC_next, ← hxk, ← hxb, List.getD_eq_getElem?_getD, List.getElem?_eq_getElem (by rw [HK.out]; exact hlt), List.getD_eq_getElem?_getD, List.getElem?_eq_getElem (by rw [← HLE.out, HK.out]; exact hlt)]
                  rfl)
                rw [hxk] at t1
                rw [hxb] at t2
                subst e1 e2
                have i0 : (0 : Int) ≤ (i : Int) := by omega
                have i1 : (i : Int) < (kn : Int) := by omega
                have HLN := Lib.hid hln
                clear hxk hxb hN1 hB1 hln
                have hbn := (Below.refl wr.heap.size wr).alloc (Nat.le_refl _) (.cells #[.string xk, .int .i64 0, .int .i64 0, .int .i64 0, .bool (!xb)] 58)
                have HND := Lib.hid (HN1.out.below hbn.drew)
                have y0 := (hbn.cell (p := ⟨X, 0, none⟩) (World.block_lt_of_cell? wr _ x0)).trans x0
                have u1 := (hbn.cell (p := ⟨b1, o1 + i, none⟩) hb1).trans t1
                have u2 := (hbn.cell (p := ⟨b2, o2 + i, none⟩) hb2).trans t2
                have HNW := Lib.hid (RdR.keep (w' := (wr.alloc (.cells #[.string xk, .int .i64 0, .int .i64 0, .int .i64 0, .bool (!xb)] 58)).drew) (RdR.new (enc := Ce.row) (e := 58) Ce.row_len wr ⟨xk, 0, 0, 0, !xb⟩ _ rfl) (Nat.le_refl _) (fun _ _ _ => rfl))
                have hszd : (wr.alloc (.cells #[.string xk, .int .i64 0, .int .i64 0, .int .i64 0, .bool (!xb)] 58)).drew.heap.size = wr.heap.size + 1 := World.size_alloc _ _
                have HB2 := Lib.hid (HB1.out.trans (hbn.drew.mono hsz1))
                clear hbn
                go_upto_region 13 with fail
                go_region_law (refine step_pushR RowT.ce (o := ⟨some 62, _, _, _, _, _⟩) rfl (.tmp 53) (.tmp 61) rfl w2.heap.size (.slice A3 (i + 2) q3) (nwC ks is i) (wr.alloc (.cells #[.string xk, .int .i64 0, .int .i64 0, .int .i64 0, .bool (!xb)] 58)).drew _ 1 _ ⟨xk, 0, 0, 0, !xb⟩ (by simp [Act.eval]) HND.out.own (by simp [Act.eval]) HNW.out (by have := HLN.out; omega) (by omega) ?_; intro v5 w5 ho5 hg5 hat5; obtain ⟨A5, n5, q5, hv5⟩ := own_sh ho5; subst hv5; have HP5 := Lib.hid (HND.out.put ho5 hg5 (hat5.imp id fun q => ⟨_, Nat.le_refl _, q⟩)); have HG5 := Lib.hid (HB2.out.trans (grown_below hg5 (by omega) (fun j e => (HND.out.own.lt j e).1))); have z5 := (World.cell?_of_block (hg5.block X (World.block_lt_of_cell? _ _ HND.out.x0) (fun e => HND.out.ne1 e.symm))).trans y0; have f5 := (World.frozen?_of_block (a := ⟨X, 0, none⟩) (hg5.block X (World.block_lt_of_cell? _ _ HND.out.x0) (fun e => HND.out.ne1 e.symm))).trans (HND.out.fz 0); clear ho5 hg5 hat5)
                all_goals go_wp2_with fail
                all_goals refine ⟨⟨i + 1, _, by go_num, hlt, by rw [HNX.out]; exact HP5.out, HG5.out.setCell (p := ⟨X, 0, none⟩) HN1.out.bX _⟩, by simp [intOf]; omega⟩
              · obtain rfl : i = kn := by omega
                clear hlt
                have HCE : Hid (nwC ks is i = (nw0 ks is mm).cs) := Lib.hid (by rw [← HK.out]; rfl)
                obtain ⟨G3, q4, hv4, hbG, hmu⟩ := HN1.out.own.mut Ce.row_len (by unfold nwC; exact List.cons_ne_nil _ _)
                rw [hln] at hv4
                injection hv4 with hv4 hv5 hv6
                subst hv4 hv6
                rw [HCE.out] at hmu
                have HXG : Hid (X ≠ G3) := Lib.hid (fun e => HN1.out.ne1 (by rw [← e]; rfl))
                have HX1 := Lib.hid HN1.out.ne3
                have HXB := Lib.hid HN1.out.bX
                have HX7 := Lib.hid (World.block_lt_of_cell? wr _ x0)
                have HM0 := Lib.hid (MemL.mk (l := nw0 ks is mm) hmu HN1.out.ps (fun e => HN1.out.ne2 (by rw [← e]; rfl)) hbG HN1.out.bG)
                have HMB := Lib.hid (members_any (some ⟨G3, 0, none⟩) (some ⟨G2, 0, none⟩) (nw0 ks is mm) (i + 2) mm q3 mm wr (by rw [nw0_len, HK.out]) (by simp [nw0]) (HM0.out.rd.low (Nat.zero_le _)) (nw0_vld HOK.out))
                have HML : Hid ((memV (nw0 ks is mm)).length ≤ 100) := Lib.hid (by have h1 := (nw0_vld (is := is) HOK.out).n66; unfold memV memI; rw [List.length_mergeSort]; refine Nat.le_trans (List.length_filter_le _ _) ?_; rw [List.length_range]; omega)
                clear hmu hbG hN1 hln HN1
                go_wp2_with (first | (go_at_call 35; (with_reducible refine (HMB.out).mono ?_); rintro e w5 ⟨A6, k6, c6, rfl, hk6, hkc6, ho6, hr6, hb6⟩; have HO6 := Lib.hid ho6; have HB6 := Lib.hid hb6; have HK6 := Lib.hid hk6; have hs6 := hb6.size; clear ho6 hr6 hb6 hk6) | (at_builtin; refine wpList_pushR RowT.nu rfl (.tmp 66) (.tmp 67) rfl wr.heap.size (.slice A6 k6 c6) (nat2 (memV (nw0 ks is mm))) w5 (1 : Int) _ rfl (by simp [Act.eval]) HO6.out (by simp [Act.eval]) (by have := HML.out; rw [nat2_len]; omega) hs6 ?_; intro v7 w7 ho7 hg7 hat7; obtain ⟨A7, q7, hv7, _, _, hr7⟩ := ho7.read (fun _ => rfl); have hl7 : (nat2 (memV (nw0 ks is mm)) ++ [(1 : Int)]).length = (memV (nw0 ks is mm)).length + 1 := (by rw [List.length_append, nat2_len]; rfl); rw [hl7] at hv7; obtain ⟨q8, hq8⟩ : ∃ q8, q8 = (memV (nw0 ks is mm)).length + 1 := ⟨_, rfl⟩; rw [← hq8] at hv7; have HQ8 := Lib.hid hq8; clear hq8; subst hv7; have HO7 := Lib.hid hr7; have HB7 := Lib.hid (HB6.out.trans (grown_below hg7 hs6 (fun j e => (HO6.out.lt j e).1))); clear ho7 hg7 hat7 hl7 hr7))
                obtain ⟨L, hL⟩ : ∃ L, L = memV (nw0 ks is mm) ++ [1] := ⟨_, rfl⟩
                have HLD : Hid (0 :: L = ordV ks mm (selV is)) := Lib.hid (by rw [hL, nw0_mem]; rfl)
                have HLL : Hid (L.length = q8) := Lib.hid (by rw [hL, HQ8.out, List.length_append]; rfl)
                have hq9 : q8 ≤ 101 := by have h1 := HQ8.out; have h2 := HML.out; omega
                have HL7 : Hid (RdR nrow 1 w7 wr.heap.size A7 (nat2 L)) := Lib.hid (by rw [hL, show nat2 (memV (nw0 ks is mm) ++ [1]) = nat2 (memV (nw0 ks is mm)) ++ [(1 : Int)] by simp [nat2]]; exact HO7.out)
                have HND : Hid ((0 :: L).Nodup) := Lib.hid (by rw [HLD.out]; exact (ord_asc HOK.out (selV is)).imp (fun h e => by rw [e] at h; exact Nat.lt_irrefl _ h))
                have HLT : Hid (∀ j ∈ (0 :: L), j < i + 2) := Lib.hid (fun j hj => by rw [HLD.out, mem_ord] at hj; have := HK.out; omega)
                have HM7 := Lib.hid (HM0.out.below HB7.out)
                have HC7 := Lib.hid (HB1.out.trans (HB7.out.mono hsz1))
                have HXS := Lib.hid (Nat.lt_of_lt_of_le HX7.out HB7.out.size)
                have hX0 := (HB7.out.cell (p := ⟨X, 0, none⟩) HX7.out).trans x0
                have hX1 := (HB7.out.cell (p := ⟨X, 1, none⟩) HX7.out).trans x1
                have HGL := Lib.hid (HM0.out.cs.lt)
                have HX0 := Lib.hid hX0
                have HX1 := Lib.hid hX1
                clear hL x0 x1 f0 hs6 HO7 HO6 HB6 HMB HK6 hX0 hX1
                go_loopw [11, 70] (fun vb vi wq => ∃ k b : Nat, vb = .int .i64 (b : Int) ∧ vi = .int .i64 (k : Int) ∧ k ≤ q8 ∧ Hid (∃ P, 0 :: L.take k = P ++ [b]) ∧ MemL wq w2.heap.size G3 G2 q3 mm (lkV (nw0 ks is mm) (0 :: L.take k)) ∧ Hid (∀ j, j ≠ G3 → wq.heap[j]? = w7.heap[j]?) ∧ w7.heap.size ≤ wq.heap.size ∧ Below w2.heap.size w2 wq) (fun _ vi _ => q8 - (intOf vi).toNat)
                case atStart => exact ⟨0, 0, rfl, rfl, Nat.zero_le _, Lib.hid ⟨[], rfl⟩, by show MemL _ _ _ _ _ _ (lkV _ [0]); rw [lkV_zero]; exact HM7.out, Lib.hid (fun _ _ => rfl), Nat.le_refl _, HC7.out⟩
                case round =>
                  obtain ⟨k, b, rfl, rfl, hk, HP, hm, HU, hsq, hbq⟩ := hrel
                  have x0 := (World.cell?_of_block (a := ⟨X, 0, none⟩) (HU.out X HXG.out)).trans HX0.out
                  have x1 := (World.cell?_of_block (a := ⟨X, 1, none⟩) (HU.out X HXG.out)).trans HX1.out
                  have hf := hm.fz.1
                  have HM := Lib.hid hm
                  have HBQ := Lib.hid hbq
                  by_cases hlt : k < q8
                  · have hkL : k < L.length := by rw [HLL.out]; exact hlt
                    obtain ⟨x, hx⟩ : ∃ x, L[k]'hkL = x := ⟨_, rfl⟩
                    obtain ⟨b7, o7, e7, hb7, hb8, t7⟩ := num_at HL7.out (i := k) (by rw [nat2_len]; exact hkL)
                    subst e7
                    have hnx : (nat2 L)[k]'(by rw [nat2_len]; exact hkL) = (x : Int) := by rw [← hx]; simp [nat2]
                    rw [hnx] at t7
                    have u7 := (World.cell?_of_block (a := ⟨b7, o7 + k, none⟩) (HU.out b7 (by have := HGL.out; omega))).trans t7
                    have hxm : x ∈ 0 :: L := by rw [← hx]; exact List.mem_cons_of_mem _ (List.getElem_mem _)
                    have hx2 : x < i + 2 := HLT.out x hxm
                    have HTK : Hid (0 :: L.take (k + 1) = (0 :: L.take k) ++ [x]) := Lib.hid (by rw [← hx, List.take_succ_eq_append_getElem hkL]; rfl)
                    have hb2 : b < i + 2 := by
                      obtain ⟨P, hP⟩ := HP.out
                      refine HLT.out b ?_
                      have : b ∈ 0 :: L.take k := by rw [hP]; simp
                      rcases List.mem_cons.1 this with q | q
                      · rw [q]; exact List.mem_cons_self
                      · exact List.mem_cons_of_mem _ (List.mem_of_mem_take q)
                    have hbx : b ≠ x := by
                      obtain ⟨P, hP⟩ := HP.out
                      have h1 : (0 :: L.take (k + 1)).Nodup := by
                        have : (0 :: L.take (k + 1)) = (0 :: L).take (k + 1 + 1) := rfl
                        rw [this]
                        exact List.Nodup.sublist (List.take_sublist _ _) HND.out
                      rw [HTK.out, hP] at h1
                      exact fun e => (List.nodup_append.1 h1).2.2 b (by simp) x (by simp) e
                    have hlb : b < (lkV (nw0 ks is mm) (0 :: L.take k)).cs.length := by rw [lkV_len, nw0_len, HK.out]; exact hb2
                    have hlx : x < (lkV (nw0 ks is mm) (0 :: L.take k)).cs.length := by rw [lkV_len, nw0_len, HK.out]; exact hx2
                    obtain ⟨-, -, g2, -, -⟩ := hm.cell hlb
                    obtain ⟨-, g1, -, -, -⟩ := hm.cell hlx
                    have k0 : (0 : Int) ≤ (k : Int) := by omega
                    have k1 : (k : Int) < (q8 : Int) := by omega
                    have bb0 : (0 : Int) ≤ (b : Int) := by omega
                    have bb1 : (b : Int) < ((i + 2 : Nat) : Int) := by omega
                    have xx0 : (0 : Int) ≤ (x : Int) := by omega
                    have xx1 : (x : Int) < ((i + 2 : Nat) : Int) := by omega
                    have hne : ¬ (b * 5 + 2 = x * 5 + 1) := by omega
                    have hne2 : ¬ (x * 5 + 1 = b * 5 + 2) := by omega
                    have HMX := Lib.hid ((hm.setC hlb 2 (by decide) (.int .i64 (x : Int)) { (lkV (nw0 ks is mm) (0 :: L.take k)).at_ b with right := (x : Int) } (row_right _ _)))
                    have HLX := Lib.hid hlx
                    have HNM : Hid (lkV (nw0 ks is mm) (0 :: L.take (k + 1)) = ((lkV (nw0 ks is mm) (0 :: L.take k)).setC b { (lkV (nw0 ks is mm) (0 :: L.take k)).at_ b with right := (x : Int) }).setC x { ((lkV (nw0 ks is mm) (0 :: L.take k)).setC b { (lkV (nw0 ks is mm) (0 :: L.take k)).at_ b with right := (x : Int) }).at_ x with left := (b : Int) }) := Lib.hid (by
                      obtain ⟨P, hP⟩ := HP.out
                      rw [HTK.out, hP]
                      refine lkV_next ?_ (by rw [nw0_len, HK.out]; exact hb2) (by rw [nw0_len, HK.out]; exact hx2)
                      have : (0 :: L.take (k + 1)) = (0 :: L).take (k + 1 + 1) := rfl
                      rw [← hP, ← HTK.out, this]
                      exact List.Nodup.sublist (List.take_sublist _ _) HND.out)
                    clear hm hbq hx hnx hxm t7 hbx hkL
                    go_upto_region 19 with fail
                    go_region
                    have HMZ := (HMX.out.setC (i := x) (by rw [Ls.len_setC]; exact HLX.out) 1 (by decide) (.int .i64 (b : Int)) { ((lkV (nw0 ks is mm) (0 :: L.take k)).setC b { (lkV (nw0 ks is mm) (0 :: L.take k)).at_ b with right := (x : Int) }).at_ x with left := (b : Int) } (row_left _ _)).drew
                    rw [← HNM.out] at HMZ
                    have HMZ := Lib.hid HMZ
                    have HBZ := Lib.hid (((HBQ.out.setCell (p := ⟨G3, b * 5 + 2, none⟩) HMX.out.b1 (.int .i64 (x : Int))).setCell (p := ⟨G3, x * 5 + 1, none⟩) HMX.out.b1 (.int .i64 (b : Int))).drew)
                    go_wp2_with fail
                    exact ⟨⟨k + 1, x, rfl, by go_num, hlt, Lib.hid ⟨_, HTK.out⟩, HMZ.out, Lib.hid (fun j hj => by
                      show (((wr.setCell ⟨G3, b * 5 + 2, none⟩ _).setCell ⟨G3, x * 5 + 1, none⟩ _)).heap[j]? = _
                      rw [Below.heap_setCell _ _ _ _ hj, Below.heap_setCell _ _ _ _ hj]
                      exact HU.out j hj), by simpa using hsq, HBZ.out⟩, by simp [intOf]; omega⟩
                  · obtain rfl : k = q8 := by omega
                    have hyq := HY2.out.below HBQ.out
                    have y0 := hyq.cell 0
                    have y1 := hyq.cell 1
                    have z0 := hyq.frozen 0
                    have z1 := hyq.frozen 1
                    have HFN : Hid (MemL wr w2.heap.size G3 G2 q3 mm (newV ks mm (selV is))) := Lib.hid (by
                      have := HM.out
                      rw [← HLL.out, List.take_length, HLD.out, lkV_new] at this
                      exact this)
                    clear hyq hm hbq
                    go_wp2_with fail
                    have h2 := twice0 wr B (.slice (some ⟨G3, 0, none⟩) (i + 2) q3) (.slice (some ⟨G2, 0, none⟩) mm mm) _ _ y0 y1
                    have hbw := ((HB2.out.trans (HBQ.out.mono (by omega))).setCell (p := ⟨B, 0, none⟩) (by simp only; omega) (.slice (some ⟨G3, 0, none⟩) (i + 2) q3)).setCell (p := ⟨B, 1, none⟩) (by simp only; omega) (.slice (some ⟨G2, 0, none⟩) mm mm)
                    refine bodyPost_ret (results_list1 rfl _ _ B rfl h2.1 h2.2) rfl (.inr ⟨HEQ0.out, G3, G2, _, _, rfl, ?_, ?_⟩)
                    · refine RdL.low (RdL.keep HFN.out.rd (by simp) (fun j h1 _ => ?_)) (by have := HBB.out; omega)
                      rw [Below.heap_setCell _ _ _ _ (by simp only; omega), Below.heap_setCell _ _ _ _ (by simp only; omega)]
                    · rw [← HBB.out]
                      exact hbw
          · have HD := Lib.hid (HDF.out.mono fun e w' h => h.no q5)
            have HBW := Lib.hid (fun V (q : Below W.heap.size W V) => HY.out.below q)
            have HEQ : Hid (newE ks is m = 5) := Lib.hid (by unfold newE; rw [if_neg q1n.out, if_neg (fun q => q q2), if_neg (fun q => q.elim (fun q => q HLE.out) (fun q => q q4)), if_pos q5])
            have HNE : Hid (newE ks is m ≠ 0) := Lib.hid (by rw [HEQ.out]; decide)
            go_wp2_with (first | (go_at_call 32; with_reducible refine (HP.out).mono ?_; rintro e w' ⟨rfl, rfl⟩) | (go_at_call 33; with_reducible refine (HV.out).mono ?_; rintro e w' ⟨rfl, rfl⟩) | (go_at_call 34; with_reducible refine (HD.out).mono ?_; rintro e w2 ⟨rfl, hb2⟩; have y0 := (HBW.out w2 hb2).cell 0; have y1 := (HBW.out w2 hb2).cell 1; have z0 := (HBW.out w2 hb2).frozen 0; have z1 := (HBW.out w2 hb2).frozen 1; have HB := Lib.hid (HB.out.trans (hb2.mono (by omega)))))
            (try simp only [Exit.inBlock, Exit.then])
            have h2 := twice0 w2 B (.slice none 0 0) (.slice none 0 0) _ _ y0 y1
            refine bodyPost_ret (results_list1 rfl _ _ B rfl h2.1 h2.2) rfl (.inl ⟨HNE.out, ?_, ?_⟩)
            · rw [HEQ.out]; rfl
            · rw [← HBB.out]
              exact (HB.out.setCell (p := ⟨B, 0, none⟩) (by simp only; omega) _).setCell (p := ⟨B, 1, none⟩) (by simp only; omega) _
        · have HV := Lib.hid ((validKeys_any A1 ks kn c1 0 W HK.out HR1.out (by unfold maxLen; omega)).mono fun e w' h => h.no q4)
          have HEQ : Hid (newE ks is m = 1) := Lib.hid (by unfold newE; rw [if_neg q1n.out, if_neg (fun q => q q2), if_pos (.inr q4)])
          have HNE : Hid (newE ks is m ≠ 0) := Lib.hid (by rw [HEQ.out]; decide)
          go_wp2_with (first | (go_at_call 32; with_reducible refine (HP.out).mono ?_; rintro e w' ⟨rfl, rfl⟩) | (go_at_call 33; with_reducible refine (HV.out).mono ?_; rintro e w' ⟨rfl, rfl⟩))
          (try simp only [Exit.inBlock, Exit.then])
          have h2 := twice0 W B (.slice none 0 0) (.slice none 0 0) _ _ y0 y1
          refine bodyPost_ret (results_list1 rfl _ _ B rfl h2.1 h2.2) rfl (.inl ⟨HNE.out, ?_, ?_⟩)
          · rw [HEQ.out]; rfl
          · rw [← HBB.out]
            exact (HB.out.setCell (p := ⟨B, 0, none⟩) (by simp only; omega) _).setCell (p := ⟨B, 1, none⟩) (by simp only; omega) _
      · have q3i : ((kn : Int) != (bn : Int)) = true := by simp; omega
        have q3j : ¬ ((kn : Int) = (bn : Int)) := by omega
        have HEQ : Hid (newE ks is m = 1) := Lib.hid (by unfold newE; rw [if_neg q1n.out, if_neg (fun q => q q2), if_pos (.inl (by rw [HK.out, HI.out]; exact q3))])
        have HNE : Hid (newE ks is m ≠ 0) := Lib.hid (by rw [HEQ.out]; decide)
        go_wp2_with (first | (go_at_call 32; with_reducible refine (HP.out).mono ?_; rintro e w' ⟨rfl, rfl⟩))
        (try simp only [Exit.inBlock, Exit.then])
        have h2 := twice0 W B (.slice none 0 0) (.slice none 0 0) _ _ y0 y1
        refine bodyPost_ret (results_list1 rfl _ _ B rfl h2.1 h2.2) rfl (.inl ⟨HNE.out, ?_, ?_⟩)
        · rw [HEQ.out]; rfl
        · rw [← HBB.out]
          exact (HB.out.setCell (p := ⟨B, 0, none⟩) (by simp only; omega) _).setCell (p := ⟨B, 1, none⟩) (by simp only; omega) _
    · have HP := Lib.hid ((isProcCount_any m W).mono fun e w' h => h.no q2)
      have HEQ : Hid (newE ks is m = 2) := Lib.hid (by unfold newE; rw [if_neg q1n.out, if_pos q2])
      have HNE : Hid (newE ks is m ≠ 0) := Lib.hid (by rw [HEQ.out]; decide)
      go_wp2_with (first | (go_at_call 32; with_reducible refine (HP.out).mono ?_; rintro e w' ⟨rfl, rfl⟩))
      (try simp only [Exit.inBlock, Exit.then])
      have h2 := twice0 W B (.slice none 0 0) (.slice none 0 0) _ _ y0 y1
      refine bodyPost_ret (results_list1 rfl _ _ B rfl h2.1 h2.2) rfl (.inl ⟨HNE.out, ?_, ?_⟩)
      · rw [HEQ.out]; rfl
      · rw [← HBB.out]
        exact (HB.out.setCell (p := ⟨B, 0, none⟩) (by simp only; omega) _).setCell (p := ⟨B, 1, none⟩) (by simp only; omega) _
end Lk
end Go.Proofs.YtgmffgdhijcfcaaDoor
