/-
  New of the reference of chapter 11. Condition: keys and truths can be read.
-/
import Derived.Test.YtgmffgdhijcfcaaDoorMaE
import Derived.Test.YtgmffgdhijcfcaaDoorMaC
namespace Go.Proofs.YtgmffgdhijcfcaaDoor
open Go.RowKit Go.Maps
namespace Lk
/-- The cells as New of the reference goes on. -/
def rnA (ks : List ByteArray) (m : Nat) (is : List Bool) (L : List Nat) (k : Nat) (i : Nat) : Ce := ⟨((nwB ks m).at_ i).key, 0, (nxtL L i : Nat), 0, decide (2 ≤ i) && decide (i < k + 2) && !selV is i⟩
def rnB (ks : List ByteArray) (m : Nat) (is : List Bool) (L P : List Nat) (i : Nat) : Ce := ⟨((nwB ks m).at_ i).key, (prvL P i : Nat), (nxtL L i : Nat), 0, decide (2 ≤ i) && !selV is i⟩
theorem rn_start (ks : List ByteArray) (m : Nat) (is : List Bool) (L : List Nat) (n : Nat) : chR ks m n L = (List.range n).map (rnA ks m is L 0) := map_range_congr fun i _ => by
  unfold rnA
  have : (decide (2 ≤ i) && decide (i < 0 + 2)) = false := by
    by_cases h : 2 ≤ i
    · have h2 : ¬ i < 2 := by omega
      simp [h2]
    · simp [h]
  rw [this]
  rfl
theorem rn_mid (ks : List ByteArray) (m : Nat) (is : List Bool) (L : List Nat) (k : Nat) : (List.range (k + 2)).map (rnA ks m is L k) = (List.range (k + 2)).map (rnB ks m is L [0]) := map_range_congr fun i hi => by
  unfold rnA rnB
  simp [hi, prvL]
theorem rn_end (ks : List ByteArray) (m : Nat) (is : List Bool) : (List.range (ks.length + 2)).map (rnB ks m is (ordV ks m (selV is)) (ordV ks m (selV is))) = (newV ks m (selV is)).cs := rfl
theorem row_gone (x : Ce) (v : Bool) : ({ x with gone := v } : Ce).row = x.row.set 4 (.bool v) := rfl
set_option maxRecDepth 100000 in
set_option maxHeartbeats 6400000 in
theorem rnew_any (A1 A2 : Option Addr) (ks : List ByteArray) (is : List Bool) (kn bn c1 c2 : Nat) (m : Int) (w : World) (hk : ks.length = kn) (hi : is.length = bn) (h1 : RdR trow 1 w 0 A1 ks) (h2 : RdR brow 1 w 0 A2 is) (hk2 : kn ≤ 9223372036854775807) (hb2 : bn ≤ 9223372036854775807) :
    Calls Tryd.prog 15 #[.slice A1 kn c1, .slice A2 bn c2, .int .i64 m] w (NewP ks is m kn w) := by
  have hb := (Below.refl w.heap.size w).alloc (Nat.le_refl _) (.cells #[.slice none 0 0, .slice none 0 0] 35)
  have HB := Lib.hid hb
  have HY := Lib.hid (Has.new w 35 #[.slice none 0 0, .slice none 0 0])
  have HR1 := Lib.hid (RdR.below h1 hb)
  have HR2 := Lib.hid (RdR.below h2 hb)
  have HNE := Lib.hid (rnewE_any A1 A2 ks is kn bn c1 c2 m _ hk hi HR1.out hk2 hb2)
  have HK := Lib.hid hk
  have HI := Lib.hid hi
  have hsz : (w.alloc (.cells #[.slice none 0 0, .slice none 0 0] 35)).heap.size = w.heap.size + 1 := World.size_alloc _ _
  clear hb h1 h2 hk hi
  by_cases h0 : newE ks is m = 0
  · have HE0 := Lib.hid h0
    have hz : ¬ ks.length > 64 ∧ (1 ≤ m ∧ m ≤ 8) ∧ (ks.length = is.length ∧ (∀ k ∈ ks, vk k = true)) ∧ ks.Nodup := by
      unfold newE at h0
      by_cases q1 : ks.length > 64
      · rw [if_pos q1] at h0; cases h0
      · rw [if_neg q1] at h0
        by_cases q2 : 1 ≤ m ∧ m ≤ 8
        · rw [if_neg (fun q => q q2)] at h0
          by_cases q3 : ks.length ≠ is.length ∨ ¬ (∀ k ∈ ks, vk k = true)
          · rw [if_pos q3] at h0; cases h0
          · rw [if_neg q3] at h0
            by_cases q4 : ks.Nodup
            · exact ⟨q1, q2, ⟨Classical.byContradiction fun q => q3 (.inl q), Classical.byContradiction fun q => q3 (.inr q)⟩, q4⟩
            · rw [if_pos q4] at h0; cases h0
        · rw [if_pos q2] at h0; cases h0
    obtain ⟨z1, z2, ⟨z3, z4⟩, z5⟩ := hz
    obtain ⟨mm, rfl, hmm⟩ : ∃ mm : Nat, m = (mm : Int) ∧ mm ≤ 8 := ⟨m.toNat, by omega, by omega⟩
    have HOK : Hid (NwOk ks mm) := Lib.hid ⟨by omega, by omega, hmm, z4, z5⟩
    obtain rfl : bn = kn := by rw [← HK.out, ← HI.out, z3]
    have k64 : bn ≤ 64 := by rw [← HK.out]; omega
    rw [h0] at HNE
    have hmp := fun W => make_procs W mm hmm
    have m0 : (0 : Int) ≤ (mm : Int) := by omega
    clear h0 z1 z2 z3 z4 z5
    go_enter Tryd.func15, Tryd.ntmps15
    go_upto_region 1 with fail
    generalize w.alloc (.cells #[.slice none 0 0, .slice none 0 0] 35) = W at *
    obtain ⟨B, hB⟩ : ∃ B, B = w.heap.size := ⟨_, rfl⟩
    have HBB := Lib.hid hB
    rw [← hB] at HB HY hsz ⊢
    clear hB
    go_wp2_with (first | (go_at_call 36; (refine (HNE.out).mono ?_); rintro e w1 ⟨rfl, hb1⟩; have HB1 := Lib.hid hb1; have hs1 := hb1.size; clear hb1) | (go_at_call 37; (refine (rchn_any A1 A2 ks is bn c1 c2 mm w1 HOK.out HK.out HI.out (RdR.below HR1.out HB1.out) (RdR.below HR2.out HB1.out) k64).mono ?_); rintro e w2 ⟨G, c, A, p, c3, rfl, hG, hm, hp, ho, hd, hb2⟩; have HM2 := Lib.hid hm; have HO2 := Lib.hid ho; have HP := Lib.hid hp; have HD := Lib.hid hd; have HB2 := Lib.hid (HB1.out.trans (hb2.mono HB1.out.size)); have hs2 := hb2.size; have HGB := Lib.hid hG; have hGB : W.heap.size ≤ G := (by omega); clear hm ho hp hd hb2 hG))
    obtain ⟨L, hL⟩ : ∃ L, L = ordV ks mm (selV is) := ⟨_, rfl⟩
    have HLE := Lib.hid hL
    rw [← hL] at HM2 HO2 HP
    have HRD : Hid (RdR nrow 1 w2 0 A (nat2 L)) := Lib.hid (by
      obtain ⟨A9, c9, e9, -, -, hr9⟩ := HO2.out.read (fun _ => rfl)
      injection e9 with e9 _ _
      rw [e9]
      exact RdR.low hr9 (Nat.zero_le _))
    have HST : Hid (chR ks mm (bn + 2) L = (List.range (bn + 2)).map (rnA ks mm is L 0)) := Lib.hid (rn_start ks mm is L (bn + 2))
    have HLD : Hid (L.Nodup) := Lib.hid (by rw [hL]; exact (ord_asc HOK.out (selV is)).imp (fun h e => by rw [e] at h; exact Nat.lt_irrefl _ h))
    have HLT : Hid (∀ j ∈ L, j < bn + 2) := Lib.hid (fun j hj => by rw [hL, mem_ord] at hj; have := HK.out; omega)
    have HL0 : Hid (L.take 1 = [0]) := Lib.hid (by rw [hL]; rfl)
    have hp2 : 1 ≤ p ∧ p ≤ 1000 := by
      have h1 : 1 ≤ L.length := by rw [hL]; unfold ordV; simp
      have h2 : L.length ≤ 70 := by
        rw [hL]
        unfold ordV memI
        rw [List.length_cons, List.length_append, List.length_mergeSort]
        refine Nat.le_trans (Nat.add_le_add_right (Nat.add_le_add_right (List.length_filter_le _ _) _) _) ?_
        rw [List.length_range, nwB_len, HK.out]
        simp only [List.length_singleton]
        omega
      have := HP.out
      omega
    clear hL
    go_loopw [11] (fun vi wr => ∃ i : Nat, vi = .int .i64 (i : Int) ∧ i ≤ bn ∧ MutR Ce.row 5 58 wr G c ((List.range (bn + 2)).map (rnA ks mm is L i)) ∧ Hid (∀ j, j ≠ G → wr.heap[j]? = w2.heap[j]?) ∧ w2.heap.size ≤ wr.heap.size ∧ Below W.heap.size W wr) (fun vi _ => bn - (intOf vi).toNat)
    case atStart => exact ⟨0, rfl, Nat.zero_le _, by rw [← HST.out]; exact HM2.out, Lib.hid (fun _ _ => rfl), Nat.le_refl _, HB2.out⟩
    case round =>
      obtain ⟨i, rfl, hi, hm, HU, hsq, hbq⟩ := hrel
      have hf := hm.frozen
      have HM := Lib.hid hm
      have HBQ := Lib.hid hbq
      by_cases hlt : i < bn
      · obtain ⟨b2, o2, e2, -, hb2', t2⟩ := bool_at HR2.out (i := i) (by rw [HI.out]; exact hlt)
        have t3 := (hbq.cell (p := ⟨b2, o2 + i, none⟩) hb2').trans t2
        obtain ⟨xb, hxb⟩ : ∃ xb, is[i]'(by rw [HI.out]; exact hlt) = xb := ⟨_, rfl⟩
        have hsb : selV is (i + 2) = xb := by
          unfold selV
          rw [← hxb, show i + 2 - 2 = i by omega, List.getD_eq_getElem?_getD, List.getElem?_eq_getElem (by rw [HI.out]; exact hlt)]
          rfl
        rw [hxb] at t3
        subst e2
        obtain ⟨-, -, -, -, g4⟩ := MutR.cellF (f := rnA ks mm is L i) hm (by omega : i + 2 < bn + 2)
        have HMX := Lib.hid (MutR.putF (f := rnA ks mm is L i) hm (by omega : i + 2 < bn + 2) (j := 4) (by decide) (.bool (!xb)) { rnA ks mm is L i (i + 2) with gone := !xb } (row_gone _ _))
        have HNM : Hid ((List.range (bn + 2)).map (fun k => if k = i + 2 then { rnA ks mm is L i (i + 2) with gone := !xb } else rnA ks mm is L i k) = (List.range (bn + 2)).map (rnA ks mm is L (i + 1))) := Lib.hid (by
          refine map_range_congr fun j hj => ?_
          by_cases q : j = i + 2
          · subst q
            rw [if_pos rfl]
            unfold rnA
            rw [hsb]
            simp
          · rw [if_neg q]
            unfold rnA
            have e : decide (j < i + 2) = decide (j < i + 1 + 2) := by
              by_cases h : j < i + 2
              · simp [h, show j < i + 1 + 2 by omega]
              · simp [h, show ¬ j < i + 1 + 2 by omega]
            rw [e])
        have i0 : (0 : Int) ≤ (i : Int) := by omega
        have i1 : (i : Int) < (bn : Int) := by omega
        have i2 : (0 : Int) ≤ (i : Int) + 2 := by omega
        have i3 : (i : Int) + 2 < ((bn + 2 : Nat) : Int) := by omega
        have n3 : ((i : Int) + 2).toNat = i + 2 := by omega
        have e6 : IntKind.i64.wrap ((i : Int) + 2) = (i : Int) + 2 := IntWalk.i64_in _ (by omega)
        clear hm hbq hxb hsb t2
        go_wp2_with fail
        exact ⟨⟨i + 1, by go_num, hlt, by rw [← HNM.out]; exact HMX.out, Lib.hid (fun j hj => by rw [Below.heap_setCell _ _ _ _ hj]; exact HU.out j hj), by simpa using hsq, HBQ.out.setCell (p := ⟨G, (i + 2) * 5 + 4, none⟩) hGB _⟩, by simp [intOf]; omega⟩
      · obtain rfl : i = bn := by omega
        have HU1 := HU
        have HB3 := HBQ
        rw [rn_mid] at hm
        have HM3 := Lib.hid hm
        clear hm hbq hlt HM
        go_wp2_with fail
        go_loopw [12] (fun vk wq => ∃ k : Nat, vk = .int .i64 (k : Int) ∧ 1 ≤ k ∧ k ≤ p ∧ MutR Ce.row 5 58 wq G c ((List.range (i + 2)).map (rnB ks mm is L (L.take k))) ∧ Hid (∀ j, j ≠ G → wq.heap[j]? = w2.heap[j]?) ∧ w2.heap.size ≤ wq.heap.size ∧ Below W.heap.size W wq) (fun vk _ => p - (intOf vk).toNat)
        case atStart => exact ⟨1, rfl, by omega, by omega, by rw [HL0.out]; exact HM3.out, HU1, hsq, HB3.out⟩
        case round =>
          obtain ⟨k, rfl, hk1, hk, hm, HU, hsq, hbq⟩ := hrel
          have hf := hm.frozen
          have HM := Lib.hid hm
          have HBQ := Lib.hid hbq
          by_cases hlt : k < p
          · obtain ⟨k', rfl⟩ : ∃ k', k = k' + 1 := ⟨k - 1, by omega⟩
            have hk2 : k' + 1 < L.length := by rw [HP.out]; exact hlt
            obtain ⟨x, hx⟩ : ∃ x, L[k' + 1]'hk2 = x := ⟨_, rfl⟩
            obtain ⟨b, hb⟩ : ∃ b, L[k']'(by omega) = b := ⟨_, rfl⟩
            obtain ⟨b7, o7, e7, hb7, hb8, t7⟩ := num_at HRD.out (i := k' + 1) (by rw [nat2_len]; exact hk2)
            obtain ⟨b7', o7', e7', -, -, s7⟩ := num_at HRD.out (i := k') (by rw [nat2_len]; omega)
            have hne7 : b7 ≠ G := fun e => HD.out (by rw [e7, e]; rfl)
            subst e7
            injection e7' with e7'
            injection e7' with e8 e9
            subst e8 e9
            have hnx : (nat2 L)[k' + 1]'(by rw [nat2_len]; exact hk2) = (x : Int) := by rw [← hx]; simp [nat2]
            have hnb : (nat2 L)[k']'(by rw [nat2_len]; omega) = (b : Int) := by rw [← hb]; simp [nat2]
            rw [hnx] at t7
            rw [hnb] at s7
            have u7 := (World.cell?_of_block (a := ⟨b7, o7 + (k' + 1), none⟩) (HU.out b7 hne7)).trans t7
            have u8 := (World.cell?_of_block (a := ⟨b7, o7 + k', none⟩) (HU.out b7 hne7)).trans s7
            have hx2 : x < i + 2 := HLT.out x (by rw [← hx]; exact List.getElem_mem _)
            have HTK : Hid (L.take (k' + 1 + 1) = L.take k' ++ [b] ++ [x]) := Lib.hid (by rw [List.take_succ_eq_append_getElem hk2, List.take_succ_eq_append_getElem (by omega : k' < L.length), hx, hb])
            have HTB : Hid (L.take (k' + 1) = L.take k' ++ [b]) := Lib.hid (by rw [List.take_succ_eq_append_getElem (by omega : k' < L.length), hb])
            have HNDB : Hid ((L.take k' ++ [b] ++ [x]).Nodup) := Lib.hid (by rw [← HTK.out]; exact List.Nodup.sublist (List.take_sublist _ _) HLD.out)
            obtain ⟨-, g1, -, -, -⟩ := MutR.cellF (f := rnB ks mm is L (L.take (k' + 1))) hm hx2
            have HMX := Lib.hid (MutR.putF (f := rnB ks mm is L (L.take (k' + 1))) hm hx2 (j := 1) (by decide) (.int .i64 (b : Int)) { rnB ks mm is L (L.take (k' + 1)) x with left := (b : Int) } (row_left _ _))
            have HNM : Hid ((List.range (i + 2)).map (fun j => if j = x then { rnB ks mm is L (L.take (k' + 1)) x with left := (b : Int) } else rnB ks mm is L (L.take (k' + 1)) j) = (List.range (i + 2)).map (rnB ks mm is L (L.take (k' + 1 + 1)))) := Lib.hid (by
              refine map_range_congr fun j hj => ?_
              unfold rnB
              rw [HTK.out, HTB.out, prvL_snoc HNDB.out]
              by_cases q : j = x
              · subst q; simp
              · simp [q])
            have i0 : (0 : Int) ≤ (k' : Int) := by omega
            have i1 : (k' : Int) < (p : Int) := by omega
            have i2 : (0 : Int) ≤ (k' : Int) + 1 := by omega
            have i3 : (k' : Int) + 1 < (p : Int) := by omega
            have n3 : ((k' : Int) + 1).toNat = k' + 1 := by omega
            have bb0 : (0 : Int) ≤ (x : Int) := by omega
            have bb1 : (x : Int) < ((i + 2 : Nat) : Int) := by omega
            have e1 : IntKind.i64.wrap ((k' : Int) + 1 - 1) = (k' : Int) := by rw [Int.add_sub_cancel]; exact IntWalk.i64_in _ (by omega)
            have e2 : IntKind.i64.wrap ((k' : Int) + 1 + -1) = (k' : Int) := by rw [show (k' : Int) + 1 + -1 = k' by omega]; exact IntWalk.i64_in _ (by omega)
            have e5 : IntKind.i64.wrap (k' : Int) = (k' : Int) := IntWalk.i64_in _ (by omega)
            rw [show ((k' + 1 : Nat) : Int) = (k' : Int) + 1 from by omega]
            clear hm hbq hx hb hnx hnb t7 s7 hk2
            go_upto_region 12 with fail
            go_region
            have HMZ := Lib.hid (HMX.out.keep (w' := (wr.setCell ⟨G, x * 5 + 1, none⟩ (.int .i64 (b : Int))).drew) rfl)
            have HBZ := Lib.hid ((HBQ.out.setCell (p := ⟨G, x * 5 + 1, none⟩) hGB (.int .i64 (b : Int))).drew)
            go_wp2_with fail
            exact ⟨⟨k' + 1 + 1, by go_num, by omega, by omega, by rw [← HNM.out]; exact HMZ.out, Lib.hid (fun j hj => by
              show (wr.setCell ⟨G, x * 5 + 1, none⟩ _).heap[j]? = _
              rw [Below.heap_setCell _ _ _ _ hj]
              exact HU.out j hj), by simpa using hsq, HBZ.out⟩, by simp [intOf]; omega⟩
          · obtain rfl : k = p := by omega
            have HTE : Hid (L.take k = L) := Lib.hid (by rw [← HP.out, List.take_length])
            rw [HTE.out] at hm
            have hbn := (Below.refl wr.heap.size wr).alloc (Nat.le_refl _) (.cells (zc mm) 52)
            have HMF := Lib.hid (hm.below hbn)
            have HPF := Lib.hid (procs_mut wr mm hmm)
            have hyq := (HY.out.below HBQ.out).below hbn
            have y0 := hyq.cell 0
            have y1 := hyq.cell 1
            have z0 := hyq.frozen 0
            have z1 := hyq.frozen 1
            have HBF := Lib.hid (HB.out.trans ((HBQ.out.trans (hbn.mono HBQ.out.size)).mono (by omega)))
            have hgl : G < wr.heap.size := hm.lt
            have hsw : w2.heap.size ≤ wr.heap.size := hsq
            clear hm hbq hbn hyq
            go_wp2_with fail
            have h2 := twice0 (wr.alloc (.cells (zc mm) 52)) B (.slice (some ⟨G, 0, none⟩) (i + 2) c) (.slice (some ⟨wr.heap.size, 0, none⟩) mm mm) _ _ y0 y1
            have hrd : RdL (wr.alloc (.cells (zc mm) 52)) w.heap.size (some ⟨G, 0, none⟩) (some ⟨wr.heap.size, 0, none⟩) (newV ks mm (selV is)) := by
              refine ⟨?_, ?_⟩
              · have h3 := HMF.out
                rw [HLE.out, ← HK.out, rn_end] at h3
                exact h3.rd (by have := HBB.out; omega)
              · exact HPF.out.rd (by have := HBB.out; omega)
            have hk3 : ∀ j, j ≠ B → (((wr.alloc (.cells (zc mm) 52)).setCell ⟨B, 0, none⟩ (.slice (some ⟨G, 0, none⟩) (i + 2) c)).setCell ⟨B, 1, none⟩ (.slice (some ⟨wr.heap.size, 0, none⟩) mm mm)).heap[j]? = (wr.alloc (.cells (zc mm) 52)).heap[j]? := fun j hj => by
              rw [Below.heap_setCell _ _ _ _ hj, Below.heap_setCell _ _ _ _ hj]
            have hb9 := HBB.out
            have hBW : B < W.heap.size := HY.out.lt
            have hG9 : G ≠ B := by omega
            have hW9 : wr.heap.size ≠ B := by have := HBQ.out.size; omega
            refine bodyPost_ret (results_list1 rfl _ _ B rfl h2.1 h2.2) rfl (.inr ⟨HE0.out, G, wr.heap.size, _, _, rfl, ?_, ?_⟩)
            · refine ⟨fun hc => ?_, fun hc => ?_⟩
              · obtain ⟨b, o, q1, q2, q3, q4⟩ := hrd.cs hc
                injection q1 with q1
                injection q1 with q5 q6
                subst q5
                exact ⟨_, o, by rw [q6], q2, by simpa using q3, fun i hi j u hu => (World.cell?_of_block (hk3 _ hG9)).trans (q4 i hi j u hu)⟩
              · obtain ⟨b, o, q1, q2, q3, q4⟩ := hrd.ps hc
                injection q1 with q1
                injection q1 with q5 q6
                subst q5
                exact ⟨_, o, by rw [q6], q2, by simp, fun i hi j u hu => (World.cell?_of_block (hk3 _ hW9)).trans (q4 i hi j u hu)⟩
            · rw [← hb9]
              exact (HBF.out.setCell (p := ⟨B, 0, none⟩) (Nat.le_refl _) _).setCell (p := ⟨B, 1, none⟩) (Nat.le_refl _) _
  · have HE := Lib.hid h0
    have h0b : ((newE ks is m) != 0) = true := by simpa using h0
    obtain ⟨E, hE⟩ : ∃ E, E = newE ks is m := ⟨_, rfl⟩
    have HEE := Lib.hid hE
    rw [← hE] at HNE h0b
    clear h0 hE
    go_enter Tryd.func15, Tryd.ntmps15
    go_upto_region 1 with fail
    generalize w.alloc (.cells #[.slice none 0 0, .slice none 0 0] 35) = W at *
    obtain ⟨B, hB⟩ : ∃ B, B = w.heap.size := ⟨_, rfl⟩
    have HBB := Lib.hid hB
    rw [← hB] at HB HY hsz ⊢
    clear hB
    go_wp2_with (go_at_call 36; (refine (HNE.out).mono ?_); rintro e w1 ⟨rfl, hb1⟩; have HB1 := Lib.hid (HB.out.trans (hb1.mono (by omega))); have y0 := (HY.out.below hb1).cell 0; have y1 := (HY.out.below hb1).cell 1; have z0 := (HY.out.below hb1).frozen 0; have z1 := (HY.out.below hb1).frozen 1; clear hb1)
    have h2 := twice0 w1 B (.slice none 0 0) (.slice none 0 0) _ _ y0 y1
    refine bodyPost_ret (results_list1 rfl _ _ B rfl h2.1 h2.2) rfl (.inl ⟨HE.out, by rw [HEE.out]; rfl, ?_⟩)
    rw [← HBB.out]
    exact (HB1.out.setCell (p := ⟨B, 0, none⟩) (Nat.le_refl _) _).setCell (p := ⟨B, 1, none⟩) (Nat.le_refl _) _
end Lk
end Go.Proofs.YtgmffgdhijcfcaaDoor
