/-
  New of the reference of chapter 12. Condition: keys and truths can be read.
  Words for the walks of chapter 12's statements: a box that holds a list without locks; made, start, play and the example. Conditions: the block is a tape, the letters are there.
  The example, start and play of chapter 12's statements. Conditions: the block is a tape; the list is led to, and can be read.
  start and play of chapter 12's statements. Conditions: the block is a tape; the list is led to, and can be read.
  play of chapter 12's statements. Conditions: the block is a tape; the list is led to, and can be read.
-/
import Derived.Test.YtmhbloefmknikaaGreatDoorObF
import Derived.Test.YtmhbloefmknikaaGreatDoorLaD
import Derived.Test.YtmhbloefmknikaaGreatDoorObJ
import Derived.Test.YtmhbloefmknikaaGreatDoorMaM
import Derived.Test.YtmhbloefmknikaaGreatDoorLaH
namespace Go.Proofs.YtmhbloefmknikaaGreatDoor
section
open Go.RowKit Go.Maps
namespace Lf
open Lk
/-- The cells as New of the reference goes on. -/
def rnC (ks : List ByteArray) (m : Nat) (L : List Nat) (k : Nat) (i : Nat) : Ce := ⟨((nwB ks m).at_ i).key, 0, (nxtL L i : Nat), if (L.take k).contains i then 1 else 0, false⟩
theorem rnC_zero (ks : List ByteArray) (m : Nat) (L : List Nat) (n : Nat) : chR ks m n L = (List.range n).map (rnC ks m L 0) := map_range_congr fun i _ => by
  unfold rnC
  simp
theorem rnC_all (ks : List ByteArray) (m : Nat) (sel : Nat → Bool) : (List.range (ks.length + 2)).map (rnC ks m (ordV ks m sel) (ordV ks m sel).length) = (newV ks m sel).cs := map_range_congr fun i hi => by
  unfold rnC nfC
  rw [List.take_length]
  have h := mem_ord (keys := ks) (m := m) (sel := sel) i
  by_cases q : i ∈ ordV ks m sel
  · have q1 : (ordV ks m sel).contains i = true := by rw [List.contains_iff_mem]; exact q
    rw [q1, if_pos rfl]
    have : (decide (2 ≤ i) && !sel i) = false := by
      rcases h.1 q with e | e | ⟨_, _, e⟩
      · subst e; rfl
      · subst e; rfl
      · rw [e]; simp
    rw [this]
    rfl
  · have q1 : (ordV ks m sel).contains i = false := by
      cases e : (ordV ks m sel).contains i with
      | false => rfl
      | true => rw [List.contains_iff_mem] at e; exact absurd e q
    rw [q1, if_neg (by simp)]
    have : (decide (2 ≤ i) && !sel i) = true := by
      have h2 : 2 ≤ i := Classical.byContradiction fun c => q (h.2 (by omega))
      have h3 : sel i = false := by
        cases e : sel i with
        | false => rfl
        | true => exact absurd (h.2 (.inr (.inr ⟨hi, h2, e⟩))) q
      rw [h3, decide_eq_true h2]; rfl
    rw [this]
    rfl
theorem rnC_next {ks : List ByteArray} {m : Nat} {L : List Nat} {k n x : Nat} (hk : k < L.length) (hx : L[k] = x) : (List.range n).map (fun j => if j = x then { rnC ks m L k x with lock := 1 } else rnC ks m L k j) = (List.range n).map (rnC ks m L (k + 1)) := map_range_congr fun j _ => by
  unfold rnC
  rw [List.take_succ_eq_append_getElem hk, hx]
  by_cases q : j = x
  · subst q; simp
  · simp [q]
set_option maxRecDepth 100000 in
set_option maxHeartbeats 6400000 in
theorem rnew_any (A1 A2 : Option Addr) (ks : List ByteArray) (is : List Bool) (kn bn c1 c2 : Nat) (m : Int) (w : World) (hk : ks.length = kn) (hi : is.length = bn) (h1 : RdR trow 1 w 0 A1 ks) (h2 : RdR brow 1 w 0 A2 is) (hk2 : kn ≤ 9223372036854775807) (hb2 : bn ≤ 9223372036854775807) :
    Calls Tryz.prog 73 #[.slice A1 kn c1, .slice A2 bn c2, .int .i64 m] w (NewP ks is m kn w) := by
  have hb := (Below.refl w.heap.size w).alloc (Nat.le_refl _) (.cells #[.slice none 0 0, .slice none 0 0] 28)
  have HB := Lib.hid hb
  have HY := Lib.hid (Has.new w 28 #[.slice none 0 0, .slice none 0 0])
  have HR1 := Lib.hid (RdR.below h1 hb)
  have HR2 := Lib.hid (RdR.below h2 hb)
  have HNE := Lib.hid (rnewE_any A1 A2 ks is kn bn c1 c2 m _ hk hi HR1.out hk2 hb2)
  have HK := Lib.hid hk
  have HI := Lib.hid hi
  have hsz : (w.alloc (.cells #[.slice none 0 0, .slice none 0 0] 28)).heap.size = w.heap.size + 1 := World.size_alloc _ _
  clear hb h1 h2 hk hi
  by_cases h0 : newE ks is m = 0
  · have HE0 := Lib.hid h0
    have hz : ¬ ks.length > 64 ∧ (1 ≤ m ∧ m ≤ 8) ∧ (ks.length = is.length ∧ (∀ k ∈ ks, vk k = true)) ∧ ks.Nodup := by
      unfold newE at h0
      by_cases q1 : ks.length > 64
      · rw [if_pos q1] at h0; cases h0
      · rw [if_neg q1] at h0
        by_cases q2 : 1 ≤ m ∧ m ≤ 8
        · rw [if_neg (fun q => q q2)] at h0
          by_cases q3 : ks.length ≠ is.length ∨ ¬ (∀ k ∈ ks, vk k = true)
          · rw [if_pos q3] at h0; cases h0
          · rw [if_neg q3] at h0
            by_cases q4 : ks.Nodup
            · exact ⟨q1, q2, ⟨Classical.byContradiction fun q => q3 (.inl q), Classical.byContradiction fun q => q3 (.inr q)⟩, q4⟩
            · rw [if_pos q4] at h0; cases h0
        · rw [if_pos q2] at h0; cases h0
    obtain ⟨z1, z2, ⟨z3, z4⟩, z5⟩ := hz
    obtain ⟨mm, rfl, hmm⟩ : ∃ mm : Nat, m = (mm : Int) ∧ mm ≤ 8 := ⟨m.toNat, by omega, by omega⟩
    have HOK : Hid (NwOk ks mm) := Lib.hid ⟨by omega, by omega, hmm, z4, z5⟩
    obtain rfl : bn = kn := by rw [← HK.out, ← HI.out, z3]
    have k64 : bn ≤ 64 := by rw [← HK.out]; omega
    rw [h0] at HNE
    have hmp := fun W => make_procs W mm hmm
    have m0 : (0 : Int) ≤ (mm : Int) := by omega
    clear h0 z1 z2 z3 z4 z5
    go_enter Tryz.func73, Tryz.ntmps73
    go_upto_region 1 with fail
    generalize w.alloc (.cells #[.slice none 0 0, .slice none 0 0] 28) = W at *
    obtain ⟨B, hB⟩ : ∃ B, B = w.heap.size := ⟨_, rfl⟩
    have HBB := Lib.hid hB
    rw [← hB] at HB HY hsz ⊢
    clear hB
    go_wp2_with (first | (go_at_call 91; (refine (HNE.out).mono ?_); rintro e w1 ⟨rfl, hb1⟩; have HB1 := Lib.hid hb1; have hs1 := hb1.size; clear hb1) | (go_at_call 92; (refine (rchn_any A1 A2 ks is bn c1 c2 mm w1 HOK.out HK.out HI.out (RdR.below HR1.out HB1.out) (RdR.below HR2.out HB1.out) k64).mono ?_); rintro e w2 ⟨G, c, A, p, c3, rfl, hG, hm, hp, ho, hd, hb2⟩; have HM2 := Lib.hid hm; have HO2 := Lib.hid ho; have HP := Lib.hid hp; have HD := Lib.hid hd; have HB2 := Lib.hid (HB1.out.trans (hb2.mono HB1.out.size)); have hs2 := hb2.size; have HGB := Lib.hid hG; have hGB : W.heap.size ≤ G := (by omega); clear hm ho hp hd hb2 hG))
    obtain ⟨L, hL⟩ : ∃ L, L = ordV ks mm (selV is) := ⟨_, rfl⟩
    have HLE := Lib.hid hL
    rw [← hL] at HM2 HO2 HP
    have HRD : Hid (RdR nrow 1 w2 0 A (nat2 L)) := Lib.hid (by
      obtain ⟨A9, c9, e9, -, -, hr9⟩ := HO2.out.read (fun _ => rfl)
      injection e9 with e9 _ _
      rw [e9]
      exact RdR.low hr9 (Nat.zero_le _))
    have HST : Hid (chR ks mm (bn + 2) L = (List.range (bn + 2)).map (rnC ks mm L 0)) := Lib.hid (rnC_zero ks mm L (bn + 2))
    have HEN : Hid ((List.range (bn + 2)).map (rnC ks mm L p) = (newV ks mm (selV is)).cs) := Lib.hid (by rw [← HP.out, hL, ← HK.out]; exact rnC_all ks mm (selV is))
    have HLD : Hid (L.Nodup) := Lib.hid (by rw [hL]; exact (ord_asc HOK.out (selV is)).imp (fun h e => by rw [e] at h; exact Nat.lt_irrefl _ h))
    have HLT : Hid (∀ j ∈ L, j < bn + 2) := Lib.hid (fun j hj => by rw [hL, mem_ord] at hj; have := HK.out; omega)
    have hp2 : 1 ≤ p ∧ p ≤ 1000 := by
      have h1 : 1 ≤ L.length := by rw [hL]; unfold ordV; simp
      have h2 : L.length ≤ 70 := by
        rw [hL]
        unfold ordV memI
        rw [List.length_cons, List.length_append, List.length_mergeSort]
        refine Nat.le_trans (Nat.add_le_add_right (Nat.add_le_add_right (List.length_filter_le _ _) _) _) ?_
        rw [List.length_range, nwB_len, HK.out]
        simp only [List.length_singleton]
        omega
      have := HP.out
      omega
    clear hL
    go_loopw [11] (fun vk wq => ∃ k : Nat, vk = .int .i64 (k : Int) ∧ k ≤ p ∧ MutR Ce.row 5 66 wq G c ((List.range (bn + 2)).map (rnC ks mm L k)) ∧ Hid (∀ j, j ≠ G → wq.heap[j]? = w2.heap[j]?) ∧ w2.heap.size ≤ wq.heap.size ∧ Below W.heap.size W wq) (fun vk _ => p - (intOf vk).toNat)
    case atStart => exact ⟨0, rfl, by omega, by rw [← HST.out]; exact HM2.out, Lib.hid (fun _ _ => rfl), Nat.le_refl _, HB2.out⟩
    case round =>
      obtain ⟨k, rfl, hk, hm, HU, hsq, hbq⟩ := hrel
      have hf := hm.frozen
      have HM := Lib.hid hm
      have HBQ := Lib.hid hbq
      by_cases hlt : k < p
      · have hk2 : k < L.length := by rw [HP.out]; exact hlt
        obtain ⟨x, hx⟩ : ∃ x, L[k]'hk2 = x := ⟨_, rfl⟩
        obtain ⟨b7, o7, e7, hb7, hb8, t7⟩ := num_at HRD.out (i := k) (by rw [nat2_len]; exact hk2)
        have hne7 : b7 ≠ G := fun e => HD.out (by rw [e7, e]; rfl)
        subst e7
        have hnx : (nat2 L)[k]'(by rw [nat2_len]; exact hk2) = (x : Int) := by rw [← hx]; simp [nat2]
        rw [hnx] at t7
        have u7 := (World.cell?_of_block (a := ⟨b7, o7 + k, none⟩) (HU.out b7 hne7)).trans t7
        have hx2 : x < bn + 2 := HLT.out x (by rw [← hx]; exact List.getElem_mem _)
        obtain ⟨-, -, -, g3, -⟩ := MutR.cellF (f := rnC ks mm L k) hm hx2
        have HMX := Lib.hid (MutR.putF (f := rnC ks mm L k) hm hx2 (j := 3) (by decide) (.int .i64 1) { rnC ks mm L k x with lock := 1 } rfl)
        have HNM : Hid ((List.range (bn + 2)).map (fun j => if j = x then { rnC ks mm L k x with lock := 1 } else rnC ks mm L k j) = (List.range (bn + 2)).map (rnC ks mm L (k + 1))) := Lib.hid (rnC_next hk2 hx)
        have i0 : (0 : Int) ≤ (k : Int) := by omega
        have i1 : (k : Int) < (p : Int) := by omega
        have bb0 : (0 : Int) ≤ (x : Int) := by omega
        have bb1 : (x : Int) < ((bn + 2 : Nat) : Int) := by omega
        have bb2 : (x : Int) < (bn : Int) + 2 := by omega
        clear hm hbq hx hnx t7 hk2
        go_wp2_with fail
        exact ⟨⟨k + 1, by go_num, by omega, by rw [← HNM.out]; exact HMX.out, Lib.hid (fun j hj => by rw [Below.heap_setCell _ _ _ _ hj]; exact HU.out j hj), by simpa using hsq, HBQ.out.setCell (p := ⟨G, x * 5 + 3, none⟩) hGB _⟩, by simp [intOf]; omega⟩
      · obtain rfl : k = p := by omega
        have hbn := (Below.refl wr.heap.size wr).alloc (Nat.le_refl _) (.cells (zc mm) 63)
        have HMF := Lib.hid (hm.below hbn)
        have HPF := Lib.hid (procs_mut wr mm hmm)
        have hyq := (HY.out.below HBQ.out).below hbn
        have y0 := hyq.cell 0
        have y1 := hyq.cell 1
        have z0 := hyq.frozen 0
        have z1 := hyq.frozen 1
        have HBF := Lib.hid (HB.out.trans ((HBQ.out.trans (hbn.mono HBQ.out.size)).mono (by omega)))
        have hgl : G < wr.heap.size := hm.lt
        have hsw : w2.heap.size ≤ wr.heap.size := hsq
        clear hm hbq hbn hyq
        go_wp2_with fail
        have h2 := twice0 (wr.alloc (.cells (zc mm) 63)) B (.slice (some ⟨G, 0, none⟩) (bn + 2) c) (.slice (some ⟨wr.heap.size, 0, none⟩) mm mm) _ _ y0 y1
        have hrd : RdL (wr.alloc (.cells (zc mm) 63)) w.heap.size (some ⟨G, 0, none⟩) (some ⟨wr.heap.size, 0, none⟩) (newV ks mm (selV is)) := by
          refine ⟨?_, ?_⟩
          · have h3 := HMF.out
            rw [HEN.out] at h3
            exact h3.rd (by have := HBB.out; omega)
          · exact HPF.out.rd (by have := HBB.out; omega)
        have hk3 : ∀ j, j ≠ B → (((wr.alloc (.cells (zc mm) 63)).setCell ⟨B, 0, none⟩ (.slice (some ⟨G, 0, none⟩) (bn + 2) c)).setCell ⟨B, 1, none⟩ (.slice (some ⟨wr.heap.size, 0, none⟩) mm mm)).heap[j]? = (wr.alloc (.cells (zc mm) 63)).heap[j]? := fun j hj => by
          rw [Below.heap_setCell _ _ _ _ hj, Below.heap_setCell _ _ _ _ hj]
        have hb9 := HBB.out
        have hBW : B < W.heap.size := HY.out.lt
        have hG9 : G ≠ B := by omega
        have hW9 : wr.heap.size ≠ B := by have := HBQ.out.size; omega
        refine bodyPost_ret (results_list1 rfl _ _ B rfl h2.1 h2.2) rfl (.inr ⟨HE0.out, G, wr.heap.size, _, _, rfl, ?_, ?_⟩)
        · refine ⟨fun hc => ?_, fun hc => ?_⟩
          · obtain ⟨b, o, q1, q2, q3, q4⟩ := hrd.cs hc
            injection q1 with q1
            injection q1 with q5 q6
            subst q5
            exact ⟨_, o, by rw [q6], q2, by simpa using q3, fun i hi j u hu => (World.cell?_of_block (hk3 _ hG9)).trans (q4 i hi j u hu)⟩
          · obtain ⟨b, o, q1, q2, q3, q4⟩ := hrd.ps hc
            injection q1 with q1
            injection q1 with q5 q6
            subst q5
            exact ⟨_, o, by rw [q6], q2, by simp, fun i hi j u hu => (World.cell?_of_block (hk3 _ hW9)).trans (q4 i hi j u hu)⟩
        · rw [← hb9]
          exact (HBF.out.setCell (p := ⟨B, 0, none⟩) (Nat.le_refl _) _).setCell (p := ⟨B, 1, none⟩) (Nat.le_refl _) _
  · have HE := Lib.hid h0
    have h0b : ((newE ks is m) != 0) = true := by simpa using h0
    obtain ⟨E, hE⟩ : ∃ E, E = newE ks is m := ⟨_, rfl⟩
    have HEE := Lib.hid hE
    rw [← hE] at HNE h0b
    clear h0 hE
    go_enter Tryz.func73, Tryz.ntmps73
    go_upto_region 1 with fail
    generalize w.alloc (.cells #[.slice none 0 0, .slice none 0 0] 28) = W at *
    obtain ⟨B, hB⟩ : ∃ B, B = w.heap.size := ⟨_, rfl⟩
    have HBB := Lib.hid hB
    rw [← hB] at HB HY hsz ⊢
    clear hB
    go_wp2_with (go_at_call 91; (refine (HNE.out).mono ?_); rintro e w1 ⟨rfl, hb1⟩; have HB1 := Lib.hid (HB.out.trans (hb1.mono (by omega))); have y0 := (HY.out.below hb1).cell 0; have y1 := (HY.out.below hb1).cell 1; have z0 := (HY.out.below hb1).frozen 0; have z1 := (HY.out.below hb1).frozen 1; clear hb1)
    have h2 := twice0 w1 B (.slice none 0 0) (.slice none 0 0) _ _ y0 y1
    refine bodyPost_ret (results_list1 rfl _ _ B rfl h2.1 h2.2) rfl (.inl ⟨HE.out, by rw [HEE.out]; rfl, ?_⟩)
    rw [← HBB.out]
    exact (HB1.out.setCell (p := ⟨B, 0, none⟩) (Nat.le_refl _) _).setCell (p := ⟨B, 1, none⟩) (Nat.le_refl _) _
end Lf
end
section
open Go.RowKit Go.Maps
namespace Lk
section
variable {w w' : World} {B lo : Nat} {l l' : Ls} {n m G1 G2 d1 d2 : Nat}
theorem rd_loF {G1 G2 : Nat} (h : RdL w lo (some ⟨G1, 0, none⟩) (some ⟨G2, 0, none⟩) l) (v : Lf.Vlf l) : lo ≤ G1 ∧ lo ≤ G2 := by
  constructor
  · obtain ⟨b, o, e, h1, _⟩ := h.cs (by intro e; have := v.n2; rw [e] at this; simp at this)
    injection e with e
    injection e with e1 e2
    omega
  · obtain ⟨b, o, e, h1, _⟩ := h.ps (by intro e; have := v.m1; rw [e] at this; simp at this)
    injection e with e
    injection e with e1 e2
    omega
/-- What a call made is stored in the box. -/
theorem HoL.putF {g1 g2 e1 e2 n' m' : Nat} (h : HoL w B lo l n m g1 g2 e1 e2) (hb : Below w.heap.size w w') (hr : RdL w' w.heap.size (some ⟨G1, 0, none⟩) (some ⟨G2, 0, none⟩) l') (v : Lf.Vlf l') (hn : l'.cs.length = n') (hm : l'.ps.length = m') :
    HoL ((w'.setCell ⟨B, 0, none⟩ (.slice (some ⟨G1, 0, none⟩) n' d1)).setCell ⟨B, 1, none⟩ (.slice (some ⟨G2, 0, none⟩) m' d2)) B lo l' n' m' G1 G2 d1 d2 := by
  have hl := rd_loF hr v
  have hB := h.lt
  have h' := h.below hb
  exact HoL.mk2 (by rw [h'.x0]; simp) (by rw [h'.x1]; simp) h'.fz h.lB (hr.low (by have := h.lB; omega)) (by omega) (by omega) hn hm
/-- A new box. -/
theorem HoL.newF {t : TypeId} (hr : RdL w lo (some ⟨G1, 0, none⟩) (some ⟨G2, 0, none⟩) l) (v : Lf.Vlf l) (hlo : lo ≤ w.heap.size) (hn : l.cs.length = n) (hm : l.ps.length = m) :
    HoL (w.alloc (.cells #[.slice (some ⟨G1, 0, none⟩) n d1, .slice (some ⟨G2, 0, none⟩) m d2] t)) w.heap.size lo l n m G1 G2 d1 d2 := by
  have hx := Has.new w t #[.slice (some ⟨G1, 0, none⟩) n d1, .slice (some ⟨G2, 0, none⟩) m d2]
  have hb := (Below.refl w.heap.size w).alloc (Nat.le_refl _) (.cells #[.slice (some ⟨G1, 0, none⟩) n d1, .slice (some ⟨G2, 0, none⟩) m d2] t)
  have h1 : G1 < w.heap.size := by
    obtain ⟨b, o, e, h1, h2, _⟩ := hr.cs (by intro e; have := v.n2; rw [e] at this; simp at this)
    injection e with e
    injection e with e1 e2
    omega
  have h2 : G2 < w.heap.size := by
    obtain ⟨b, o, e, h1, h2, _⟩ := hr.ps (by intro e; have := v.m1; rw [e] at this; simp at this)
    injection e with e
    injection e with e1 e2
    omega
  exact ⟨hx.cell 0, hx.cell 1, hx.frozen, by omega, by omega, hlo, hr.below hb, hn, hm⟩
end
theorem HoL.gltF {w : World} {B lo : Nat} {l : Ls} {n m G1 G2 d1 d2 : Nat} (h : HoL w B lo l n m G1 G2 d1 d2) (v : Lf.Vlf l) : G1 < w.heap.size ∧ G2 < w.heap.size := by
  constructor
  · obtain ⟨b, o, q1, _, q3, _⟩ := h.rd.cs (by intro e; have := v.n2; rw [e] at this; simp at this)
    injection q1 with q1
    injection q1 with q1 _
    omega
  · obtain ⟨b, o, q1, _, q3, _⟩ := h.rd.ps (by intro e; have := v.m1; rw [e] at this; simp at this)
    injection q1 with q1
    injection q1 with q1 _
    omega
end Lk
namespace Lf
open Lk
theorem sta_ok {l : Ls} {p : Nat} {kd c : Int} (h : staE l p kd c = 0) : p < l.ps.length ∧ (2 ≤ c ∧ c < (l.cs.length : Int)) ∧ (1 ≤ kd ∧ kd ≤ 3) ∧ ((l.pr p).phase = 0 ∨ (l.pr p).phase = 18) ∧ (kd = 1 → (l.at_ c.toNat).lock ≠ 1) := by
  unfold staE at h
  by_cases q0 : vldB l = false
  · rw [if_pos q0] at h; cases h
  · rw [if_neg q0] at h
    by_cases q1 : (p : Int) < 0 ∨ (p : Int) ≥ (l.ps.length : Int)
    · rw [if_pos q1] at h; cases h
    · rw [if_neg q1] at h
      by_cases q2 : c < 2 ∨ c ≥ (l.cs.length : Int)
      · rw [if_pos q2] at h; cases h
      · rw [if_neg q2] at h
        by_cases q3 : kd ≠ 1 ∧ kd ≠ 2 ∧ kd ≠ 3
        · rw [if_pos q3] at h; cases h
        · rw [if_neg q3] at h
          by_cases q4 : (l.pr (p : Int).toNat).phase ≠ 0 ∧ (l.pr (p : Int).toNat).phase ≠ 18
          · rw [if_pos q4] at h; cases h
          · rw [if_neg q4] at h
            rw [Int.toNat_natCast] at q4
            by_cases q5 : kd = 1 ∧ (l.at_ c.toNat).lock = 1
            · rw [if_pos q5] at h; cases h
            · exact ⟨by omega, ⟨by omega, by omega⟩, ⟨by omega, by omega⟩, by omega, fun a b => q5 ⟨a, b⟩⟩
theorem sta_led {l : Ls} (h : Led l) {p : Nat} {kd c : Int} (e : staE l p kd c = 0) : Led (begV l p kd c) := by
  obtain ⟨h1, h2, h3, h4, h5⟩ := sta_ok e
  exact led_beg h h1 h2 h3 h4 h5
theorem beg_len (l : Ls) (p : Nat) (kd c : Int) : (begV l p kd c).cs.length = l.cs.length ∧ (begV l p kd c).ps.length = l.ps.length := by
  unfold begV
  split
  · exact ⟨Ls.len_setC .., Ls.len_setP _ _ _⟩
  · exact ⟨rfl, Ls.len_setP _ _ _⟩
theorem stp_len {l l' : Ls} (v : Vlf l) {p : Int} (e : stpO l p = some l') : l'.cs.length = l.cs.length ∧ l'.ps.length = l.ps.length := by
  unfold stpO at e
  split at e
  · exact step_len v (by omega) e
  · cases e
theorem stp_led {l l' : Ls} (h : Led l) {p : Int} (e : stpO l p = some l') : Led l' := by
  unfold stpO at e
  split at e
  · exact led_step h (by omega) e
  · cases e
theorem getD_led {l : Ls} (h : Led l) (p : Int) : Led ((stpO l p).getD l) := by
  cases e : stpO l p with
  | none => exact h
  | some l' => exact stp_led h e
theorem getD_len {l : Ls} (v : Vlf l) (p : Int) : ((stpO l p).getD l).cs.length = l.cs.length ∧ ((stpO l p).getD l).ps.length = l.ps.length := by
  cases e : stpO l p with
  | none => exact ⟨rfl, rfl⟩
  | some l' => exact stp_len v e
/-- What a drawn call of Start leaves: a box X that holds its list, the error E. R is what else stays. -/
def StRel (R : World → Prop) (l : Ls) (q n m lo : Nat) (s1 s2 : Value) (wx : World) : Prop := ∃ (X : Nat) (E kd c : Int) (P1 P2 : Option Addr) (a1 a2 f1 f2 : Nat), s1 = .pointer (some ⟨X, 0, none⟩) ∧ s2 = .int .i64 E ∧ wx.cell? ⟨X, 0, none⟩ = some (.slice P1 a1 f1) ∧ wx.cell? ⟨X, 1, none⟩ = some (.slice P2 a2 f2) ∧ R wx ∧ Hid (E = staE l (q : Int) kd c) ∧ Hid (E = 0 → ∃ K1 K2, P1 = some ⟨K1, 0, none⟩ ∧ P2 = some ⟨K2, 0, none⟩ ∧ n = a1 ∧ m = a2 ∧ RdL wx lo (some ⟨K1, 0, none⟩) (some ⟨K2, 0, none⟩) (begV l q kd c))
theorem StRel.mk {R : World → Prop} {l : Ls} {q n m lo base X : Nat} {E kd c : Int} {P1 P2 : Option Addr} {a1 a2 f1 f2 : Nat} {w6 wx : World} (hE : E = staE l (q : Int) kd c) (hok : E = 0 → ∃ G1 G2, P1 = some ⟨G1, 0, none⟩ ∧ P2 = some ⟨G2, 0, none⟩ ∧ a1 = n ∧ a2 = m ∧ RdL w6 base (some ⟨G1, 0, none⟩) (some ⟨G2, 0, none⟩) (begV l ((q : Int)).toNat kd c)) (hb : lo ≤ base) (hR : But X w6 wx → R wx) (k : But X w6 wx) (h0 : wx.cell? ⟨X, 0, none⟩ = some (.slice P1 a1 f1)) (h1 : wx.cell? ⟨X, 1, none⟩ = some (.slice P2 a2 f2)) (hX : X < base ∨ w6.heap.size ≤ X) : StRel R l q n m lo (.pointer (some ⟨X, 0, none⟩)) (.int .i64 E) wx := by
  refine ⟨X, E, kd, c, P1, P2, a1, a2, f1, f2, rfl, rfl, h0, h1, hR k, Lib.hid hE, Lib.hid fun he => ?_⟩
  obtain ⟨G1, G2, e1, e2, e3, e4, hr⟩ := hok he
  exact ⟨G1, G2, e1, e2, e3.symm, e4.symm, (k.rdl hr hX).low hb⟩
/-- A list that nobody works on, with two to four processes. -/
structure Fresh (l : Ls) (n m : Nat) : Prop where
  n8 : n ≤ 8
  led : Led l
  hn : l.cs.length = n
  hm : l.ps.length = m
  m2 : 2 ≤ m
  m4 : m ≤ 4
  pr : ∀ p, l.pr p = Po.zero
  gn : ∀ i, i < l.cs.length → (l.at_ i).gone = false
theorem fresh_new {ks : List ByteArray} {mm : Nat} (ok : NwOk ks mm) (sel : Nat → Bool) (h6 : ks.length ≤ 6) (h2 : 2 ≤ mm) (h4 : mm ≤ 4) : Fresh (newV ks mm sel) (ks.length + 2) mm :=
  ⟨by omega, led_new ok sel, newV_len _ _ _, by simp [newV], h2, h4, fun p => nw_pr _ _ _, fun i hi => by rw [newV_len] at hi; rw [newV_at _ _ _ hi]; rfl⟩
def MadP (g : Nat) (w : World) (e : Ending) (w' : World) : Prop := ∃ (l : Ls) (n m G1 G2 d1 d2 : Nat), e = .returned (.tuple #[.agg #[.slice (some ⟨G1, 0, none⟩) n d1, .slice (some ⟨G2, 0, none⟩) m d2], .bool true]) ∧ Fresh l n m ∧ RdL w' w.heap.size (some ⟨G1, 0, none⟩) (some ⟨G2, 0, none⟩) l ∧ TStep w g w'
theorem NewP.ok {ks : List ByteArray} {is : List Bool} {mm kn : Nat} {w : World} {e : Ending} {w' : World} (h : NewP ks is (mm : Int) kn w e w') (h0 : newE ks is (mm : Int) = 0) : ∃ G1 G2 d1 d2, e = .returned (.tuple #[.agg #[.slice (some ⟨G1, 0, none⟩) (kn + 2) d1, .slice (some ⟨G2, 0, none⟩) mm d2], .int .i64 0]) ∧ RdL w' w.heap.size (some ⟨G1, 0, none⟩) (some ⟨G2, 0, none⟩) (newV ks mm (selV is)) ∧ Below w.heap.size w w' := by
  rcases h with ⟨q, -, -⟩ | ⟨-, q⟩
  · exact absurd h0 q
  · exact q
set_option maxRecDepth 100000 in
set_option maxHeartbeats 6400000 in
theorem made_any (g : Nat) (w : World) (ht : Tape w g) (hl : Lets w) (hne : 0 ≠ g) (hg : g < w.heap.size) :
    Calls Tryz.prog 30 #[.pointer (some ⟨g, 0, none⟩)] w (MadP g w) := by
  have hb := (Below.refl w.heap.size w).alloc (Nat.le_refl _) (.cells #[.slice none 0 0, .slice none 0 0] 28)
  have HB := Lib.hid hb
  have HY := Lib.hid (Has.new w 28 #[.slice none 0 0, .slice none 0 0])
  have HS0 := Lib.hid ((TStep.refl ht).below hb)
  have HL0 := Lib.hid (hl.below hb)
  have hsz : (w.alloc (.cells #[.slice none 0 0, .slice none 0 0] 28)).heap.size = w.heap.size + 1 := World.size_alloc _ _
  clear hb ht hl
  go_enter Tryz.func30, Tryz.ntmps30
  go_upto_region 1 with fail
  generalize w.alloc (.cells #[.slice none 0 0, .slice none 0 0] 28) = W at *
  obtain ⟨B, hB⟩ : ∃ B, B = w.heap.size := ⟨_, rfl⟩
  have HBB := Lib.hid hB
  rw [← hB] at HB HY hsz hg ⊢
  clear hB
  go_wp2_with (first | (go_at_call 45; (refine (keys_any g W HS0.out.1 HL0.out hne (by omega)).mono ?_); rintro e w1 ⟨v1, v2, ks, is, rfl, hil, hk6, hnd, hvk, ho1, ho2, hdj, hst⟩; obtain ⟨A1, c1, hv1, _, _, hr1⟩ := ho1.read (fun _ => rfl); obtain ⟨A2, c2, hv2, _, _, hr2⟩ := ho2.read (fun _ => rfl); rw [hil] at hv2; obtain ⟨kn, hkn⟩ : ∃ kn, kn = ks.length := ⟨_, rfl⟩; rw [← hkn] at hv1 hv2 hil hk6; subst hv1 hv2; have HKN := Lib.hid hkn; have HIL := Lib.hid hil; have HND := Lib.hid hnd; have HVK := Lib.hid hvk; have HR1 := Lib.hid hr1; have HR2 := Lib.hid hr2; have HS1 := Lib.hid hst; have hs1 := hst.2.size; have HY1 := Lib.hid (show Has w1 B 28 #[.slice none 0 0, .slice none 0 0] from (hst.2.block B (by omega) (fun e => (by have := Option.some.inj e; omega))).trans HY.out); clear hkn hil hnd hvk ho1 ho2 hr1 hr2 hst hdj) | (go_at_call 11; (refine (next_any g _ w1 HS1.out.1 (by omega)).mono ?_); rintro e w2 ⟨r, r0, r1, rfl, hst⟩; obtain ⟨q, rfl⟩ := Int.eq_ofNat_of_zero_le r0; have hq : q ≤ 2 := (by omega); have HS2 := Lib.hid (HS1.out.trans hst); have hs2 := hst.2.size; have HQ1 := Lib.hid (RdR.low (RdR.step HR1.out (by omega) hst) (Nat.zero_le _)); have HQ2 := Lib.hid (RdR.low (RdR.step HR2.out (by omega) hst) (Nat.zero_le _)); have HY2 := Lib.hid (show Has w2 B 28 #[.slice none 0 0, .slice none 0 0] from (hst.2.block B (by omega) (fun e => (by have := Option.some.inj e; omega))).trans HY1.out); have hwq : IntKind.i64.wrap (2 + (q : Int)) = ((q + 2 : Nat) : Int) := (by rw [show ((q + 2 : Nat) : Int) = 2 + (q : Int) by omega]; exact IntWalk.i64_in _ (by omega)); clear hst r1 r0; have HOK : Hid (NwOk ks (q + 2)) := Lib.hid ⟨by rw [← HKN.out]; omega, by omega, by omega, HVK.out, HND.out⟩; have HE0 : Hid (newE ks is ((q + 2 : Nat) : Int) = 0) := (Lib.hid (by unfold newE; rw [if_neg (by rw [← HKN.out]; omega), if_neg (by omega), if_neg (fun z => z.elim (fun z => z (by rw [HIL.out, ← HKN.out])) (fun z => z HVK.out)), if_neg (fun z => z HND.out)]))) | (go_at_call 72; (refine (new_any A1 A2 ks is kn kn c1 c2 ((q + 2 : Nat) : Int) w2 HKN.out.symm HIL.out HQ1.out HQ2.out (by omega) (by omega)).mono ?_); intro e w3 h3; obtain ⟨G1, G2, d1, d2, rfl, hr, hb3⟩ := h3.ok HE0.out; have HLA := Lib.hid (HoL.newF (d1 := d1) (d2 := d2) (t := 28) (n := kn + 2) (m := q + 2) (RdL.low hr (by omega : B + 1 ≤ w2.heap.size)) (led_new HOK.out (selV is)).1 (by have := hb3.size; omega) (by rw [newV_len, ← HKN.out]) (by simp [newV])); have hba := (Below.refl w3.heap.size w3).alloc (Nat.le_refl _) (.cells #[.slice (some ⟨G1, 0, none⟩) (kn + 2) d1, .slice (some ⟨G2, 0, none⟩) (q + 2) d2] 28); have HT3 := Lib.hid ((HS2.out.below hb3).below hba); have HB3 := Lib.hid (hb3.trans (hba.mono hb3.size)); have hs3 := hb3.size; clear hr hb3 h3 hba) | (go_at_call 73; (refine (rnew_any A1 A2 ks is kn kn c1 c2 ((q + 2 : Nat) : Int) _ HKN.out.symm HIL.out (RdR.below HQ1.out HB3.out) (RdR.below HQ2.out HB3.out) (by omega) (by omega)).mono ?_); intro e w4 h4; obtain ⟨J1, J2, e1, e2, rfl, hr, hb4⟩ := h4.ok HE0.out; have hx4 := hb4.size; rw [World.size_alloc] at hx4; have HLA4 := Lib.hid (HLA.out.below hb4); have HLB := Lib.hid (HoL.newF (d1 := e1) (d2 := e2) (t := 28) (n := kn + 2) (m := q + 2) (RdL.low hr (by rw [World.size_alloc]; omega : B + 1 ≤ _)) (led_new HOK.out (selV is)).1 (by omega) (by rw [newV_len, ← HKN.out]) (by simp [newV])); have hba := (Below.refl w4.heap.size w4).alloc (Nat.le_refl _) (.cells #[.slice (some ⟨J1, 0, none⟩) (kn + 2) e1, .slice (some ⟨J2, 0, none⟩) (q + 2) e2] 28); have HT4 := Lib.hid ((HT3.out.below hb4).below hba); have HLA5 := Lib.hid (HLA4.out.below hba); have HY4 := Lib.hid (((HY2.out.below HB3.out).below hb4).below hba); clear hr hb4 h4 hba))
  have hbx := HB.out.size
  have hC1 : B < w3.heap.size := by have := hs3; have := hs2; have := hs1; omega
  have hC2 : B < w4.heap.size := by omega
  generalize w4.alloc (.cells #[.slice (some ⟨J1, 0, none⟩) (kn + 2) e1, .slice (some ⟨J2, 0, none⟩) (q + 2) e2] 28) = V at *
  obtain ⟨C1, hc1⟩ : ∃ C1, C1 = w3.heap.size := ⟨_, rfl⟩
  obtain ⟨C2, hc2⟩ : ∃ C2, C2 = w4.heap.size := ⟨_, rfl⟩
  rw [← hc1] at HLA5 hC1 ⊢
  rw [← hc2] at HLB hC2 ⊢
  have a0 := HLA5.out.x0
  have a1 := HLA5.out.x1
  have b0 := HLB.out.x0
  have b1 := HLB.out.x1
  have y0 := HY4.out.cell 0
  have y1 := HY4.out.cell 1
  have z0 := HY4.out.frozen 0
  have z1 := HY4.out.frozen 1
  have n1 : ¬ B = C1 := by omega
  have n2 : ¬ B = C2 := by omega
  have n3 : ¬ C1 = B := by omega
  have n4 : ¬ C2 = B := by omega
  have hl1 := rd_loF HLA5.out.rd (led_new HOK.out (selV is)).1
  have hl2 := rd_loF HLB.out.rd (led_new HOK.out (selV is)).1
  have HLA6 := HLA5
  have g1B : ¬ B = G1 := by omega
  have g2B : ¬ B = G2 := by omega
  have j1B : ¬ B = J1 := by omega
  have j2B : ¬ B = J2 := by omega
  have HFR : Hid (Fresh (newV ks (q + 2) (selV is)) (kn + 2) (q + 2)) := Lib.hid (by rw [HKN.out]; exact fresh_new HOK.out _ (by rw [← HKN.out]; exact hk6) (by omega) (by omega))
  have hcs : (newV ks (q + 2) (selV is)).cs.length = kn + 2 := HFR.out.hn
  have hps : (newV ks (q + 2) (selV is)).ps.length = q + 2 := HFR.out.hm
  have HLD : Hid (HoL V.drew C1 (B + 1) (newV ks (q + 2) (selV is)) (kn + 2) (q + 2) G1 G2 d1 d2) := Lib.hid HLA5.out.drew
  have HLE : Hid (HoL V.drew C2 (B + 1) (newV ks (q + 2) (selV is)) (kn + 2) (q + 2) J1 J2 e1 e2) := Lib.hid HLB.out.drew
  have HYD : Hid (Has V.drew B 28 #[.slice none 0 0, .slice none 0 0]) := Lib.hid (HY4.out.below (Below.refl _ V).drew)
  have HLD2 : Hid (HoL ((V.setCell ⟨B, 0, none⟩ (.slice (some ⟨G1, 0, none⟩) (kn + 2) d1)).setCell ⟨B, 1, none⟩ (.slice (some ⟨G2, 0, none⟩) (q + 2) d2)).drew C1 (B + 1) (newV ks (q + 2) (selV is)) (kn + 2) (q + 2) G1 G2 d1 d2) := Lib.hid ((HLA5.out.far (p := ⟨B, 0, none⟩) n1 g1B g2B _).far (p := ⟨B, 1, none⟩) n1 g1B g2B _).drew
  have HLE2 : Hid (HoL ((V.setCell ⟨B, 0, none⟩ (.slice (some ⟨G1, 0, none⟩) (kn + 2) d1)).setCell ⟨B, 1, none⟩ (.slice (some ⟨G2, 0, none⟩) (q + 2) d2)).drew C2 (B + 1) (newV ks (q + 2) (selV is)) (kn + 2) (q + 2) J1 J2 e1 e2) := Lib.hid ((HLB.out.far (p := ⟨B, 0, none⟩) n2 j1B j2B _).far (p := ⟨B, 1, none⟩) n2 j1B j2B _).drew
  have HYD2 : Hid (Has ((V.setCell ⟨B, 0, none⟩ (.slice (some ⟨G1, 0, none⟩) (kn + 2) d1)).setCell ⟨B, 1, none⟩ (.slice (some ⟨G2, 0, none⟩) (q + 2) d2)).drew B 28 #[.slice (some ⟨G1, 0, none⟩) (kn + 2) d1, .slice (some ⟨G2, 0, none⟩) (q + 2) d2]) := Lib.hid (((HY4.out.set_ 0 _).set_ 1 _).below (Below.refl _ _).drew)
  have HSM1 := Lib.hid (rsame_self (some ⟨G1, 0, none⟩) (some ⟨G2, 0, none⟩) (some ⟨J1, 0, none⟩) (some ⟨J2, 0, none⟩) (newV ks (q + 2) (selV is)) (kn + 2) (q + 2) d1 d2 e1 e2 (B + 1) (B + 1) V.drew hcs hps HLD.out.rd HLE.out.rd (by omega) (by omega))
  have HSM2 := Lib.hid (rsame_self (some ⟨G1, 0, none⟩) (some ⟨G2, 0, none⟩) (some ⟨J1, 0, none⟩) (some ⟨J2, 0, none⟩) (newV ks (q + 2) (selV is)) (kn + 2) (q + 2) d1 d2 e1 e2 (B + 1) (B + 1) ((V.setCell ⟨B, 0, none⟩ (.slice (some ⟨G1, 0, none⟩) (kn + 2) d1)).setCell ⟨B, 1, none⟩ (.slice (some ⟨G2, 0, none⟩) (q + 2) d2)).drew hcs hps HLD2.out.rd HLE2.out.rd (by omega) (by omega))
  have hg9 : g < w.heap.size := by rw [← HBB.out]; exact hg
  have HTV := Lib.hid (HS0.out.trans HT4.out)
  have HBV := Lib.hid ((Below.refl V.heap.size V).drew.mono (show w.heap.size ≤ V.heap.size from HTV.out.2.size))
  have HBV2 : Hid (Below w.heap.size V ((V.setCell ⟨B, 0, none⟩ (.slice (some ⟨G1, 0, none⟩) (kn + 2) d1)).setCell ⟨B, 1, none⟩ (.slice (some ⟨G2, 0, none⟩) (q + 2) d2)).drew) := Lib.hid ((((Below.refl V.heap.size V).mono (show w.heap.size ≤ V.heap.size from HTV.out.2.size)).setCell (p := ⟨B, 0, none⟩) (by have := HBB.out; simp only; omega) _).setCell (p := ⟨B, 1, none⟩) (by have := HBB.out; simp only; omega) _).drew
  have c0 := HLD2.out.x0
  have c1' := HLD2.out.x1
  have c2' := HLE2.out.x0
  have c3' := HLE2.out.x1
  clear HLA HLA4 HB3 HT3 HY2 HY1 hx4 hc1 hc2 hcs hps
  have hS0 : (V.drew.cell? ⟨C1, 0, none⟩ = some (.slice (some ⟨G1, 0, none⟩) (kn + 2) d1) ∧ V.drew.cell? ⟨C1, 1, none⟩ = some (.slice (some ⟨G2, 0, none⟩) (q + 2) d2) ∧ V.drew.cell? ⟨C2, 0, none⟩ = some (.slice (some ⟨J1, 0, none⟩) (kn + 2) e1) ∧ V.drew.cell? ⟨C2, 1, none⟩ = some (.slice (some ⟨J2, 0, none⟩) (q + 2) e2)) := ⟨HLD.out.x0, HLD.out.x1, HLE.out.x0, HLE.out.x1⟩
  have hS1 : (V.cell? ⟨C1, 0, none⟩ = some (.slice (some ⟨G1, 0, none⟩) (kn + 2) d1) ∧ V.cell? ⟨C1, 1, none⟩ = some (.slice (some ⟨G2, 0, none⟩) (q + 2) d2) ∧ V.cell? ⟨C2, 0, none⟩ = some (.slice (some ⟨J1, 0, none⟩) (kn + 2) e1) ∧ V.cell? ⟨C2, 1, none⟩ = some (.slice (some ⟨J2, 0, none⟩) (q + 2) e2)) := ⟨a0, a1, b0, b1⟩
  have hS2 : (((V.setCell ⟨B, 0, none⟩ (.slice (some ⟨G1, 0, none⟩) (kn + 2) d1)).setCell ⟨B, 1, none⟩ (.slice (some ⟨G2, 0, none⟩) (q + 2) d2)).drew.cell? ⟨C1, 0, none⟩ = some (.slice (some ⟨G1, 0, none⟩) (kn + 2) d1) ∧ ((V.setCell ⟨B, 0, none⟩ (.slice (some ⟨G1, 0, none⟩) (kn + 2) d1)).setCell ⟨B, 1, none⟩ (.slice (some ⟨G2, 0, none⟩) (q + 2) d2)).drew.cell? ⟨C1, 1, none⟩ = some (.slice (some ⟨G2, 0, none⟩) (q + 2) d2) ∧ ((V.setCell ⟨B, 0, none⟩ (.slice (some ⟨G1, 0, none⟩) (kn + 2) d1)).setCell ⟨B, 1, none⟩ (.slice (some ⟨G2, 0, none⟩) (q + 2) d2)).drew.cell? ⟨C2, 0, none⟩ = some (.slice (some ⟨J1, 0, none⟩) (kn + 2) e1) ∧ ((V.setCell ⟨B, 0, none⟩ (.slice (some ⟨G1, 0, none⟩) (kn + 2) d1)).setCell ⟨B, 1, none⟩ (.slice (some ⟨G2, 0, none⟩) (q + 2) d2)).drew.cell? ⟨C2, 1, none⟩ = some (.slice (some ⟨J2, 0, none⟩) (q + 2) e2)) := ⟨HLD2.out.x0, HLD2.out.x1, HLE2.out.x0, HLE2.out.x1⟩
  have hS3 : (((V.setCell ⟨B, 0, none⟩ (.slice (some ⟨G1, 0, none⟩) (kn + 2) d1)).setCell ⟨B, 1, none⟩ (.slice (some ⟨G2, 0, none⟩) (q + 2) d2)).cell? ⟨C1, 0, none⟩ = some (.slice (some ⟨G1, 0, none⟩) (kn + 2) d1) ∧ ((V.setCell ⟨B, 0, none⟩ (.slice (some ⟨G1, 0, none⟩) (kn + 2) d1)).setCell ⟨B, 1, none⟩ (.slice (some ⟨G2, 0, none⟩) (q + 2) d2)).cell? ⟨C1, 1, none⟩ = some (.slice (some ⟨G2, 0, none⟩) (q + 2) d2) ∧ ((V.setCell ⟨B, 0, none⟩ (.slice (some ⟨G1, 0, none⟩) (kn + 2) d1)).setCell ⟨B, 1, none⟩ (.slice (some ⟨G2, 0, none⟩) (q + 2) d2)).cell? ⟨C2, 0, none⟩ = some (.slice (some ⟨J1, 0, none⟩) (kn + 2) e1) ∧ ((V.setCell ⟨B, 0, none⟩ (.slice (some ⟨G1, 0, none⟩) (kn + 2) d1)).setCell ⟨B, 1, none⟩ (.slice (some ⟨G2, 0, none⟩) (q + 2) d2)).cell? ⟨C2, 1, none⟩ = some (.slice (some ⟨J2, 0, none⟩) (q + 2) e2)) := ⟨HLD2.out.x0, HLD2.out.x1, HLE2.out.x0, HLE2.out.x1⟩
  go_region_held3 (fun w' => (w'.cell? ⟨C1, 0, none⟩ = some (.slice (some ⟨G1, 0, none⟩) (kn + 2) d1) ∧ w'.cell? ⟨C1, 1, none⟩ = some (.slice (some ⟨G2, 0, none⟩) (q + 2) d2) ∧ w'.cell? ⟨C2, 0, none⟩ = some (.slice (some ⟨J1, 0, none⟩) (kn + 2) e1) ∧ w'.cell? ⟨C2, 1, none⟩ = some (.slice (some ⟨J2, 0, none⟩) (q + 2) e2)))
    (first | with_reducible exact hF5 _ _ | with_reducible exact hS5 | with_reducible exact hS2 | with_reducible exact hS3 | with_reducible exact hS0 | with_reducible exact hS1 | with_reducible assumption)
    (first | (go_at_call 16; (with_reducible refine (HSM1.out).mono ?_); rintro e w5 ⟨rfl, hb5⟩; have HB5 := Lib.hid hb5; have a0 := (HLD.out.below hb5).x0; have a1 := (HLD.out.below hb5).x1; have b0 := (HLE.out.below hb5).x0; have b1 := (HLE.out.below hb5).x1; have y0 := (HYD.out.below hb5).cell 0; have y1 := (HYD.out.below hb5).cell 1; have z0 := (HYD.out.below hb5).frozen 0; have z1 := (HYD.out.below hb5).frozen 1; have HC := Lib.hid (twice0 w5 B (.slice (some ⟨G1, 0, none⟩) (kn + 2) d1) (.slice (some ⟨G2, 0, none⟩) (q + 2) d2) _ _ y0 y1); have HRF := Lib.hid (((HLD.out.below hb5).far (p := ⟨B, 0, none⟩) n1 g1B g2B (.slice (some ⟨G1, 0, none⟩) (kn + 2) d1)).far (p := ⟨B, 1, none⟩) n1 g1B g2B (.slice (some ⟨G2, 0, none⟩) (q + 2) d2)).rd; have HTF := Lib.hid (tover HTV.out hg9 ((HBV.out.trans (hb5.mono (Nat.le_trans HTV.out.2.size HBV.out.size))).setCell (p := ⟨B, 0, none⟩) (by have := HBB.out; simp only; omega) (.slice (some ⟨G1, 0, none⟩) (kn + 2) d1) |>.setCell (p := ⟨B, 1, none⟩) (by have := HBB.out; simp only; omega) (.slice (some ⟨G2, 0, none⟩) (q + 2) d2))); have hS5 : (w5.cell? ⟨C1, 0, none⟩ = some (.slice (some ⟨G1, 0, none⟩) (kn + 2) d1) ∧ w5.cell? ⟨C1, 1, none⟩ = some (.slice (some ⟨G2, 0, none⟩) (q + 2) d2) ∧ w5.cell? ⟨C2, 0, none⟩ = some (.slice (some ⟨J1, 0, none⟩) (kn + 2) e1) ∧ w5.cell? ⟨C2, 1, none⟩ = some (.slice (some ⟨J2, 0, none⟩) (q + 2) e2)) := ⟨a0, a1, b0, b1⟩; have hF5 : ∀ u v, (((w5.setCell ⟨B, 0, none⟩ u).setCell ⟨B, 1, none⟩ v).cell? ⟨C1, 0, none⟩ = some (.slice (some ⟨G1, 0, none⟩) (kn + 2) d1) ∧ ((w5.setCell ⟨B, 0, none⟩ u).setCell ⟨B, 1, none⟩ v).cell? ⟨C1, 1, none⟩ = some (.slice (some ⟨G2, 0, none⟩) (q + 2) d2) ∧ ((w5.setCell ⟨B, 0, none⟩ u).setCell ⟨B, 1, none⟩ v).cell? ⟨C2, 0, none⟩ = some (.slice (some ⟨J1, 0, none⟩) (kn + 2) e1) ∧ ((w5.setCell ⟨B, 0, none⟩ u).setCell ⟨B, 1, none⟩ v).cell? ⟨C2, 1, none⟩ = some (.slice (some ⟨J2, 0, none⟩) (q + 2) e2)) := (fun u v => ⟨(((HLD.out.below hb5).far (p := ⟨B, 0, none⟩) n1 g1B g2B u).far (p := ⟨B, 1, none⟩) n1 g1B g2B v).x0, (((HLD.out.below hb5).far (p := ⟨B, 0, none⟩) n1 g1B g2B u).far (p := ⟨B, 1, none⟩) n1 g1B g2B v).x1, (((HLE.out.below hb5).far (p := ⟨B, 0, none⟩) n2 j1B j2B u).far (p := ⟨B, 1, none⟩) n2 j1B j2B v).x0, (((HLE.out.below hb5).far (p := ⟨B, 0, none⟩) n2 j1B j2B u).far (p := ⟨B, 1, none⟩) n2 j1B j2B v).x1⟩); clear hb5) | (go_at_call 16; (with_reducible refine (HSM2.out).mono ?_); rintro e w5 ⟨rfl, hb5⟩; have HB5 := Lib.hid hb5; have a0 := (HLD2.out.below hb5).x0; have a1 := (HLD2.out.below hb5).x1; have b0 := (HLE2.out.below hb5).x0; have b1 := (HLE2.out.below hb5).x1; have y0 := (HYD2.out.below hb5).cell 0; have y1 := (HYD2.out.below hb5).cell 1; have z0 := (HYD2.out.below hb5).frozen 0; have z1 := (HYD2.out.below hb5).frozen 1; have HC := Lib.hid (show w5.cell? ⟨B, 0, none⟩ = some (.slice (some ⟨G1, 0, none⟩) (kn + 2) d1) ∧ w5.cell? ⟨B, 1, none⟩ = some (.slice (some ⟨G2, 0, none⟩) (q + 2) d2) from ⟨y0, y1⟩); have HRF := Lib.hid (HLD2.out.below hb5).rd; have HTF := Lib.hid (tover HTV.out hg9 (HBV2.out.trans (hb5.mono (Nat.le_trans HTV.out.2.size HBV2.out.size)))); have hS5 : (w5.cell? ⟨C1, 0, none⟩ = some (.slice (some ⟨G1, 0, none⟩) (kn + 2) d1) ∧ w5.cell? ⟨C1, 1, none⟩ = some (.slice (some ⟨G2, 0, none⟩) (q + 2) d2) ∧ w5.cell? ⟨C2, 0, none⟩ = some (.slice (some ⟨J1, 0, none⟩) (kn + 2) e1) ∧ w5.cell? ⟨C2, 1, none⟩ = some (.slice (some ⟨J2, 0, none⟩) (q + 2) e2)) := ⟨a0, a1, b0, b1⟩; clear hb5))
  all_goals (go_wp2_with fail; refine bodyPost_ret (results_list1 rfl _ _ B rfl HC.out.1 HC.out.2) rfl ⟨_, _, _, G1, G2, d1, d2, rfl, HFR.out, RdL.low HRF.out (by have := HBB.out; omega), HTF.out⟩)
end Lf
end
section
open Go.RowKit Go.Maps
namespace Lf
open Lk
/-- The lists of the example. -/
def ys : Nat → Ls
  | 0 => yl1 | 1 => yl2 | 2 => yl3 | _ => yl4
theorem ys_step {k : Nat} (h : k < 3) : stpO (ys k) 0 = some (ys (k + 1)) := by
  match k, h with
  | 0, _ => exact y_s1
  | 1, _ => exact y_s2
  | 2, _ => exact y_s3
theorem ys_last {k : Nat} (h : 3 ≤ k) : ys k = yl4 ∧ stpO (ys k) 0 = none := by
  match k, h with
  | k + 3, _ => exact ⟨rfl, rfl⟩
theorem ys_led : ∀ k, Led (ys k)
  | 0 => y_led1
  | 1 => led_step y_led1 (by decide) y_s1
  | 2 => led_step (ys_led 1) (by decide) y_s2
  | _ + 3 => y_led4
theorem ys_len : ∀ k, (ys k).cs.length = 3 ∧ (ys k).ps.length = 1
  | 0 => ⟨rfl, rfl⟩ | 1 => ⟨rfl, rfl⟩ | 2 => ⟨rfl, rfl⟩ | _ + 3 => ⟨rfl, rfl⟩
theorem y_sta : staE yl0 0 1 2 = 0 := by
  unfold staE
  rw [vldB_yes y_led0.1, if_neg (by decide), if_neg (by decide), if_neg (by decide), if_neg (by decide), if_neg (by decide), if_neg (by decide)]
set_option maxRecDepth 100000 in
set_option maxHeartbeats 6400000 in
theorem sane12_any (w : World) : Calls Tryz.prog 41 #[] w (Quiet (.bool true) w) := by
  have hb0 := ((Below.refl w.heap.size w).alloc (Nat.le_refl _) (.cells #[.string kb11] 9)).alloc (by rw [World.size_alloc]; omega) (.cells #[.bool false] 4)
  have HB0 := Lib.hid hb0
  have hNW := new_any (some ⟨w.heap.size, 0, none⟩) (some ⟨w.heap.size + 1, 0, none⟩) [kb11] [false] 1 1 1 1 1 ((w.alloc (.cells #[.string kb11] 9)).alloc (.cells #[.bool false] 4)) rfl rfl (RdR.low ((RdR.new (enc := trow) (e := 9) (fun _ => rfl) w kb11 _ rfl).below ((Below.refl _ _).alloc (Nat.le_refl _) (.cells #[.bool false] 4))) (Nat.zero_le _)) (by have := RdR.low (RdR.new (enc := brow) (e := 4) (fun _ => rfl) (w.alloc (.cells #[.string kb11] 9)) false _ rfl) (Nat.zero_le _); rw [World.size_alloc] at this; exact this) (by omega) (by omega)
  have HNW := Lib.hid hNW
  have HE : Hid (newE [kb11] [false] 1 = 0) := Lib.hid (by
    unfold newE
    rw [if_neg (by decide), if_neg (by decide), if_neg (fun q => q.elim (fun q => q rfl) (fun q => q (fun k hk => by simp at hk; subst hk; rfl))), if_neg (fun q => q (by simp))])
  clear hb0 hNW
  unfold kb11 at HNW HB0
  go_enter Tryz.func41, Tryz.ntmps41
  go_upto_region 1 with fail
  go_wp2_with (first | (go_at_call 72; (refine (HNW.out).mono ?_); rintro e w1 (⟨q, -, -⟩ | ⟨-, G1, G2, d1, d2, rfl, hr, hb⟩); (exact absurd HE.out q); rw [show newV [⟨#[98]⟩] (1 : Int).toNat (selV [false]) = yl0 by rw [sel_false]; exact y_new] at hr; have HB1 := Lib.hid (HB0.out.trans (hb.mono HB0.out.size)); have hs1 := HB1.out.size; have HL1 := Lib.hid (HoL.newF (d1 := d1) (d2 := d2) (t := 28) (n := 3) (m := 1) (RdL.low hr HB0.out.size) y_led0.1 hs1 rfl rfl); clear hr hb) | (go_at_call 31; (refine (start_any (some ⟨G1, 0, none⟩) ⟨G2, 0, none⟩ yl0 0 1 2 3 1 d1 d2 _ rfl rfl (HL1.out.rd.low (Nat.zero_le _)) (by omega) (by omega) (by omega)).mono ?_); rintro e w2 (⟨q, -, -⟩ | ⟨-, J1, J2, e1, e2, rfl, hr, hb⟩); (exact absurd y_sta q); have hr : RdL w2 _ _ _ yl1 := hr; have HB2 := Lib.hid ((HB1.out.alloc hs1 _).trans (hb.mono (by rw [World.size_alloc]; omega))); have HL2 := Lib.hid (HoL.putF (d1 := e1) (d2 := e2) HL1.out hb hr y_led1.1 rfl rfl); have y0 := (HL1.out.below hb).x0; have y1 := (HL1.out.below hb).x1; have z0 := (HL1.out.below hb).fz 0; have z1 := (HL1.out.below hb).fz 1; clear hr hb))
  go_loopw [3, 4] (fun vn vo wr => ∃ k G1 G2 d1 d2 : Nat, vn = .int .i64 (k : Int) ∧ vo = .bool (decide (k < 4)) ∧ k ≤ 4 ∧ HoL wr w1.heap.size w.heap.size (ys k) 3 1 G1 G2 d1 d2 ∧ Below w.heap.size w wr) (fun vn _ _ => 20 - (intOf vn).toNat)
  case atStart => exact ⟨0, _, _, _, _, rfl, rfl, by omega, HL2.out, (HB2.out.setCell (p := ⟨w1.heap.size, 0, none⟩) hs1 _).setCell (p := ⟨w1.heap.size, 1, none⟩) hs1 _⟩
  case round =>
    clear HL1 HL2 HB1 HB2 y0 y1 z0 z1
    obtain ⟨k, J1, J2, e1, e2, rfl, rfl, hk, hl, hb⟩ := hrel
    have y0 := hl.x0
    have y1 := hl.x1
    have HL := Lib.hid hl
    have HBR := Lib.hid hb
    by_cases hlt : k < 4
    · have hd : decide (k < 4) = true := by simpa using hlt
      have h20 : decide ((k : Int) < 20) = true := by simp; omega
      have HSP := Lib.hid (step_any ⟨J1, 0, none⟩ ⟨J2, 0, none⟩ (ys k) 0 3 1 e1 e2 wr hl.hn hl.hm (hl.rd.low (Nat.zero_le _)) (ys_led k).1)
      clear hl hb
      by_cases h8 : k < 3
      · have HS := Lib.hid (ys_step h8)
        have h9 : decide (k + 1 < 4) = true := by simp; omega
        clear hlt
        go_wp2_with (go_at_call 33; (refine (HSP.out).mono ?_); rintro e w3 ⟨K1, K2, f1, f2, rfl, hr, hb3⟩; rw [HS.out] at hr ⊢; have hr : RdL w3 _ _ _ (ys (k + 1)) := hr; have HB3 := Lib.hid (HBR.out.trans (hb3.mono HBR.out.size)); have HL3 := Lib.hid (HoL.putF (d1 := f1) (d2 := f2) HL.out hb3 hr (ys_led (k + 1)).1 (ys_len (k + 1)).1 (ys_len (k + 1)).2); have y0 := (HL.out.below hb3).x0; have y1 := (HL.out.below hb3).x1; have z0 := (HL.out.below hb3).fz 0; have z1 := (HL.out.below hb3).fz 1; clear hr hb3)
        exact ⟨⟨k + 1, _, _, _, _, by go_num, by rw [h9], by omega, HL3.out, (HB3.out.setCell (p := ⟨w1.heap.size, 0, none⟩) hs1 _).setCell (p := ⟨w1.heap.size, 1, none⟩) hs1 _⟩, by simp [intOf]; omega⟩
      · obtain rfl : k = 3 := by omega
        have HS := Lib.hid (ys_last (k := 3) (by omega)).2
        clear hlt
        go_wp2_with (go_at_call 33; (refine (HSP.out).mono ?_); rintro e w3 ⟨K1, K2, f1, f2, rfl, hr, hb3⟩; rw [HS.out] at hr ⊢; have hr : RdL w3 _ _ _ (ys 4) := hr; have HB3 := Lib.hid (HBR.out.trans (hb3.mono HBR.out.size)); have HL3 := Lib.hid (HoL.putF (d1 := f1) (d2 := f2) HL.out hb3 hr (ys_led 4).1 (ys_len 4).1 (ys_len 4).2); have y0 := (HL.out.below hb3).x0; have y1 := (HL.out.below hb3).x1; have z0 := (HL.out.below hb3).fz 0; have z1 := (HL.out.below hb3).fz 1; clear hr hb3)
        exact ⟨⟨4, _, _, _, _, rfl, rfl, by omega, HL3.out, (HB3.out.setCell (p := ⟨w1.heap.size, 0, none⟩) hs1 _).setCell (p := ⟨w1.heap.size, 1, none⟩) hs1 _⟩, by decide⟩
    · obtain rfl : k = 4 := by omega
      have HLX : Hid (HoL wr w1.heap.size w.heap.size yl4 3 1 J1 J2 e1 e2) := Lib.hid HL.out
      have HMB := Lib.hid (Members_any (some ⟨J1, 0, none⟩) ⟨J2, 0, none⟩ yl4 3 1 e1 e2 wr rfl rfl (HLX.out.rd.low (Nat.zero_le _)) (by omega) (by omega) (by omega))
      have HME : Hid ((if vldB yl4 then nat2 (memV yl4) else []) = [(2 : Int)]) := Lib.hid (by rw [vldB_yes y_led4.1, if_pos rfl, y_mem4]; rfl)
      clear hl hb hlt
      go_wp2_with (first | (go_at_call 35; (refine (HMB.out).mono ?_); rintro e w5 ⟨A, q, c, rfl, hq, -, -, hr, hb5⟩; rw [HME.out] at hq hr; obtain rfl : q = 1 := hq.symm; obtain ⟨b5, o5, e5, -, -, t5⟩ := num_at hr (i := 0) (by decide); subst e5; have t5 : w5.cell? ⟨b5, o5, none⟩ = some (.int .i64 2) := t5; have HB5 := Lib.hid (HBR.out.trans (hb5.mono HBR.out.size)); have HL5 := Lib.hid (HLX.out.below hb5); have y0 := HL5.out.x0; have y1 := HL5.out.x1; clear hr hb5 hq) | (go_at_call 37; (refine (check_any (some ⟨J1, 0, none⟩) ⟨J2, 0, none⟩ yl4 3 1 e1 e2 _ rfl rfl (HL5.out.rd.low (Nat.zero_le _)) (by omega) (by omega) (by omega)).mono ?_); intro e w6 h6; obtain ⟨rfl, hb6⟩ := h6.yes y_chk4; have HB6 := Lib.hid (HB5.out.trans (hb6.mono HB5.out.size)); have HL6 := Lib.hid (HL5.out.below hb6); have y0 := HL6.out.x0; have y1 := HL6.out.x1; obtain ⟨b6, o6, e6, -, -, -, -, -, -, -, -, t6⟩ := HL6.out.rd.proc (i := 0) (by decide); (injection e6 with e6); (injection e6 with e7 e8); subst e7 e8; have t6 : w6.cell? ⟨J2, 6, none⟩ = some (.bool true) := t6; clear hb6))
      go_ret
      exact ⟨rfl, HB6.out⟩
end Lf
end
section
open Go.RowKit Go.Maps
namespace Lf
open Lk
end Lf
end
section
open Go.RowKit Go.Maps
namespace Lf
open Lk
end Lf
end
end Go.Proofs.YtmhbloefmknikaaGreatDoor
