/-
  The walk of IdealNested: from whatever numbers it answers true and only makes memory. Conditions: the arguments can be read; 'letters' is as its initialiser lays it.
-/
import Derived.Test.YtiaalbfdlejboaaDoorKmH
import Derived.Test.YtiaalbfdlejboaaDoorLgJ
import Derived.Deep.DeepCutAuto
import Derived.Deep.CutBlock
namespace Go.Proofs.YtiaalbfdlejboaaDoor
open Go.RowKit

theorem lst_in {l : List Nd} (hc : chkV l = 0) {k : Nat} (hk : k ≤ 16) : lstV l (k : Int) = (clsV (srt l) (k : Int)).map (fun c => c.map Nd.id) := if_pos ⟨hc, by simp [lvB]; omega⟩

set_option maxRecDepth 100000 in
set_option maxHeartbeats 1600000 in
theorem nested_walk (A : Option Addr) (n0 cp : Nat) (lv : Int) (w : World) (hL : Lets w) (hnc : n0 ≤ cp) (hc : cp ≤ maxLen) (hN : Nums w w.heap.size A n0) :
    Calls Tryd.prog 8 #[.slice A n0 cp, .int .i64 lv] w (LawP w) := by
  have HSA := Lib.hid sane6_any
  go_enter Tryd.func8, Tryd.ntmps8
  go_wp2_with fail
  refine (new_any A n0 cp _ hnc hc hN).mono ?_
  rintro e w1 ⟨g, hg1, rfl, hTp, hb1⟩
  have hne2 : 0 ≠ g := by have := hL.lt; omega
  have l1 := hL.below hb1
  clear hN hnc hc hL
  go_wp2_with fail
  refine (some_any 9 g w1 (by omega) (by omega) hTp l1 hne2).mono ?_
  rintro e w2 ⟨A2, c2, l, rfl, ho, hl0, hl8, hchk, hst⟩
  have hB2 : Below w.heap.size w w2 := hb1.grown hst.2 hb1.size (fun j e => by have := Option.some.inj e; omega)
  have hgw : g < w1.heap.size := hTp.lt
  obtain ⟨_, _, er, hnd⟩ := ho.read
  injection er with e1 _ e2
  subst e1 e2
  have hA2 : ∀ b o, A2 = some ⟨b, o, none⟩ → b ≠ g := fun b o e => by
    have := (ho.lt b (by rw [e]; rfl)).1
    omega
  have hTp2 := hst.1
  have HCK := Lib.hid hchk
  obtain ⟨n, hn⟩ : ∃ n, n = l.length := ⟨_, rfl⟩
  have hwd : ∀ x ∈ l, x.word < 4294967296 := fun x hx => (wide_of hchk x hx).2
  have HFD := Lib.hid (fun (W : World) (k : Below w2.heap.size w2 W) (id : Int) => find_any A2 l c2 id W ((hnd.below k).more k.size) (by omega))
  have HLS := Lib.hid (fun (W : World) (k : Below w2.heap.size w2 W) (h : Int) => lists_any6 A2 l c2 h W ((hnd.below k).more k.size) hwd)
  have HHT := Lib.hid (fun (W : World) (k : Below w2.heap.size w2 W) => height_any A2 l c2 W ((hnd.below k).more k.size) hwd)
  unfold FndP at HFD
  rw [← hn] at hl8 HFD HLS HHT ⊢
  have HN := Lib.hid hn
  have HB2 := Lib.hid hB2
  clear hst l1 hTp hb1 ho hchk hl0 hn hwd hnd hB2 hne2 hTp2 hgw hA2
  go_wp2_with fail
  refine (mod_any lv 16 w2 (by omega) (by omega)).mono ?_
  rintro e w3 ⟨rfl, rfl⟩
  obtain ⟨k, hk, hk16⟩ : ∃ k : Nat, lv % 16 = (k : Int) ∧ k < 16 := ⟨(lv % 16).toNat, by omega, by omega⟩
  rw [hk]
  clear hk
  obtain ⟨cs, hcs⟩ : ∃ cs, cs = clsV (srt l) (k : Int) := ⟨_, rfl⟩
  have hlow : lstV l (k : Int) = cs.map (fun c => c.map Nd.id) := by rw [hcs]; exact lst_in HCK.out (by omega)
  have hst := cls_step (srt l) hk16
  have hhl := height_level HCK.out hk16
  have hlen2 : (lstV l ((k : Int) + 1)).length = (clsV (srt l) ((k : Int) + 1)).length := by
    have := lst_in HCK.out (k := k + 1) (by omega)
    rw [show ((k + 1 : Nat) : Int) = (k : Int) + 1 by omega] at this
    rw [this, List.length_map]
  have hhg := hgtV_le l
  have hcl : cs.length ≤ n := by
    have := clsV_len_le (srt l) (k : Int)
    rw [(srt_srt l).1.length_eq] at this
    rw [hcs, HN.out]
    exact this
  have HSUM : Hid ((cs.map List.length).sum = n) := Lib.hid (by rw [hcs, cls_sum (by omega), (srt_srt l).1.length_eq, HN.out])
  have HAS : Hid (∀ c ∈ cs, Asc c ∧ ∀ x ∈ c, x ∈ l) := Lib.hid (by
    rw [hcs]
    exact fun c hc => ⟨cls_asc HCK.out (by omega) hc, fun x hx => cls_mem HCK.out (by omega) hc hx⟩)
  have HFS := Lib.hid (fun (x : Nd) (hx : x ∈ l) => fnd_self (chkV_zero.1 HCK.out).2.2 hx)
  rw [← hlen2, ← hcs] at hst
  rw [← hcs, ← HN.out] at hhl
  have H1 := Lib.hid (HLS.out w2 (Below.refl _ _) (k : Int))
  have H2 := Lib.hid (fun (W : World) (q : Below w2.heap.size w2 W) => HLS.out W q ((k : Int) + 1))
  unfold LstP at H1 H2
  rw [hlow] at H1
  generalize (lstV l ((k : Int) + 1)) = high at *
  generalize hgtV l = m at *
  obtain ⟨N, hNN⟩ : ∃ N, N = (cs.map (fun c => c.map Nd.id)).length := ⟨_, rfl⟩
  have HNL : Hid (N = cs.length) := Lib.hid (by rw [hNN, List.length_map])
  obtain ⟨N2, hN2⟩ : ∃ N2, N2 = high.length := ⟨_, rfl⟩
  rw [← hNN] at H1
  rw [← hN2] at H2 hst
  rw [← HNL.out] at hst hhl hcl
  have HST := Lib.hid hst
  have HHL := Lib.hid hhl
  have kz0 : (0 : Int) ≤ (k : Int) := by omega
  have kz1 : (k : Int) < 16 := by omega
  clear hcs hlow hlen2 hNN hN2 hst hhl HLS
  go_wp2_with fail
  refine (H1.out).mono ?_
  rintro e w4 ⟨A4, c4, rfl, hr4, hb4⟩
  have HR4 := Lib.hid hr4
  have HB4 := Lib.hid hb4
  clear hr4 hb4 H1
  go_wp2_with fail
  refine (H2.out w4 HB4.out).mono ?_
  rintro e w5 ⟨A5, c5, rfl, _, hb5⟩
  have HR5 := Lib.hid ((HR4.out.below hb5).more hb5.size)
  have HB5 := Lib.hid (HB4.out.trans (hb5.mono HB4.out.size))
  clear hb5 HR4 HB4 H2
  go_wp2_with fail
  go_loopw [10, 11] (fun vs vi wr => ∃ i s : Nat, vi = .int .i64 (i : Int) ∧ vs = .int .i64 (s : Int) ∧ i ≤ N ∧ s ≤ n ∧ Hid (s = ((cs.take i).map List.length).sum) ∧ Below w5.heap.size w5 wr) (fun _ vi _ => N - (intOf vi).toNat)
  case atStart => exact ⟨0, 0, rfl, rfl, by omega, by omega, Lib.hid rfl, Below.refl _ _⟩
  case round =>
    obtain ⟨i, s, rfl, rfl, hi, hs, HS, hB⟩ := hrel
    by_cases hlt : i < N
    · have i2 : i < (cs.map (fun c => c.map Nd.id)).length := by rw [List.length_map, ← HNL.out]; exact hlt
      have i3 : i < cs.length := by rw [← HNL.out]; exact hlt
      obtain ⟨b, o, Ai, ci, eA, hb, f1, hI⟩ := HR5.out.at_ i2
      subst eA
      have hrow : (cs.map (fun c => c.map Nd.id))[i] = cs[i].map Nd.id := by simp
      rw [hrow] at f1 hI
      have HAC := Lib.hid (HAS.out _ (List.getElem_mem i3))
      have HSN : Hid (((cs.take (i + 1)).map List.length).sum = ((cs.take i).map List.length).sum + cs[i].length) := Lib.hid (by
        rw [List.take_succ_eq_append_getElem i3, List.map_append, List.sum_append]
        simp)
      have HLE : Hid (((cs.take (i + 1)).map List.length).sum ≤ n) := Lib.hid (by
        rw [← HSUM.out]
        conv => rhs; rw [← List.take_append_drop (i + 1) cs, List.map_append, List.sum_append]
        omega)
      generalize cs[i] = cc at *
      obtain ⟨q, hq⟩ : ∃ q, q = cc.length := ⟨_, rfl⟩
      rw [List.length_map, ← hq] at f1
      have hsq : s + q ≤ n := by have := HLE.out; rw [HSN.out, ← HS.out, ← hq] at this; exact this
      have HQ := Lib.hid hq
      have HF1 : Hid (∀ W, Below w5.heap.size w5 W → W.cell? ⟨b, o + i, none⟩ = some (.slice Ai q ci)) := Lib.hid fun W k => (k.cell (p := ⟨b, o + i, none⟩) hb).trans f1
      have HII := Lib.hid hI
      have f1' := HF1.out wr hB
      have i0 : (0 : Int) ≤ (i : Int) := by omega
      have i1 : (i : Int) < (N : Int) := by omega
      have HBW := Lib.hid hB
      clear hrow hI hq f1 hb hB
      go_wp2_with fail
      go_loopw [12] (fun vj wr => ∃ t : Nat, vj = .int .i64 ((t : Int) + 1) ∧ (t = 0 ∨ t < q) ∧ Below w5.heap.size w5 wr) (fun vj _ => q + 1 - (intOf vj).toNat)
      case atStart => exact ⟨0, rfl, .inl rfl, HBW.out⟩
      case round =>
        clear f1'
        obtain ⟨t, rfl, ht, hB⟩ := hrel
        have f1' := HF1.out wr hB
        by_cases hltt : t + 1 < q
        · have t1 : t < cc.length := by rw [← HQ.out]; omega
          have t2 : t + 1 < cc.length := by rw [← HQ.out]; exact hltt
          obtain ⟨b2, o2, eI, hb2, _, g1⟩ := HII.out.at_ (i := t) (by rw [List.length_map]; exact t1)
          obtain ⟨_, _, eI2, _, _, g2⟩ := HII.out.at_ (i := t + 1) (by rw [List.length_map]; exact t2)
          subst eI
          injection eI2 with eI2
          injection eI2 with e1 e2
          subst e1 e2
          rw [List.getElem_map] at g1 g2
          have hm1 := HFS.out _ (HAC.out.2 _ (List.getElem_mem t1))
          have hm2 := HFS.out _ (HAC.out.2 _ (List.getElem_mem t2))
          have hk := asc_at HAC.out.1 (Nat.lt_succ_self t) t2
          replace g1 := (hB.cell (p := ⟨b2, o2 + t, none⟩) hb2).trans g1
          have HG2 : Hid (∀ W, Below w5.heap.size w5 W → W.cell? ⟨b2, o2 + (t + 1), none⟩ = some (.int .i64 cc[t + 1].id)) := Lib.hid fun W k => (k.cell (p := ⟨b2, o2 + (t + 1), none⟩) hb2).trans g2
          generalize cc[t] = a at *
          generalize cc[t + 1] = c at *
          have BB := HB5.out.trans (hB.mono HB5.out.size)
          have HF2 := Lib.hid (HFD.out wr BB a.id)
          have HF3 := Lib.hid (fun (W : World) (k : Below w2.heap.size w2 W) => HFD.out W k c.id)
          rw [hm1] at HF2
          rw [hm2] at HF3
          generalize decide (plc l a.id < n) = u1 at *
          generalize decide (plc l c.id < n) = u2 at *
          obtain ⟨ai, ak, aw⟩ := a
          obtain ⟨di, dk, dw⟩ := c
          have t0 : (0 : Int) ≤ (t : Int) := by omega
          have tt1 : (t : Int) < (q : Int) := by omega
          have tt2 : (t : Int) + 1 < (q : Int) := by omega
          have tt3 : (t : Int) ≤ 1000 := by omega
          have HBB := Lib.hid BB
          have HBR := Lib.hid hB
          clear hm1 hm2 hb2 g2 BB hB
          go_wp2_with fail
          refine (HF2.out).mono ?_
          rintro e w6 ⟨rfl, hb6⟩
          have hk6 := hb6.trans (((Below.refl w6.heap.size w6).alloc (Nat.le_refl _) (.cells #[.int .i64 ai, .string ak, .int .u32 (aw : Int)] 64)).mono hb6.size)
          have HX6 := Lib.hid (Has.new w6 64 #[.int .i64 ai, .string ak, .int .u32 (aw : Int)])
          have HB6 := Lib.hid (HBB.out.trans (hk6.mono HBB.out.size))
          have HC6 := Lib.hid (HBR.out.trans (hk6.mono HBR.out.size))
          have f6 := HF1.out _ HC6.out
          have g6 := HG2.out _ HC6.out
          clear hb6 hk6 HF2 g1
          go_wp2_with fail
          refine (HF3.out _ HB6.out).mono ?_
          rintro e w7 ⟨rfl, hb7⟩
          have hk7 := hb7.trans (((Below.refl w7.heap.size w7).alloc (Nat.le_refl _) (.cells #[.int .i64 di, .string dk, .int .u32 (dw : Int)] 64)).mono hb7.size)
          have x1 := (HX6.out.below hk7).cell 1
          have y1 := (Has.new w7 64 #[.int .i64 di, .string dk, .int .u32 (dw : Int)]).cell 1
          have HC7 := Lib.hid (HC6.out.trans (hk7.mono HC6.out.size))
          have tl : Op.bytesLess ak.toList dk.toList = true := hk
          clear hb7 hk7 HF3 f6 g6
          go_wp2_with fail
          exact ⟨⟨t + 1, by go_num, .inr (by omega), HC7.out⟩, by simp [intOf]; omega⟩
        · have tz : ¬ ((t : Int) + 1 < (q : Int)) := by omega
          go_wp2_with fail
          exact ⟨⟨i + 1, s + q, by go_num, by go_num, hlt, hsq, Lib.hid (by rw [HSN.out, ← HS.out, ← HQ.out]), hB⟩, by simp [intOf]; omega⟩
    · have ei : i = N := by omega
      subst ei
      have hsn : s = n := by rw [HS.out, List.take_of_length_le (by rw [← HNL.out]; exact Nat.le_refl _)]; exact HSUM.out
      subst hsn
      have BB := HB5.out.trans (hB.mono HB5.out.size)
      have HH := Lib.hid (HHT.out wr BB)
      have HBB := Lib.hid BB
      have hst := HST.out
      have s1 : ¬ ((N2 : Int) < (i : Int)) := by omega
      have s2 : ¬ (2 * (i : Int) < (N2 : Int)) := by omega
      have s3 : ¬ ((m : Int) < 0) := by omega
      have s4 : ¬ (16 < (m : Int)) := by omega
      have s5 : ((s : Int) != (s : Int)) = false := by simp
      have iz0 : (0 : Int) ≤ (i : Int) := by omega
      have iz1 : (i : Int) ≤ 9 := by omega
      clear BB hB hst
      go_wp2_with fail
      refine (HH.out).mono ?_
      rintro e w8 ⟨rfl, hb8⟩
      have HB8 := Lib.hid (HB2.out.trans ((HBB.out.trans (hb8.mono HBB.out.size)).mono HB2.out.size))
      have HS9 := Lib.hid (HSA.out w8)
      clear hb8 HH HBB
      by_cases hkm : k < m
      · have q1 : (k : Int) < (m : Int) := by omega
        have q2 : ¬ ((m : Int) ≤ (k : Int)) := by omega
        have q3 : (i : Int) < (s : Int) := by have := HHL.out.1 hkm; omega
        go_wp2_with fail
        refine (HS9.out).mono ?_
        rintro e w9 ⟨rfl, hb9⟩
        go_wp2_with fail
        go_ret
        exact ⟨rfl, HB8.out.trans (hb9.mono HB8.out.size)⟩
      · have q1 : ¬ (k : Int) < (m : Int) := by omega
        have q2 : ((m : Int) ≤ (k : Int)) := by omega
        have q4 : i = s := HHL.out.2 (by omega)
        have q3 : ((i : Int) == (s : Int)) = true := by simp [q4]
        clear q4
        go_wp2_with fail
        refine (HS9.out).mono ?_
        rintro e w9 ⟨rfl, hb9⟩
        go_wp2_with fail
        go_ret
        exact ⟨rfl, HB8.out.trans (hb9.mono HB8.out.size)⟩
end Go.Proofs.YtiaalbfdlejboaaDoor
