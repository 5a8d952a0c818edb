/-
  Neighbours of the reference of chapter 6. Condition: the nodes can be read.
-/
import Derived.Test.YtmhimkojegkalaaDoorKmJ
import Derived.Deep.DeepCutAuto
import Derived.Deep.CutBlock
namespace Go.Proofs.YtmhimkojegkalaaDoor
open Go.RowKit

theorem thr_no {l : List Nd} {id h : Int} {w w' : World} {e : Ending} (hn : nbB l id h = false) (k : ThrP l id h w e w') : e = .returned (.tuple #[.slice none 0 0, .int .i64 0, .bool false]) ∧ Below w.heap.size w w' := by
  rcases k with ⟨_, k⟩ | ⟨k, _⟩
  · exact k
  · rw [hn] at k
    cases k
theorem thr_yes {l : List Nd} {id h : Int} {w w' : World} {e : Ending} (hn : nbB l id h = true) {x : Nd} (hx : fndV l id = x) (k : ThrP l id h w e w') : ∃ A c, e = .returned (.tuple #[.slice A (grp (srt l) h x.word).length c, .int .i64 (plc (grp (srt l) h x.word) id : Int), .bool true]) ∧ Nds w' w'.heap.size A (grp (srt l) h x.word) ∧ Below w.heap.size w w' := by
  rcases k with ⟨k, _⟩ | ⟨_, k⟩
  · rw [hn] at k
    cases k
  · rw [hx] at k
    exact k
set_option maxRecDepth 100000 in
set_option maxHeartbeats 1600000 in
theorem rneighbours_any (A : Option Addr) (l : List Nd) (c : Nat) (id h : Int) (w : World) (hl : Nds w w.heap.size A l) (hn : l.length ≤ 1000) (hwd : ∀ x ∈ l, x.word < 4294967296) (hi : -9223372036854775808 ≤ id ∧ id ≤ 9223372036854775807) :
    Calls Tryd.prog 70 #[.slice A l.length c, .int .i64 id, .int .i64 h] w (NbP l id h w) := by
  unfold NbP
  have hb0 := (Below.refl w.heap.size w).alloc (Nat.le_refl _) (.cells #[.int .i64 0, .int .i64 0] 61)
  have HX0 := Lib.hid (Has.new w 61 #[.int .i64 0, .int .i64 0])
  have HT := Lib.hid (through_any A l c id h _ ((hl.below hb0).more hb0.size) hn hwd hi)
  have HB0 := Lib.hid hb0
  cases hnb : nbB l id h with
  | false =>
    have HV2 := Lib.hid (nb_no hnb)
    have HT2 := Lib.hid (HT.out.mono fun e w' k => thr_no hnb k)
    clear hl hwd hi hb0 HT
    go_enter Tryd.func70, Tryd.ntmps70
    go_wp2_with fail
    refine (HT2.out).mono ?_
    rintro e w1 ⟨rfl, hb1⟩
    have X1 := HX0.out.below hb1
    have c0 := X1.cell 0
    have c1 := X1.cell 1
    have f0 := fun o => X1.frozen o
    have HB1 := Lib.hid (HB0.out.trans (hb1.mono HB0.out.size))
    clear hb1 HX0 HB0 X1 HT2
    go_wp2_with fail
    refine bodyPost_ret (v := .tuple #[.agg #[.int .i64 0, .int .i64 0], .bool false]) (by simp [results, Tryd.results70, go_sem, *]) rfl ⟨by rw [HV2.out], ?_⟩
    exact ((HB1.out.setCell (Nat.le_refl _) _).setCell (Nat.le_refl _) _)
  | true =>
    have hfd : plc l id < l.length := by
      unfold nbB at hnb
      simp at hnb
      exact hnb.2.2
    have hchk : chkV l = 0 := by
      unfold nbB at hnb
      simp at hnb
      exact hnb.1
    have h16 : h ≤ 16 := by
      unfold nbB lvB at hnb
      simp at hnb
      exact hnb.2.1.2
    obtain ⟨x, hx, hxi⟩ := plc_found.1 hfd
    have hfx : fndV l id = x := by rw [← hxi]; exact fnd_self (chkV_zero.1 hchk).2.2 hx
    have hnl : nbL l id h = lkAt (grp (srt l) h x.word) (plc (grp (srt l) h x.word) id) := by
      unfold nbL lnk
      rw [if_pos hnb, hfx, hxi]
    have hpl : plc (grp (srt l) h x.word) id < (grp (srt l) h x.word).length := by
      rw [← hxi]
      exact plc_mem (grp_self h16 (srt_mem.2 hx))
    have hgl : (grp (srt l) h x.word).length ≤ 64 := Nat.le_trans (grp_len _ _ _) (srt_le hchk)
    have HT2 := Lib.hid (HT.out.mono fun e w' k => thr_yes hnb hfx k)
    rw [hnl]
    generalize grp (srt l) h x.word = gr at *
    generalize plc gr id = p at *
    have HIM : Hid (∀ hp : 0 < p, idAt gr (p - 1) = (gr[p - 1]'(by omega)).id) := Lib.hid fun hp => idAt_lt (by omega)
    have HIP : Hid (∀ hp : p + 1 < gr.length, idAt gr (p + 1) = gr[p + 1].id) := Lib.hid fun hp => idAt_lt hp
    have HIZ : Hid (¬ p + 1 < gr.length → idAt gr (p + 1) = 0) := Lib.hid fun hp => idAt_ge (by omega)
    have HLK : Hid (lkAt gr p = ⟨if p = 0 then 0 else idAt gr (p - 1), idAt gr (p + 1)⟩) := Lib.hid rfl
    obtain ⟨q, hq⟩ : ∃ q, q = gr.length := ⟨_, rfl⟩
    have HQ := Lib.hid hq
    rw [← hq] at hpl hgl HT2
    obtain ⟨Y, hY⟩ : ∃ Y, Y = lkAt gr p := ⟨_, rfl⟩
    have HY := Lib.hid hY
    rw [← hY]
    obtain ⟨yl, yr⟩ := Y
    clear hl hwd hi hb0 HT hnb hfd hchk h16 hx hxi hfx hnl hq hY
    go_enter Tryd.func70, Tryd.ntmps70
    go_wp2_with fail
    refine (HT2.out).mono ?_
    rintro e w1 ⟨A1, cA, rfl, hr1, hb1⟩
    have hk := (Below.refl w1.heap.size w1).alloc (Nat.le_refl _) (.cells #[.int .i64 0, .int .i64 0] 61)
    have hX1 := HX0.out.below hb1
    have HX2 := Lib.hid (hX1.alloc (.cells #[.int .i64 0, .int .i64 0] 61))
    have HY2 := Lib.hid (Has.new w1 61 #[.int .i64 0, .int .i64 0])
    have HB1 := Lib.hid (HB0.out.trans (hb1.mono HB0.out.size))
    have hXG : w.heap.size < w1.heap.size := hX1.lt
    obtain ⟨b, o, eA, hbl, _⟩ := hr1.at_ (i := p) (by rw [← HQ.out]; exact hpl)
    subst eA
    have HGR : Hid (∀ (i : Nat) (hi : i < gr.length), (w1.alloc (.cells #[.int .i64 0, .int .i64 0] 61)).cell? ⟨b, o + i * 3, none⟩ = some (.int .i64 gr[i].id)) := Lib.hid (fun i hi => by
      obtain ⟨b2, o2, eA, hb2, k, _⟩ := (hr1.below hk).at_ hi
      injection eA with eA
      injection eA with e1 e2
      subst e1 e2
      exact k)
    have hbG : b ≠ w1.heap.size := by omega
    clear hb1 hX1 HT2 HX0 HB0 hr1 hk
    go_upto_region 5 with fail
    have HB2 := Lib.hid (HB1.out.alloc HB1.out.size (.cells #[.int .i64 0, .int .i64 0] 61))
    generalize w1.alloc (.cells #[.int .i64 0, .int .i64 0] 61) = w2 at *
    generalize w1.heap.size = G at *
    have HEND : Hid (∀ (W : World) (u v : Value), Below w.heap.size w W → Below w.heap.size w ((W.setCell ⟨w.heap.size, 0, none⟩ u).setCell ⟨w.heap.size, 1, none⟩ v)) := Lib.hid fun W u v h => (h.setCell (p := ⟨w.heap.size, 0, none⟩) (Nat.le_refl _) u).setCell (p := ⟨w.heap.size, 1, none⟩) (Nat.le_refl _) v
    have hXne : w.heap.size ≠ G := by omega
    have hXle : w.heap.size ≤ G := by omega
    have q1 : (q : Int) ≤ 64 := by omega
    have HS : Hid (∀ (W : World) (a c : Int) (i : Nat) (v : Int), Has W w.heap.size 61 #[.int .i64 0, .int .i64 0] → Has W G 61 #[.int .i64 a, .int .i64 c] → (∀ (i : Nat) (hi : i < gr.length), W.cell? ⟨b, o + i * 3, none⟩ = some (.int .i64 gr[i].id)) → Below w.heap.size w W →
        Has (W.setCell ⟨G, i, none⟩ (.int .i64 v)) w.heap.size 61 #[.int .i64 0, .int .i64 0] ∧ Has (W.setCell ⟨G, i, none⟩ (.int .i64 v)) G 61 ((#[.int .i64 a, .int .i64 c] : Array Value).setIfInBounds i (.int .i64 v)) ∧ (∀ (j : Nat) (hj : j < gr.length), (W.setCell ⟨G, i, none⟩ (.int .i64 v)).cell? ⟨b, o + j * 3, none⟩ = some (.int .i64 gr[j].id)) ∧ Below w.heap.size w (W.setCell ⟨G, i, none⟩ (.int .i64 v))) := Lib.hid fun W a c i v k1 k2 k3 k4 =>
      ⟨k1.far (p := ⟨G, i, none⟩) hXne _, k2.set_ i _, fun j hj => (World.cell?_setCell_other W _ _ _ (fun e => hbG (congrArg Addr.block e).symm)).trans (k3 j hj), k4.setCell (p := ⟨G, i, none⟩) hXle _⟩
    have HYL : Hid (yl = (if p = 0 then 0 else idAt gr (p - 1)) ∧ yr = idAt gr (p + 1)) := Lib.hid (by
      have := HY.out
      rw [HLK.out] at this
      injection this with e1 e2
      exact ⟨e1, e2⟩)
    clear HLK HY
    obtain ⟨w3, hw3⟩ : ∃ w3, w3 = (if p = 0 then w2 else w2.setCell ⟨G, 0, none⟩ (.int .i64 yl)) := ⟨_, rfl⟩
    have h3 : Has w3 w.heap.size 61 #[.int .i64 0, .int .i64 0] ∧ Has w3 G 61 #[.int .i64 yl, .int .i64 0] ∧ (∀ (j : Nat) (hj : j < gr.length), w3.cell? ⟨b, o + j * 3, none⟩ = some (.int .i64 gr[j].id)) ∧ Below w.heap.size w w3 := by
      rw [hw3]
      by_cases e : p = 0
      · rw [if_pos e, show yl = 0 by rw [HYL.out.1, if_pos e]]
        exact ⟨HX2.out, HY2.out, HGR.out, HB2.out⟩
      · rw [if_neg e]
        exact HS.out w2 0 0 0 yl HX2.out HY2.out HGR.out HB2.out
    have H3 := Lib.hid h3
    have HW3 := Lib.hid hw3
    clear h3 hw3
    go_upto_if 25 with fail
    go_cut [11] (fun s wx => s = .pointer (some ⟨G, 0, none⟩) ∧ wx = w3)
    case first =>
      by_cases hp0 : p = 0
      · have e3 : w3 = w2 := by rw [HW3.out, if_pos hp0]
        have z0 : ¬ ((0 : Int) < (p : Int)) := by omega
        have HE3 := Lib.hid e3
        clear e3 hp0
        go_wp2_with fail
        go_meet
        exact ⟨rfl, HE3.out.symm⟩
      · have e3 : w3 = w2.setCell ⟨G, 0, none⟩ (.int .i64 yl) := by rw [HW3.out, if_neg hp0]
        obtain ⟨p', rfl⟩ : ∃ p', p = p' + 1 := ⟨p - 1, by omega⟩
        have hpg : p' < gr.length := by rw [← HQ.out]; omega
        have g0 := HGR.out p' hpg
        have ey : gr[p'].id = yl := by rw [HYL.out.1, if_neg hp0]; exact (idAt_lt hpg).symm
        rw [ey] at g0
        have y0 := HY2.out.cell 0
        have fy := fun o => HY2.out.frozen o
        have HE3 := Lib.hid e3
        rw [show ((p' + 1 : Nat) : Int) = (p' : Int) + 1 by omega]
        have z0 : (0 : Int) < (p' : Int) + 1 := by omega
        have z1 : (p' : Int) < (q : Int) := by omega
        have z2 : (0 : Int) ≤ (p' : Int) := by omega
        have e1 : IntKind.i64.wrap ((p' : Int) + 1 - 1) = (p' : Int) := by rw [Int.add_sub_cancel]; exact IntWalk.i64_in _ (by omega)
        clear ey e3 hpg hp0
        go_wp2_with fail
        go_meet
        exact ⟨rfl, HE3.out.symm⟩
    case rest =>
      obtain ⟨rfl, rfl⟩ := hcut
      obtain ⟨k1, k2, k3, k4⟩ := H3.out
      have p0 : (0 : Int) ≤ (p : Int) := by omega
      by_cases hp1 : p + 1 < q
      · have hpg : p + 1 < gr.length := by rw [← HQ.out]; exact hp1
        have g1 := k3 (p + 1) hpg
        have ey : gr[p + 1].id = yr := by rw [HYL.out.2]; exact (HIP.out hpg).symm
        rw [ey] at g1
        obtain ⟨m1, m2, m3, m4⟩ := HS.out wc yl 0 1 yr k1 k2 k3 k4
        have y1 := k2.cell 1
        have fy := fun o => k2.frozen o
        have c0 := m1.cell 0
        have c1 := m1.cell 1
        have fx := fun o => m1.frozen o
        have d0 := m2.cell 0
        have d1 := m2.cell 1
        have HM4 := Lib.hid m4
        have z1 : (p : Int) + 1 < (q : Int) := by omega
        clear ey m1 m2 m3 m4 k1 k2 k3 k4 H3 hpg hp1 HW3
        go_wp2_with fail
        refine bodyPost_ret (v := .tuple #[.agg #[.int .i64 yl, .int .i64 yr], .bool true]) (by simp [results, Tryd.results70, go_sem, *]) rfl ⟨rfl, ?_⟩
        exact HEND.out _ _ _ HM4.out
      · have hyr : yr = 0 := by rw [HYL.out.2]; exact HIZ.out (by rw [← HQ.out]; exact hp1)
        subst hyr
        have c0 := k1.cell 0
        have c1 := k1.cell 1
        have fx := fun o => k1.frozen o
        have d0 := k2.cell 0
        have d1 := k2.cell 1
        have HM4 := Lib.hid k4
        have z1 : ¬ ((p : Int) + 1 < (q : Int)) := by omega
        clear k1 k2 k3 k4 H3 hp1 HW3
        go_wp2_with fail
        refine bodyPost_ret (v := .tuple #[.agg #[.int .i64 yl, .int .i64 0], .bool true]) (by simp [results, Tryd.results70, go_sem, *]) rfl ⟨rfl, ?_⟩
        exact HEND.out _ _ _ HM4.out
end Go.Proofs.YtmhimkojegkalaaDoor
