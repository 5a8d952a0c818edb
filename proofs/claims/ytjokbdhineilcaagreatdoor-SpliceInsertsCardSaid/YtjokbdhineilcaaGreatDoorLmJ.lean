/-
  Level, Classes, Height and Through of the reference of chapter 6. Condition: the nodes can be read.
  Neighbours of the reference of chapter 6. Condition: the nodes can be read.
  Build of the reference of chapter 6: the links of all nodes, in rows of its own. Condition: the nodes can be read.
-/
import Derived.Test.YtjokbdhineilcaaGreatDoorLmD
import Derived.Test.YtjokbdhineilcaaGreatDoorLhR
import Derived.Test.YtjokbdhineilcaaGreatDoorLeA
import Derived.Test.YtjokbdhineilcaaGreatDoorLdG
import Derived.Deep.DeepCutAuto
import Derived.Deep.CutBlock
import Derived.Deep.RegionHeld3
import Derived.Test.YtjokbdhineilcaaGreatDoorKmL
import Derived.Test.YtjokbdhineilcaaGreatDoorLmG
namespace Go.Proofs.YtjokbdhineilcaaGreatDoor
section
open Go.RowKit

theorem rsortR_any (A : Option Addr) (l : List Nd) (c : Nat) (w : World) (hl : Nds w w.heap.size A l) (hc : chkV l = 0) :
    Calls Tryz.prog 50 #[.slice A l.length c] w (NdsP (srt l) w) :=
  (rsort_any A l c w hl (by have := (chkV_zero.1 hc).1; omega)).mono fun _ _ ⟨s, hs, h⟩ => by
    rw [← srt_of hs.srt (chkV_zero.1 hc).2.2]
    exact h
theorem rLevel_any (h : Int) (w : World) : Calls Tryz.prog 37 #[.int .i64 h] w fun e w' => e = .returned (.bool (lvB h)) ∧ w = w' := by
  have HL : Hid (lvB h = (decide (0 ≤ h) && decide (h ≤ 16))) := Lib.hid rfl
  generalize lvB h = Z at *
  by_cases h1 : 0 ≤ h
  · by_cases h2 : h ≤ 16
    · have HZ : Hid (Z = true) := Lib.hid (by rw [HL.out]; simp [h1, h2])
      go_enter Tryz.func37, Tryz.ntmps37
      go_wp2_with fail
      go_ret
      exact ⟨ret_bool HZ.out.symm, rfl⟩
    · have HZ : Hid (Z = false) := Lib.hid (by rw [HL.out]; simp [h2])
      go_enter Tryz.func37, Tryz.ntmps37
      go_wp2_with fail
      go_ret
      exact ⟨ret_bool HZ.out.symm, rfl⟩
  · have HZ : Hid (Z = false) := Lib.hid (by rw [HL.out]; simp [h1])
    go_enter Tryz.func37, Tryz.ntmps37
    go_wp2_with fail
    go_ret
    exact ⟨ret_bool HZ.out.symm, rfl⟩
/-- What Through answers. -/
def ThrP (l : List Nd) (id h : Int) (w : World) (e : Ending) (w' : World) : Prop :=
  (nbB l id h = false ∧ e = .returned (.tuple #[.slice none 0 0, .int .i64 0, .bool false]) ∧ Below w.heap.size w w') ∨
  (nbB l id h = true ∧ ∃ A c, e = .returned (.tuple #[.slice A (grp (srt l) h (fndV l id).word).length c, .int .i64 (plc (grp (srt l) h (fndV l id).word) id : Int), .bool true]) ∧ Nds w' w'.heap.size A (grp (srt l) h (fndV l id).word) ∧ Below w.heap.size w w')

set_option maxRecDepth 100000 in
set_option maxHeartbeats 1600000 in
theorem through_any (A : Option Addr) (l : List Nd) (c : Nat) (id h : Int) (w : World) (hl : Nds w w.heap.size A l) (hn : l.length ≤ 1000) (hwd : ∀ x ∈ l, x.word < 4294967296) (hi : -9223372036854775808 ≤ id ∧ id ≤ 9223372036854775807) :
    Calls Tryz.prog 66 #[.slice A l.length c, .int .i64 id, .int .i64 h] w (ThrP l id h w) := by
  have HFD := Lib.hid (rfind_any A l c id w hl (by omega))
  have HIS := Lib.hid (fun (W : World) (k : Below w.heap.size w W) => ris_any A l c W ((hl.below k).more k.size) hwd)
  have HLV := Lib.hid (fun (W : World) => rLevel_any h W)
  unfold FndP at HFD
  by_cases hf : plc l id < l.length
  · by_cases hchk : chkV l = 0
    · by_cases hlv : lvB h = true
      · have hnb : nbB l id h = true := by unfold nbB; simp [hchk, hlv, hf]
        refine Calls.mono ?_ (fun e w' k => .inr ⟨hnb, k⟩)
        have h16 : 0 ≤ h ∧ h ≤ 16 := by simpa [lvB] using hlv
        have HSO := Lib.hid (fun (W : World) (k : Below w.heap.size w W) => rsortR_any A l c W ((hl.below k).more k.size) hchk)
        obtain ⟨x, hx, rfl⟩ := plc_found.1 hf
        have hfx : fndV l x.id = x := fnd_self (chkV_zero.1 hchk).2.2 hx
        have hxw := wide_of hchk x hx
        rw [hfx] at HFD ⊢
        have HGR := Lib.hid (fun (W : World) (A2 : Option Addr) (c2 : Nat) (hr : Nds W W.heap.size A2 (srt l)) => rgroup_any A2 (srt l) c2 h x.word W hr (by have := srt_le hchk; omega) (srt_wd hchk) hxw.2)
        have hg := grp_self h16.2 (srt_mem.2 hx)
        have hp := plc_mem hg
        have HID : Hid (∀ j (hj : j < (grp (srt l) h x.word).length), j < plc (grp (srt l) h x.word) x.id → (grp (srt l) h x.word)[j].id ≠ x.id) := Lib.hid fun j hj hlt => by
          have := List.not_of_lt_findIdx hlt
          simpa using this
        have HPI : Hid ((grp (srt l) h x.word)[plc (grp (srt l) h x.word) x.id].id = x.id) := Lib.hid (plc_id hp)
        have hgl : (grp (srt l) h x.word).length ≤ 64 := Nat.le_trans (grp_len _ _ _) (srt_le hchk)
        rw [hchk, show ((0 : Int) == 0) = true from rfl] at HIS
        rw [hlv] at HLV
        rw [decide_eq_true hf] at HFD
        generalize grp (srt l) h x.word = gr at *
        generalize srt l = S at *
        obtain ⟨xi, xk, xw⟩ := x
        simp only at hi hp HID HPI HFD ⊢
        obtain ⟨p, hp, hpe, HPI, HID⟩ : ∃ (p : Nat) (hp : p < gr.length), plc gr xi = p ∧ Hid (gr[p].id = xi) ∧ Hid (∀ j (hj : j < gr.length), j < p → gr[j].id ≠ xi) := ⟨_, hp, rfl, HPI, HID⟩
        rw [hpe]
        have HX := Lib.hid (fun (W : World) => Has.new W 25 #[.int .i64 xi, .string xk, .int .u32 (xw : Int)])
        clear hl hwd hf hchk hlv hnb hx hfx hxw hg hpe
        go_enter Tryz.func66, Tryz.ntmps66
        go_wp2_with fail
        refine (HFD.out).mono ?_
        rintro e w1 ⟨rfl, hb1⟩
        have hk1 := hb1.trans (((Below.refl w1.heap.size w1).alloc (Nat.le_refl _) (.cells #[.int .i64 xi, .string xk, .int .u32 (xw : Int)] 25)).mono hb1.size)
        have HX1 := Lib.hid (HX.out w1)
        have HB1 := Lib.hid hk1
        clear hb1 hk1 HFD HX
        go_wp2_with fail
        refine (HIS.out _ HB1.out).mono ?_
        rintro e w2 ⟨rfl, hb2⟩
        have HB2 := Lib.hid (HB1.out.trans (hb2.mono HB1.out.size))
        have HX2 := Lib.hid (HX1.out.below hb2)
        clear hb2 HIS HB1 HX1
        go_wp2_with fail
        refine (HLV.out _).mono ?_
        rintro e w3 ⟨rfl, rfl⟩
        have x2 : w2.drew.cell? ⟨w1.heap.size, 2, none⟩ = some (.int .u32 (xw : Int)) := HX2.out.cell 2
        have hlt2 : w1.heap.size < w2.drew.heap.size := HX2.out.lt
        go_upto_region 4 with fail
        clear HX2
        go_region_held3 (fun W => W.cell? ⟨w1.heap.size, 2, none⟩ = some (.int .u32 (xw : Int))) (first | with_reducible exact hx4 | with_reducible exact hx3 | with_reducible exact x2 | with_reducible assumption) (first | (go_at_call 86; refine (HGR.out wa A3 c3 hr3).mono ?_; rintro e wb ⟨A4, c4, rfl, ho4, hb4⟩; have hx4 := (hb4.cell (p := ⟨w1.heap.size, 2, none⟩) hlt3).trans hx3) | (go_at_call 50; refine (HSO.out _ (HB2.out.drew)).mono ?_; rintro e wa ⟨A3, c3, rfl, ho3, hb3⟩; obtain ⟨_, _, er, hr3⟩ := ho3.read; injection er with e1 _ e2; subst e1 e2; have hlt3 : w1.heap.size < wa.heap.size := World.block_lt_of_cell? wa _ ((hb3.cell (p := ⟨w1.heap.size, 2, none⟩) hlt2).trans x2); have hx3 := (hb3.cell (p := ⟨w1.heap.size, 2, none⟩) hlt2).trans x2))
        all_goals
          have Ba := HB2.out.drew.trans (hb3.mono HB2.out.drew.size)
          have HBb := Lib.hid (Ba.trans (hb4.mono Ba.size))
          obtain ⟨_, _, er, hr4⟩ := ho4.read
          injection er with e1 _ e2
          subst e1 e2
          obtain ⟨q, hq⟩ : ∃ q, q = gr.length := ⟨_, rfl⟩
          have HQ := Lib.hid hq
          have hpq : p < q := by omega
          rw [← hq] at hgl ⊢
          clear hb3 hb4 Ba ho3 ho4 hr3 hlt3 hx3 hx4 x2 hlt2 HSO HGR HB2 HLV hq
          go_wp2_with fail
          go_loopw [12] (fun vi wr => ∃ i : Nat, vi = .int .i64 (i : Int) ∧ i ≤ p ∧ wr = wb) (fun vi _ => q - (intOf vi).toNat)
          case atStart => exact ⟨0, rfl, by omega, rfl⟩
          case round =>
            obtain ⟨i, rfl, hip, rfl⟩ := hrel
            have hi2 : i < gr.length := by rw [← HQ.out]; omega
            obtain ⟨b, o, eA, hbl, f1, _, _⟩ := hr4.at_ hi2
            subst eA
            have i0 : (0 : Int) ≤ (i : Int) := by omega
            have i1 : (i : Int) < (q : Int) := by omega
            have q64 : (q : Int) ≤ 64 := by omega
            by_cases e : i = p
            · subst e
              rw [HPI.out] at f1
              have he : ((xi : Int) == xi) = true := by simp
              have HR := Lib.hid hr4
              clear hr4
              go_wp2_with fail
              go_ret3
              exact ⟨some ⟨b, o, none⟩, c4, by rw [← HQ.out]; rfl, HR.out, HBb.out⟩
            · have hne := HID.out i hi2 (by omega)
              have he : ((gr[i].id : Int) == xi) = false := by simpa using hne
              generalize gr[i].id = y at *
              go_wp2_with fail
              exact ⟨⟨i + 1, by go_num, by omega, by first | rfl | trivial⟩, by simp [intOf]; omega⟩
      · have hlz : lvB h = false := by simpa using hlv
        have hnb : nbB l id h = false := by unfold nbB; simp [hlz]
        refine Calls.mono ?_ (fun e w' k => .inl ⟨hnb, k⟩)
        rw [hchk, show ((0 : Int) == 0) = true from rfl] at HIS
        rw [hlz] at HLV
        rw [decide_eq_true hf] at HFD
        generalize fndV l id = x at *
        obtain ⟨xi, xk, xw⟩ := x
        clear hl hwd hi hf hchk hlv hlz hnb
        go_enter Tryz.func66, Tryz.ntmps66
        go_wp2_with fail
        refine (HFD.out).mono ?_
        rintro e w1 ⟨rfl, hb1⟩
        have HB1 := Lib.hid (hb1.trans (((Below.refl w1.heap.size w1).alloc (Nat.le_refl _) (.cells #[.int .i64 xi, .string xk, .int .u32 (xw : Int)] 25)).mono hb1.size))
        clear hb1 HFD
        go_wp2_with fail
        refine (HIS.out _ HB1.out).mono ?_
        rintro e w2 ⟨rfl, hb2⟩
        have HB2 := Lib.hid (HB1.out.trans (hb2.mono HB1.out.size))
        clear hb2 HIS HB1
        go_wp2_with fail
        refine (HLV.out _).mono ?_
        rintro e w3 ⟨rfl, rfl⟩
        go_wp2_with fail
        go_ret3
        exact ⟨rfl, HB2.out⟩
    · have hnb : nbB l id h = false := by unfold nbB; simp [hchk]
      have hz : (chkV l == 0) = false := by simpa using hchk
      refine Calls.mono ?_ (fun e w' k => .inl ⟨hnb, k⟩)
      rw [hz] at HIS
      rw [decide_eq_true hf] at HFD
      generalize fndV l id = x at *
      obtain ⟨xi, xk, xw⟩ := x
      clear hl hwd hi hf hchk hz hnb
      go_enter Tryz.func66, Tryz.ntmps66
      go_wp2_with fail
      refine (HFD.out).mono ?_
      rintro e w1 ⟨rfl, hb1⟩
      have HB1 := Lib.hid (hb1.trans (((Below.refl w1.heap.size w1).alloc (Nat.le_refl _) (.cells #[.int .i64 xi, .string xk, .int .u32 (xw : Int)] 25)).mono hb1.size))
      clear hb1 HFD
      go_wp2_with fail
      refine (HIS.out _ HB1.out).mono ?_
      rintro e w2 ⟨rfl, hb2⟩
      have HB2 := Lib.hid (HB1.out.trans (hb2.mono HB1.out.size))
      clear hb2 HIS HB1
      go_wp2_with fail
      go_ret3
      exact ⟨rfl, HB2.out⟩
  · have hnb : nbB l id h = false := by unfold nbB; simp [hf]
    refine Calls.mono ?_ (fun e w' k => .inl ⟨hnb, k⟩)
    rw [decide_eq_false hf] at HFD
    generalize fndV l id = x at *
    obtain ⟨xi, xk, xw⟩ := x
    clear hl hwd hi hf hnb
    go_enter Tryz.func66, Tryz.ntmps66
    go_wp2_with fail
    refine (HFD.out).mono ?_
    rintro e w1 ⟨rfl, hb1⟩
    have HB1 := Lib.hid (hb1.trans (((Below.refl w1.heap.size w1).alloc (Nat.le_refl _) (.cells #[.int .i64 xi, .string xk, .int .u32 (xw : Int)] 25)).mono hb1.size))
    clear hb1 HFD
    go_wp2_with fail
    go_ret3
    exact ⟨rfl, HB1.out⟩
end
section
open Go.RowKit

theorem thr_no {l : List Nd} {id h : Int} {w w' : World} {e : Ending} (hn : nbB l id h = false) (k : ThrP l id h w e w') : e = .returned (.tuple #[.slice none 0 0, .int .i64 0, .bool false]) ∧ Below w.heap.size w w' := by
  rcases k with ⟨_, k⟩ | ⟨k, _⟩
  · exact k
  · rw [hn] at k
    cases k
theorem thr_yes {l : List Nd} {id h : Int} {w w' : World} {e : Ending} (hn : nbB l id h = true) {x : Nd} (hx : fndV l id = x) (k : ThrP l id h w e w') : ∃ A c, e = .returned (.tuple #[.slice A (grp (srt l) h x.word).length c, .int .i64 (plc (grp (srt l) h x.word) id : Int), .bool true]) ∧ Nds w' w'.heap.size A (grp (srt l) h x.word) ∧ Below w.heap.size w w' := by
  rcases k with ⟨k, _⟩ | ⟨_, k⟩
  · rw [hn] at k
    cases k
  · rw [hx] at k
    exact k
set_option maxRecDepth 100000 in
set_option maxHeartbeats 1600000 in
theorem rneighbours_any (A : Option Addr) (l : List Nd) (c : Nat) (id h : Int) (w : World) (hl : Nds w w.heap.size A l) (hn : l.length ≤ 1000) (hwd : ∀ x ∈ l, x.word < 4294967296) (hi : -9223372036854775808 ≤ id ∧ id ≤ 9223372036854775807) :
    Calls Tryz.prog 51 #[.slice A l.length c, .int .i64 id, .int .i64 h] w (NbP l id h w) := by
  unfold NbP
  have hb0 := (Below.refl w.heap.size w).alloc (Nat.le_refl _) (.cells #[.int .i64 0, .int .i64 0] 53)
  have HX0 := Lib.hid (Has.new w 53 #[.int .i64 0, .int .i64 0])
  have HT := Lib.hid (through_any A l c id h _ ((hl.below hb0).more hb0.size) hn hwd hi)
  have HB0 := Lib.hid hb0
  cases hnb : nbB l id h with
  | false =>
    have HV2 := Lib.hid (nb_no hnb)
    have HT2 := Lib.hid (HT.out.mono fun e w' k => thr_no hnb k)
    clear hl hwd hi hb0 HT
    go_enter Tryz.func51, Tryz.ntmps51
    go_wp2_with fail
    refine (HT2.out).mono ?_
    rintro e w1 ⟨rfl, hb1⟩
    have X1 := HX0.out.below hb1
    have c0 := X1.cell 0
    have c1 := X1.cell 1
    have f0 := fun o => X1.frozen o
    have HB1 := Lib.hid (HB0.out.trans (hb1.mono HB0.out.size))
    clear hb1 HX0 HB0 X1 HT2
    go_wp2_with fail
    refine bodyPost_ret (v := .tuple #[.agg #[.int .i64 0, .int .i64 0], .bool false]) (by simp [results, Tryz.results51, go_sem, *]) rfl ⟨by rw [HV2.out], ?_⟩
    exact ((HB1.out.setCell (Nat.le_refl _) _).setCell (Nat.le_refl _) _)
  | true =>
    have hfd : plc l id < l.length := by
      unfold nbB at hnb
      simp at hnb
      exact hnb.2.2
    have hchk : chkV l = 0 := by
      unfold nbB at hnb
      simp at hnb
      exact hnb.1
    have h16 : h ≤ 16 := by
      unfold nbB lvB at hnb
      simp at hnb
      exact hnb.2.1.2
    obtain ⟨x, hx, hxi⟩ := plc_found.1 hfd
    have hfx : fndV l id = x := by rw [← hxi]; exact fnd_self (chkV_zero.1 hchk).2.2 hx
    have hnl : nbL l id h = lkAt (grp (srt l) h x.word) (plc (grp (srt l) h x.word) id) := by
      unfold nbL lnk
      rw [if_pos hnb, hfx, hxi]
    have hpl : plc (grp (srt l) h x.word) id < (grp (srt l) h x.word).length := by
      rw [← hxi]
      exact plc_mem (grp_self h16 (srt_mem.2 hx))
    have hgl : (grp (srt l) h x.word).length ≤ 64 := Nat.le_trans (grp_len _ _ _) (srt_le hchk)
    have HT2 := Lib.hid (HT.out.mono fun e w' k => thr_yes hnb hfx k)
    rw [hnl]
    generalize grp (srt l) h x.word = gr at *
    generalize plc gr id = p at *
    have HIM : Hid (∀ hp : 0 < p, idAt gr (p - 1) = (gr[p - 1]'(by omega)).id) := Lib.hid fun hp => idAt_lt (by omega)
    have HIP : Hid (∀ hp : p + 1 < gr.length, idAt gr (p + 1) = gr[p + 1].id) := Lib.hid fun hp => idAt_lt hp
    have HIZ : Hid (¬ p + 1 < gr.length → idAt gr (p + 1) = 0) := Lib.hid fun hp => idAt_ge (by omega)
    have HLK : Hid (lkAt gr p = ⟨if p = 0 then 0 else idAt gr (p - 1), idAt gr (p + 1)⟩) := Lib.hid rfl
    obtain ⟨q, hq⟩ : ∃ q, q = gr.length := ⟨_, rfl⟩
    have HQ := Lib.hid hq
    rw [← hq] at hpl hgl HT2
    obtain ⟨Y, hY⟩ : ∃ Y, Y = lkAt gr p := ⟨_, rfl⟩
    have HY := Lib.hid hY
    rw [← hY]
    obtain ⟨yl, yr⟩ := Y
    clear hl hwd hi hb0 HT hnb hfd hchk h16 hx hxi hfx hnl hq hY
    go_enter Tryz.func51, Tryz.ntmps51
    go_wp2_with fail
    refine (HT2.out).mono ?_
    rintro e w1 ⟨A1, cA, rfl, hr1, hb1⟩
    have hk := (Below.refl w1.heap.size w1).alloc (Nat.le_refl _) (.cells #[.int .i64 0, .int .i64 0] 53)
    have hX1 := HX0.out.below hb1
    have HX2 := Lib.hid (hX1.alloc (.cells #[.int .i64 0, .int .i64 0] 53))
    have HY2 := Lib.hid (Has.new w1 53 #[.int .i64 0, .int .i64 0])
    have HB1 := Lib.hid (HB0.out.trans (hb1.mono HB0.out.size))
    have hXG : w.heap.size < w1.heap.size := hX1.lt
    obtain ⟨b, o, eA, hbl, _⟩ := hr1.at_ (i := p) (by rw [← HQ.out]; exact hpl)
    subst eA
    have HGR : Hid (∀ (i : Nat) (hi : i < gr.length), (w1.alloc (.cells #[.int .i64 0, .int .i64 0] 53)).cell? ⟨b, o + i * 3, none⟩ = some (.int .i64 gr[i].id)) := Lib.hid (fun i hi => by
      obtain ⟨b2, o2, eA, hb2, k, _⟩ := (hr1.below hk).at_ hi
      injection eA with eA
      injection eA with e1 e2
      subst e1 e2
      exact k)
    have hbG : b ≠ w1.heap.size := by omega
    clear hb1 hX1 HT2 HX0 HB0 hr1 hk
    go_upto_region 5 with fail
    have HB2 := Lib.hid (HB1.out.alloc HB1.out.size (.cells #[.int .i64 0, .int .i64 0] 53))
    generalize w1.alloc (.cells #[.int .i64 0, .int .i64 0] 53) = w2 at *
    generalize w1.heap.size = G at *
    have HEND : Hid (∀ (W : World) (u v : Value), Below w.heap.size w W → Below w.heap.size w ((W.setCell ⟨w.heap.size, 0, none⟩ u).setCell ⟨w.heap.size, 1, none⟩ v)) := Lib.hid fun W u v h => (h.setCell (p := ⟨w.heap.size, 0, none⟩) (Nat.le_refl _) u).setCell (p := ⟨w.heap.size, 1, none⟩) (Nat.le_refl _) v
    have hXne : w.heap.size ≠ G := by omega
    have hXle : w.heap.size ≤ G := by omega
    have q1 : (q : Int) ≤ 64 := by omega
    have HS : Hid (∀ (W : World) (a c : Int) (i : Nat) (v : Int), Has W w.heap.size 53 #[.int .i64 0, .int .i64 0] → Has W G 53 #[.int .i64 a, .int .i64 c] → (∀ (i : Nat) (hi : i < gr.length), W.cell? ⟨b, o + i * 3, none⟩ = some (.int .i64 gr[i].id)) → Below w.heap.size w W →
        Has (W.setCell ⟨G, i, none⟩ (.int .i64 v)) w.heap.size 53 #[.int .i64 0, .int .i64 0] ∧ Has (W.setCell ⟨G, i, none⟩ (.int .i64 v)) G 53 ((#[.int .i64 a, .int .i64 c] : Array Value).setIfInBounds i (.int .i64 v)) ∧ (∀ (j : Nat) (hj : j < gr.length), (W.setCell ⟨G, i, none⟩ (.int .i64 v)).cell? ⟨b, o + j * 3, none⟩ = some (.int .i64 gr[j].id)) ∧ Below w.heap.size w (W.setCell ⟨G, i, none⟩ (.int .i64 v))) := Lib.hid fun W a c i v k1 k2 k3 k4 =>
      ⟨k1.far (p := ⟨G, i, none⟩) hXne _, k2.set_ i _, fun j hj => (World.cell?_setCell_other W _ _ _ (fun e => hbG (congrArg Addr.block e).symm)).trans (k3 j hj), k4.setCell (p := ⟨G, i, none⟩) hXle _⟩
    have HYL : Hid (yl = (if p = 0 then 0 else idAt gr (p - 1)) ∧ yr = idAt gr (p + 1)) := Lib.hid (by
      have := HY.out
      rw [HLK.out] at this
      injection this with e1 e2
      exact ⟨e1, e2⟩)
    clear HLK HY
    obtain ⟨w3, hw3⟩ : ∃ w3, w3 = (if p = 0 then w2 else w2.setCell ⟨G, 0, none⟩ (.int .i64 yl)) := ⟨_, rfl⟩
    have h3 : Has w3 w.heap.size 53 #[.int .i64 0, .int .i64 0] ∧ Has w3 G 53 #[.int .i64 yl, .int .i64 0] ∧ (∀ (j : Nat) (hj : j < gr.length), w3.cell? ⟨b, o + j * 3, none⟩ = some (.int .i64 gr[j].id)) ∧ Below w.heap.size w w3 := by
      rw [hw3]
      by_cases e : p = 0
      · rw [if_pos e, show yl = 0 by rw [HYL.out.1, if_pos e]]
        exact ⟨HX2.out, HY2.out, HGR.out, HB2.out⟩
      · rw [if_neg e]
        exact HS.out w2 0 0 0 yl HX2.out HY2.out HGR.out HB2.out
    have H3 := Lib.hid h3
    have HW3 := Lib.hid hw3
    clear h3 hw3
    go_upto_if 25 with fail
    go_cut [11] (fun s wx => s = .pointer (some ⟨G, 0, none⟩) ∧ wx = w3)
    case first =>
      by_cases hp0 : p = 0
      · have e3 : w3 = w2 := by rw [HW3.out, if_pos hp0]
        have z0 : ¬ ((0 : Int) < (p : Int)) := by omega
        have HE3 := Lib.hid e3
        clear e3 hp0
        go_wp2_with fail
        go_meet
        exact ⟨rfl, HE3.out.symm⟩
      · have e3 : w3 = w2.setCell ⟨G, 0, none⟩ (.int .i64 yl) := by rw [HW3.out, if_neg hp0]
        obtain ⟨p', rfl⟩ : ∃ p', p = p' + 1 := ⟨p - 1, by omega⟩
        have hpg : p' < gr.length := by rw [← HQ.out]; omega
        have g0 := HGR.out p' hpg
        have ey : gr[p'].id = yl := by rw [HYL.out.1, if_neg hp0]; exact (idAt_lt hpg).symm
        rw [ey] at g0
        have y0 := HY2.out.cell 0
        have fy := fun o => HY2.out.frozen o
        have HE3 := Lib.hid e3
        rw [show ((p' + 1 : Nat) : Int) = (p' : Int) + 1 by omega]
        have z0 : (0 : Int) < (p' : Int) + 1 := by omega
        have z1 : (p' : Int) < (q : Int) := by omega
        have z2 : (0 : Int) ≤ (p' : Int) := by omega
        have e1 : IntKind.i64.wrap ((p' : Int) + 1 - 1) = (p' : Int) := by rw [Int.add_sub_cancel]; exact IntWalk.i64_in _ (by omega)
        clear ey e3 hpg hp0
        go_wp2_with fail
        go_meet
        exact ⟨rfl, HE3.out.symm⟩
    case rest =>
      obtain ⟨rfl, rfl⟩ := hcut
      obtain ⟨k1, k2, k3, k4⟩ := H3.out
      have p0 : (0 : Int) ≤ (p : Int) := by omega
      by_cases hp1 : p + 1 < q
      · have hpg : p + 1 < gr.length := by rw [← HQ.out]; exact hp1
        have g1 := k3 (p + 1) hpg
        have ey : gr[p + 1].id = yr := by rw [HYL.out.2]; exact (HIP.out hpg).symm
        rw [ey] at g1
        obtain ⟨m1, m2, m3, m4⟩ := HS.out wc yl 0 1 yr k1 k2 k3 k4
        have y1 := k2.cell 1
        have fy := fun o => k2.frozen o
        have c0 := m1.cell 0
        have c1 := m1.cell 1
        have fx := fun o => m1.frozen o
        have d0 := m2.cell 0
        have d1 := m2.cell 1
        have HM4 := Lib.hid m4
        have z1 : (p : Int) + 1 < (q : Int) := by omega
        clear ey m1 m2 m3 m4 k1 k2 k3 k4 H3 hpg hp1 HW3
        go_wp2_with fail
        refine bodyPost_ret (v := .tuple #[.agg #[.int .i64 yl, .int .i64 yr], .bool true]) (by simp [results, Tryz.results51, go_sem, *]) rfl ⟨rfl, ?_⟩
        exact HEND.out _ _ _ HM4.out
      · have hyr : yr = 0 := by rw [HYL.out.2]; exact HIZ.out (by rw [← HQ.out]; exact hp1)
        subst hyr
        have c0 := k1.cell 0
        have c1 := k1.cell 1
        have fx := fun o => k1.frozen o
        have d0 := k2.cell 0
        have d1 := k2.cell 1
        have HM4 := Lib.hid k4
        have z1 : ¬ ((p : Int) + 1 < (q : Int)) := by omega
        clear k1 k2 k3 k4 H3 hp1 HW3
        go_wp2_with fail
        refine bodyPost_ret (v := .tuple #[.agg #[.int .i64 yl, .int .i64 0], .bool true]) (by simp [results, Tryz.results51, go_sem, *]) rfl ⟨rfl, ?_⟩
        exact HEND.out _ _ _ HM4.out
end
section
open Go.RowKit

theorem srt_idem {l : List Nd} (hc : chkV l = 0) : chkV (srt l) = 0 ∧ srt (srt l) = srt l := by
  have h1 : chkV (srt l) = 0 := chkV_perm (srt_srt l).1.symm hc
  exact ⟨h1, (srt_of ⟨List.Perm.refl _, (srt_srt l).2⟩ (chkV_zero.1 h1).2.2).symm⟩
theorem bld_at {l : List Nd} {n i : Nat} (h : i < (srt l).length) : (bldV l n)[i]? = some ⟨(srt l)[i].id, (List.range n).map fun (t : Nat) => lnk (srt l) (t : Int) (srt l)[i]⟩ := by
  unfold bldV
  rw [List.getElem?_map, List.getElem?_eq_getElem h]
  rfl
theorem range_next (n t : Nat) (h : t < n) (f : Nat → Lk) : ((List.range n).take (t + 1)).map f = ((List.range n).take t).map f ++ [f t] := by
  rw [List.take_succ_eq_append_getElem (by simpa using h), List.map_append]
  simp
def RBldOk (R : List Ld) (w : World) (e : Ending) (w' : World) : Prop := ∃ v, e = .returned (.tuple #[v, .int .i64 0]) ∧ OwnD w' w.heap.size v R ∧ Below w.heap.size w w'
def RBldP (l : List Nd) (h : Int) (w : World) (e : Ending) (w' : World) : Prop :=
  (bldE l h ≠ 0 ∧ e = .returned (.tuple #[.slice none 0 0, .int .i64 (bldE l h)]) ∧ Below w.heap.size w w') ∨ (bldE l h = 0 ∧ RBldOk (bldV l (h + 1).toNat) w e w')
theorem OwnD.low {w : World} {base b : Nat} {v : Value} {ls : List Ld} (h : OwnD w base v ls) (hb : b ≤ base) : OwnD w b v ls := by
  obtain ⟨q, h1, h2, h3, h4⟩ := h
  refine ⟨q, ?_, h2, fun i hq hi => ⟨(h3 i hq hi).1, own_lessK (h3 i hq hi).2.1 hb, (h3 i hq hi).2.2⟩, h4⟩
  obtain ⟨k1, k2 | ⟨g, cap, cur, k3, k4, k5⟩⟩ := h1
  · exact ⟨k1, .inl k2⟩
  · exact ⟨k1, .inr ⟨g, cap, cur, k3, by omega, k5⟩⟩

set_option maxRecDepth 100000 in
set_option maxHeartbeats 1600000 in
theorem rbuild_ok (A : Option Addr) (l : List Nd) (c m : Nat) (w : World) (hl : Nds w w.heap.size A l) (hchk : chkV l = 0) (hm : m ≤ 16) :
    Calls Tryz.prog 23 #[.slice A l.length c, .int .i64 (m : Int)] w (RBldOk (bldV l (m + 1)) w) := by
  have HC := Lib.hid ((ris_any A l c w hl (fun x hx => (wide_of hchk x hx).2)).mono fun e w' h => (⟨by rw [h.1, hchk]; rfl, h.2⟩ : e = .returned (.bool true) ∧ Below w.heap.size w w'))
  have HI := Lib.hid (fun (W : World) => (rLevel_any (m : Int) W).mono fun e w' h => (⟨by rw [h.1]; simp [lvB]; omega, h.2⟩ : e = .returned (.bool true) ∧ W = w'))
  have HS := Lib.hid (fun (W : World) (k : Below w.heap.size w W) => rsortR_any A l c W ((hl.below k).more k.size) hchk)
  have hsl := srt_le hchk
  obtain ⟨hc2, hid2⟩ := srt_idem hchk
  have HNB := Lib.hid (fun (W : World) (A2 : Option Addr) (c2 : Nat) (id h : Int) (hr : Nds W W.heap.size A2 (srt l)) (hi : -9223372036854775808 ≤ id ∧ id ≤ 9223372036854775807) => rneighbours_any A2 (srt l) c2 id h W hr (by omega) (srt_wd hchk) hi)
  have HNV : Hid (∀ (i : Nat) (hi : i < (srt l).length) (t : Nat), t ≤ 16 → nbL (srt l) (srt l)[i].id (t : Int) = lnk (srt l) (t : Int) (srt l)[i]) := Lib.hid fun i hi t ht => by
    rw [(nb_in hc2 (h := (t : Int)) (by omega) (by omega) (List.getElem_mem hi)).2, hid2]
  have HAT := Lib.hid (fun (i : Nat) (h : i < (srt l).length) => bld_at (l := l) (n := m + 1) h)
  have HRL : Hid ((bldV l (m + 1)).length = (srt l).length) := Lib.hid (by rw [bld_len, (srt_srt l).1.length_eq])
  have HW := Lib.hid (wide_srt hchk)
  unfold NbP at HNB
  generalize bldV l (m + 1) = R at *
  generalize srt l = S at *
  clear hl hchk hc2 hid2
  obtain ⟨inf, hif, hif1, hif2, hif3⟩ := infoK_parts
  obtain ⟨inp, hip, hip1, hip2, hip3⟩ := infoP_parts
  go_enter Tryz.func23, Tryz.ntmps23
  go_wp2_with fail
  refine (HC.out).mono ?_
  rintro e w1 ⟨rfl, hb1⟩
  have HB1 := Lib.hid hb1
  clear hb1 HC
  go_wp2_with fail
  refine (HI.out _).mono ?_
  rintro e w2 ⟨rfl, rfl⟩
  go_wp2_with fail
  refine (HS.out _ HB1.out).mono ?_
  rintro e w2 ⟨A2, c2, rfl, ho2, hb2⟩
  obtain ⟨_, _, er, hr2⟩ := ho2.read
  injection er with e1 _ e2
  subst e1 e2
  have HB2 := Lib.hid (HB1.out.trans (hb2.mono HB1.out.size))
  clear hb2 HS HB1 ho2
  obtain ⟨n, hn⟩ : ∃ n, n = S.length := ⟨_, rfl⟩
  have HN := Lib.hid hn
  rw [← hn] at hsl HNB HRL ⊢
  clear hn
  have hmz : (m : Int) ≤ 16 := by omega
  have hmy : (0 : Int) ≤ (m : Int) := by omega
  go_wp2_with fail
  go_loopw [7, 8] (fun vo vi wr => ∃ (v1 : Value) (i : Nat) (l1 : List Ld), v1 = vo ∧ vi = .int .i64 (i : Int) ∧ i ≤ n ∧ OwnD wr w2.heap.size v1 l1 ∧ Below w2.heap.size w2 wr ∧ Hid (l1 = R.take i) ∧ l1.length ≤ i) (fun _ vi _ => n - (intOf vi).toNat)
  case atStart => exact ⟨_, 0, [], rfl, rfl, by omega, OwnD.nil _ _, Below.refl _ _, Lib.hid (by simp), by simp⟩
  case round =>
    obtain ⟨v1, i, l1, rfl, rfl, hi, ho1, hB, HL, hlen⟩ := hrel
    by_cases hlt : i < n
    · have i2 : i < S.length := by rw [← HN.out]; exact hlt
      obtain ⟨b, o, hA2, hb, f1, _, _⟩ := hr2.at_ i2
      subst hA2
      have hyw : -9223372036854775808 ≤ S[i].id ∧ S[i].id ≤ 9223372036854775807 := (HW.out _ (List.getElem_mem i2)).1
      have HF := Lib.hid (fun (W : World) (k : Below w2.heap.size w2 W) => (k.cell (p := ⟨b, o + i * 3, none⟩) hb).trans f1)
      have HNX := Lib.hid (HNV.out i i2)
      have HTK : Hid (R.take (i + 1) = R.take i ++ [⟨S[i].id, (List.range (m + 1)).map fun (t : Nat) => lnk S (t : Int) S[i]⟩]) := Lib.hid (by
        rw [List.take_add_one, HAT.out i i2]
        rfl)
      generalize hlkf : (fun (t : Nat) => lnk S (t : Int) S[i]) = lf at *
      have HLF : Hid (∀ t : Nat, lnk S (t : Int) S[i] = lf t) := Lib.hid fun t => congrFun hlkf t
      have HNY : Hid (∀ t : Nat, t ≤ 16 → nbL S S[i].id (t : Int) = lf t) := Lib.hid fun t ht => by rw [HNX.out t ht, HLF.out]
      clear hlkf HNX HLF
      generalize S[i].id = yi at *
      have f1' := HF.out wr hB
      have i0 : (0 : Int) ≤ (i : Int) := by omega
      have i1 : (i : Int) < (n : Int) := by omega
      have HND := Lib.hid (fun (W : World) (k : Below w2.heap.size w2 W) => (hr2.below k).more k.size)
      obtain ⟨wq, rfl⟩ : ∃ wq, wq = wr := ⟨_, rfl⟩
      have HO1 := Lib.hid ho1
      have HBQ := Lib.hid hB
      have HX0 := Lib.hid (Has.new wq 56 #[.int .i64 yi, .slice none 0 0])
      have hal := (Below.refl wq.heap.size wq).alloc (Nat.le_refl _) (.cells #[.int .i64 yi, .slice none 0 0] 56)
      have HAL := Lib.hid hal
      obtain ⟨X, hX⟩ : ∃ X, X = wq.heap.size := ⟨_, rfl⟩
      have HXE := Lib.hid hX
      obtain ⟨A5, c5, hv5⟩ := ho1.shape
      subst hv5
      clear ho1 hB hal f1
      go_upto_region 11 with fail
      clear f1'
      rw [← hX] at HX0 HAL ⊢
      generalize wq.alloc (.cells #[.int .i64 yi, .slice none 0 0] 56) = wx at *
      clear hX
      go_wp2_with fail
      go_loopw [10] (fun vt wr => ∃ (t : Nat) (u : Value) (lv : List Lk), vt = .int .i64 (t : Int) ∧ t ≤ m + 1 ∧ Has wr X 56 #[.int .i64 yi, u] ∧ OwnK wr (X + 1) u lv ∧ Below X wq wr ∧ Hid (lv = ((List.range (m + 1)).take t).map lf) ∧ lv.length ≤ t) (fun vt _ => m + 1 - (intOf vt).toNat)
      case atStart => exact ⟨0, _, [], rfl, by omega, HX0.out, OwnK.nil _ _, HAL.out, Lib.hid (by simp), by simp⟩
      case round =>
        clear HX0 HAL
        obtain ⟨t, u, lv, rfl, ht, hX, hU, hB, HLV, hlvl⟩ := hrel
        by_cases hltt : t ≤ m
        · have t0 : (0 : Int) ≤ (t : Int) := by omega
          have t1 : (t : Int) ≤ (m : Int) := by omega
          have hB2 := HBQ.out.trans (hB.mono (by have := HXE.out; have := HBQ.out.size; omega))
          have f1 := HF.out wr hB2
          have HN1 := Lib.hid (HNB.out wr (some ⟨b, o, none⟩) c2 yi (t : Int) (HND.out wr hB2) hyw)
          rw [HNY.out t (by omega)] at HN1
          have HRN := Lib.hid (range_next (m + 1) t (by omega) lf)
          generalize lf t = y at *
          generalize nbB S yi (t : Int) = bb at *
          obtain ⟨yl, yr⟩ := y
          have HH := Lib.hid hX
          have HU := Lib.hid hU
          have HBB := Lib.hid hB
          obtain ⟨A6, c6, hv6⟩ := hU.shape
          subst hv6
          clear hX hU hB hB2
          go_wp2_with fail
          refine (HN1.out).mono ?_
          rintro e w5 ⟨rfl, hb5⟩
          have hk := (Below.refl w5.heap.size w5).alloc (Nat.le_refl _) (.cells #[.int .i64 yl, .int .i64 yr] 53)
          have hk5 := hb5.trans (hk.mono hb5.size)
          have hX6 := HH.out.below hk5
          have hU6 := HU.out.below hk5
          have hY6 := Has.new w5 53 #[.int .i64 yl, .int .i64 yr]
          have x1 := hX6.cell 1
          have y0 := hY6.cell 0
          have y1 := hY6.cell 1
          have hXl := HH.out.lt
          have HB6 := Lib.hid (HBB.out.trans (hk5.mono (Nat.le_trans HBB.out.size (Nat.le_refl _) |> fun h => (by omega : X ≤ wr.heap.size))))
          have hXs : X + 1 ≤ (w5.alloc (.cells #[.int .i64 yl, .int .i64 yr] 53)).heap.size := by have := hX6.lt; omega
          have HX6 := Lib.hid hX6
          clear hk hk5 hb5 hY6 HN1 HH HU HBB hX6 f1
          go_upto_region 15 with fail
          generalize w5.alloc (.cells #[.int .i64 yl, .int .i64 yr] 53) = w6 at *
          have hlv2 : lv.length < 1000000 := by omega
          go_wp2_with (at_builtin; refine wpList_pushK rfl _ _ 54 rfl (X + 1) inf Tryz.underlying54 hif hif1 hif2 hif3 (.slice A6 lv.length c6) lv w6 ⟨yl, yr⟩ rfl hU6 rfl hlv2 hXs ?_; intro u2 w7 hU7 hg7 hat7; obtain ⟨lw, hlw⟩ : ∃ lw, lw = lv ++ [(⟨yl, yr⟩ : Lk)] := ⟨_, rfl⟩; rw [← hlw] at hU7; have hlwn : lw.length = lv.length + 1 := (by rw [hlw]; simp); have HLW := Lib.hid hlw; have HLN := Lib.hid hlwn; clear hlw hlwn; have hX7 := (hg7.block X HX6.out.lt (fun e => (by have := (hU6.lt X e.symm).1; omega))).trans HX6.out; have HX7 := Lib.hid hX7; have x7 := Has.cell (cs := #[.int .i64 yi, .slice A6 lv.length c6]) hX7 1; have z7 := fun o => Has.frozen hX7 o; have HB7 := Lib.hid (HB6.out.grown hg7 (Nat.le_of_succ_le hXs) (fun k e => (by have := (hU6.lt k e).1; omega))); have HU7 := Lib.hid hU7; obtain ⟨A8, c8, hv8⟩ := hU7.shape; subst hv8; clear hX7 hU7 hg7 hat7 hU6)
          have HX8 := Lib.hid (Has.set_ HX7.out 1 (.slice A8 lw.length c8))
          refine ⟨⟨t + 1, _, lw, by go_num, by omega, HX8.out, ?_, HB7.out.setCell (p := ⟨X, 1, none⟩) (Nat.le_refl _) _, Lib.hid (by rw [HLW.out, HLV.out, HRN.out]), by have := HLN.out; omega⟩, by simp [intOf]; omega⟩
          exact HU7.out.keep fun j h1 _ => Below.heap_setCell _ ⟨X, 1, none⟩ _ j (by show j ≠ X; omega)
        · have et : t = m + 1 := by omega
          have tz : ¬ ((t : Int) ≤ (m : Int)) := by omega
          have HLVE : Hid (lv = (List.range (m + 1)).map lf) := Lib.hid (by rw [HLV.out, List.take_of_length_le (by simp; omega)])
          have x0 := hX.cell 0
          have x1 := hX.cell 1
          have HUU := Lib.hid (own_lessK hU (Nat.le_succ X))
          have hB' : Below wq.heap.size wq wr := by rw [← HXE.out]; exact hB
          have HUQ : Hid (OwnK wr wq.heap.size u lv) := Lib.hid (by rw [← HXE.out]; exact HUU.out)
          have hl1 : l1.length < 1000000 := by omega
          obtain ⟨A6, c6, hv6⟩ := hU.shape
          subst hv6
          have hBq2 := HBQ.out.size
          have HB8 := Lib.hid (HBQ.out.trans (hB'.mono HBQ.out.size))
          clear hX hU hB
          go_wp2_with (at_builtin; refine wpList_pushD rfl _ _ 31 rfl w2.heap.size inp Tryz.underlying31 hip hip1 hip2 hip3 (.slice A5 l1.length c5) l1 wq wr yi (.slice A6 lv.length c6) lv HO1.out hB' HUQ.out hBq2 rfl rfl hl1 ?_; intro v9 w9 ho9 hb9; obtain ⟨lw, hlw⟩ : ∃ lw, lw = l1 ++ [(⟨yi, lv⟩ : Ld)] := ⟨_, rfl⟩; rw [← hlw] at ho9; have hlwn : lw.length = l1.length + 1 := (by rw [hlw]; simp); have HLW := Lib.hid hlw; have HLN := Lib.hid hlwn; have HO9 := Lib.hid ho9; have HB9 := Lib.hid (HB8.out.trans hb9); clear hlw hlwn; obtain ⟨A9, c9, hv9⟩ := ho9.shape; subst hv9; clear ho9 hb9)
          exact ⟨⟨_, i + 1, lw, rfl, by go_num, hlt, HO9.out, HB9.out, Lib.hid (by rw [HLW.out, HL.out, HTK.out, HLVE.out]), by have := HLN.out; omega⟩, by simp [intOf]; omega⟩
    · have HLE : Hid (l1 = R) := Lib.hid (by rw [HL.out, List.take_of_length_le (by have := HRL.out; omega)])
      have HO := Lib.hid (ho1.low (show w.heap.size ≤ w2.heap.size from HB2.out.size))
      have HBF := Lib.hid (HB2.out.trans (hB.mono HB2.out.size))
      obtain ⟨A5, c5, hv5⟩ := ho1.shape
      subst hv5
      clear ho1 hB
      go_wp2_with fail
      go_ret2
      rw [← HLE.out]
      exact ⟨_, rfl, HO.out, HBF.out⟩
set_option maxRecDepth 100000 in
set_option maxHeartbeats 800000 in
theorem rbuild_any (A : Option Addr) (l : List Nd) (c : Nat) (h : Int) (w : World) (hl : Nds w w.heap.size A l) (hwd : ∀ x ∈ l, x.word < 4294967296) :
    Calls Tryz.prog 23 #[.slice A l.length c, .int .i64 h] w (RBldP l h w) := by
  by_cases hchk : chkV l = 0
  · by_cases hlv : lvB h = true
    · have h2 : 0 ≤ h ∧ h ≤ 16 := by simpa [lvB] using hlv
      obtain ⟨m, rfl⟩ := Int.eq_ofNat_of_zero_le h2.1
      refine (rbuild_ok A l c m w hl hchk (by omega)).mono fun e w' k => .inr ⟨bldE_ok hchk hlv, ?_⟩
      rw [show ((m : Int) + 1).toNat = m + 1 by omega]
      exact k
    · have hlz : lvB h = false := by simpa using hlv
      have hE : bldE l h = 2 := by unfold bldE; rw [if_pos hchk, if_neg hlv]
      have HC := Lib.hid ((ris_any A l c w hl hwd).mono fun e w' h => (⟨by rw [h.1, hchk]; rfl, h.2⟩ : e = .returned (.bool true) ∧ Below w.heap.size w w'))
      have HI := Lib.hid (fun (W : World) => rLevel_any h W)
      have HF : Hid (∀ e w', (e = .returned (.tuple #[.slice none 0 0, .int .i64 2]) ∧ Below w.heap.size w w') → RBldP l h w e w') := Lib.hid fun e w' k => .inl ⟨by rw [hE]; decide, by rw [hE]; exact k.1, k.2⟩
      rw [hlz] at HI
      refine Calls.mono ?_ HF.out
      clear hl hwd hchk hlv hlz hE HF
      go_enter Tryz.func23, Tryz.ntmps23
      go_wp2_with fail
      refine (HC.out).mono ?_
      rintro e w1 ⟨rfl, hb1⟩
      go_wp2_with fail
      refine (HI.out _).mono ?_
      rintro e w2 ⟨rfl, rfl⟩
      go_wp2_with fail
      go_ret2
      exact ⟨rfl, hb1⟩
  · have hE : bldE l h = 1 := by unfold bldE; rw [if_neg hchk]
    have hz : (chkV l == 0) = false := by simpa using hchk
    have HC := Lib.hid ((ris_any A l c w hl hwd).mono fun e w' h => (⟨by rw [h.1, hz], h.2⟩ : e = .returned (.bool false) ∧ Below w.heap.size w w'))
    have HF : Hid (∀ e w', (e = .returned (.tuple #[.slice none 0 0, .int .i64 1]) ∧ Below w.heap.size w w') → RBldP l h w e w') := Lib.hid fun e w' k => .inl ⟨by rw [hE]; decide, by rw [hE]; exact k.1, k.2⟩
    refine Calls.mono ?_ HF.out
    clear hl hwd hchk hE HF hz
    go_enter Tryz.func23, Tryz.ntmps23
    go_wp2_with fail
    refine (HC.out).mono ?_
    rintro e w1 ⟨rfl, hb1⟩
    go_wp2_with fail
    go_ret2
    exact ⟨rfl, hb1⟩
end
end Go.Proofs.YtjokbdhineilcaaGreatDoor
