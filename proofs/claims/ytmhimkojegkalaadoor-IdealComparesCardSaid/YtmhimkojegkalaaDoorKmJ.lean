/-
  Level, Classes, Height and Through of the reference of chapter 6. Condition: the nodes can be read.
-/
import Derived.Test.YtmhimkojegkalaaDoorLmD
import Derived.Test.YtmhimkojegkalaaDoorKhS
import Derived.Test.YtmhimkojegkalaaDoorKeB
import Derived.Test.YtmhimkojegkalaaDoorKdI
import Derived.Deep.DeepCutAuto
import Derived.Deep.CutBlock
import Derived.Deep.RegionHeld3
namespace Go.Proofs.YtmhimkojegkalaaDoor
open Go.RowKit

theorem rsortR_any (A : Option Addr) (l : List Nd) (c : Nat) (w : World) (hl : Nds w w.heap.size A l) (hc : chkV l = 0) :
    Calls Tryd.prog 69 #[.slice A l.length c] w (NdsP (srt l) w) :=
  (rsort_any A l c w hl (by have := (chkV_zero.1 hc).1; omega)).mono fun _ _ ⟨s, hs, h⟩ => by
    rw [← srt_of hs.srt (chkV_zero.1 hc).2.2]
    exact h
theorem rLevel_any (h : Int) (w : World) : Calls Tryd.prog 68 #[.int .i64 h] w fun e w' => e = .returned (.bool (lvB h)) ∧ w = w' := by
  have HL : Hid (lvB h = (decide (0 ≤ h) && decide (h ≤ 16))) := Lib.hid rfl
  generalize lvB h = Z at *
  by_cases h1 : 0 ≤ h
  · by_cases h2 : h ≤ 16
    · have HZ : Hid (Z = true) := Lib.hid (by rw [HL.out]; simp [h1, h2])
      go_enter Tryd.func68, Tryd.ntmps68
      go_wp2_with fail
      go_ret
      exact ⟨ret_bool HZ.out.symm, rfl⟩
    · have HZ : Hid (Z = false) := Lib.hid (by rw [HL.out]; simp [h2])
      go_enter Tryd.func68, Tryd.ntmps68
      go_wp2_with fail
      go_ret
      exact ⟨ret_bool HZ.out.symm, rfl⟩
  · have HZ : Hid (Z = false) := Lib.hid (by rw [HL.out]; simp [h1])
    go_enter Tryd.func68, Tryd.ntmps68
    go_wp2_with fail
    go_ret
    exact ⟨ret_bool HZ.out.symm, rfl⟩
set_option maxRecDepth 100000 in
set_option maxHeartbeats 800000 in
theorem rclassesR_any (A : Option Addr) (l : List Nd) (c : Nat) (h : Int) (w : World) (hl : Nds w w.heap.size A l) (hc : chkV l = 0) :
    Calls Tryd.prog 71 #[.slice A l.length c, .int .i64 h] w (RwsP (clsV (srt l) h) w) := by
  have HS := Lib.hid (rsortR_any A l c w hl hc)
  have HC := Lib.hid (fun (W : World) (A2 : Option Addr) (c2 : Nat) (hr : Nds W W.heap.size A2 (srt l)) => rclasses_any A2 (srt l) c2 h W hr (by have := srt_le hc; omega) (srt_wd hc))
  unfold RwsP
  unfold RwsP at HC
  generalize clsV (srt l) h = cs at *
  generalize srt l = S at *
  clear hl hc
  go_enter Tryd.func71, Tryd.ntmps71
  go_wp2_with fail
  refine (HS.out).mono ?_
  rintro e w1 ⟨A1, c1, rfl, ho1, hb1⟩
  obtain ⟨_, _, er, hr1⟩ := ho1.read
  injection er with e1 _ e2
  subst e1 e2
  have HC1 := Lib.hid (HC.out w1 A1 c1 hr1)
  clear ho1 hr1 HC
  go_wp2_with fail
  refine (HC1.out).mono ?_
  rintro e w2 ⟨A2, c2, rfl, hr2, hb2⟩
  go_wp2_with fail
  go_ret
  exact ⟨A2, c2, rfl, hr2, hb1.trans (hb2.mono hb1.size)⟩

set_option maxRecDepth 100000 in
set_option maxHeartbeats 1600000 in
theorem rheight_any (A : Option Addr) (l : List Nd) (c : Nat) (w : World) (hl : Nds w w.heap.size A l) (hwd : ∀ x ∈ l, x.word < 4294967296) :
    Calls Tryd.prog 32 #[.slice A l.length c] w fun e w' => e = .returned (.int .i64 (hgtV l : Int)) ∧ Below w.heap.size w w' := by
  have HC := Lib.hid (ris_any A l c w hl hwd)
  by_cases hchk : chkV l = 0
  · have e1 : hgtV l = hgtG l := if_pos hchk
    have HU : Hid (∀ k : Nat, k ≤ 16 → (∀ j : Nat, j < k → (clsV l (j : Int)).length ≠ l.length) → (k < 16 → (clsV l (k : Int)).length = l.length) → hgtG l = k) := Lib.hid fun _ => hgt_uniq
    have hn := (chkV_zero.1 hchk).1
    have HL := Lib.hid (fun (W : World) (k : Below w.heap.size w W) (h : Int) => rclassesR_any A l c h W ((hl.below k).more k.size) hchk)
    have HLN : Hid (∀ h, (clsV (srt l) h).length = (clsV l h).length ∧ (clsV l h).length ≤ l.length) := Lib.hid (fun h => ⟨clsV_len_perm h (fun x => srt_mem), clsV_len_le l h⟩)
    rw [hchk] at HC
    rw [e1]
    generalize hgtG l = R at *
    clear hl hwd e1
    have hzz : ((0 : Int) == 0) = true := rfl
    rw [hzz] at HC
    by_cases hn0 : l.length = 0
    · have hR : R = 0 := HU.out 0 (by omega) (fun j hj => absurd hj (Nat.not_lt_zero _)) (fun _ => by have := (HLN.out ((0 : Nat) : Int)).2; omega)
      subst hR
      rw [hn0] at HC ⊢
      clear HU HL HLN hn hn0 hchk
      go_enter Tryd.func32, Tryd.ntmps32
      go_wp2_with fail
      refine (HC.out).mono ?_
      rintro e w1 ⟨rfl, hb1⟩
      go_wp2_with fail
      go_ret
      exact ⟨rfl, hb1⟩
    have hnz : ((l.length : Int) == 0) = false := by simpa using hn0
    clear hchk
    go_enter Tryd.func32, Tryd.ntmps32
    go_wp2_with fail
    refine (HC.out).mono ?_
    rintro e w1 ⟨rfl, hb1⟩
    go_wp2_with fail
    go_loopw [3] (fun vk wr => ∃ k : Nat, vk = .int .i64 (k : Int) ∧ k ≤ 16 ∧ Below w.heap.size w wr ∧ Hid (∀ j : Nat, j < k → (clsV l (j : Int)).length ≠ l.length)) (fun vk _ => 16 - (intOf vk).toNat)
    case atStart => exact ⟨0, rfl, by omega, hb1, Lib.hid (fun j hj => absurd hj (Nat.not_lt_zero _))⟩
    case round =>
      clear hb1 HC hnz
      obtain ⟨k, rfl, hk, hB, HJ⟩ := hrel
      by_cases hlt : k < 16
      · have hz : (k : Int) < 16 := by omega
        have HK := Lib.hid (HL.out wr hB (k : Int))
        obtain ⟨hq1, hq2⟩ := HLN.out (k : Int)
        obtain ⟨q, hq⟩ : ∃ q, q = (clsV l (k : Int)).length := ⟨_, rfl⟩
        have HQ := Lib.hid hq
        unfold RwsP at HK
        rw [hq1, ← hq] at HK
        rw [← hq] at hq2
        obtain ⟨n, hnn⟩ : ∃ n, n = l.length := ⟨_, rfl⟩
        have HN := Lib.hid hnn
        rw [← hnn] at hn hq2 HK hn0 ⊢
        clear hq hnn hq1
        by_cases he : q = n
        · have hb : ¬ ((q : Int) < (n : Int)) := by omega
          go_wp2_with fail
          refine (HK.out).mono ?_
          rintro e w2 ⟨A2, c2, rfl, _, hb2⟩
          go_wp2_with fail
          go_ret
          refine ⟨ret_int ?_, hB.trans (hb2.mono hB.size)⟩
          rw [HU.out k hk HJ.out (fun _ => by rw [← HQ.out, ← HN.out]; exact he)]
        · have hb : ((q : Int) < (n : Int)) := by omega
          go_wp2_with fail
          refine (HK.out).mono ?_
          rintro e w2 ⟨A2, c2, rfl, _, hb2⟩
          go_wp2_with fail
          refine ⟨⟨k + 1, by go_num, hlt, hB.trans (hb2.mono hB.size), Lib.hid fun j hj => ?_⟩, by simp [intOf]; omega⟩
          rcases Nat.lt_or_ge j k with h5 | h5
          · rw [HN.out]; exact HJ.out j h5
          · have : j = k := by omega
            subst this
            rw [← HQ.out]
            exact he
      · have ek : k = 16 := by omega
        subst ek
        go_wp2_with fail
        go_ret
        exact ⟨ret_int (by rw [HU.out 16 (by omega) HJ.out (fun h => absurd h (by omega))]), hB⟩
  · have e1 : hgtV l = 0 := if_neg hchk
    have hz : (chkV l == 0) = false := by simpa using hchk
    rw [hz] at HC
    rw [e1]
    clear hl hwd hchk e1 hz
    go_enter Tryd.func32, Tryd.ntmps32
    go_wp2_with fail
    refine (HC.out).mono ?_
    rintro e w1 ⟨rfl, hb1⟩
    go_wp2_with fail
    go_ret
    exact ⟨rfl, hb1⟩

/-- What Through answers. -/
def ThrP (l : List Nd) (id h : Int) (w : World) (e : Ending) (w' : World) : Prop :=
  (nbB l id h = false ∧ e = .returned (.tuple #[.slice none 0 0, .int .i64 0, .bool false]) ∧ Below w.heap.size w w') ∨
  (nbB l id h = true ∧ ∃ A c, e = .returned (.tuple #[.slice A (grp (srt l) h (fndV l id).word).length c, .int .i64 (plc (grp (srt l) h (fndV l id).word) id : Int), .bool true]) ∧ Nds w' w'.heap.size A (grp (srt l) h (fndV l id).word) ∧ Below w.heap.size w w')

set_option maxRecDepth 100000 in
set_option maxHeartbeats 1600000 in
theorem through_any (A : Option Addr) (l : List Nd) (c : Nat) (id h : Int) (w : World) (hl : Nds w w.heap.size A l) (hn : l.length ≤ 1000) (hwd : ∀ x ∈ l, x.word < 4294967296) (hi : -9223372036854775808 ≤ id ∧ id ≤ 9223372036854775807) :
    Calls Tryd.prog 98 #[.slice A l.length c, .int .i64 id, .int .i64 h] w (ThrP l id h w) := by
  have HFD := Lib.hid (rfind_any A l c id w hl (by omega))
  have HIS := Lib.hid (fun (W : World) (k : Below w.heap.size w W) => ris_any A l c W ((hl.below k).more k.size) hwd)
  have HLV := Lib.hid (fun (W : World) => rLevel_any h W)
  unfold FndP at HFD
  by_cases hf : plc l id < l.length
  · by_cases hchk : chkV l = 0
    · by_cases hlv : lvB h = true
      · have hnb : nbB l id h = true := by unfold nbB; simp [hchk, hlv, hf]
        refine Calls.mono ?_ (fun e w' k => .inr ⟨hnb, k⟩)
        have h16 : 0 ≤ h ∧ h ≤ 16 := by simpa [lvB] using hlv
        have HSO := Lib.hid (fun (W : World) (k : Below w.heap.size w W) => rsortR_any A l c W ((hl.below k).more k.size) hchk)
        obtain ⟨x, hx, rfl⟩ := plc_found.1 hf
        have hfx : fndV l x.id = x := fnd_self (chkV_zero.1 hchk).2.2 hx
        have hxw := wide_of hchk x hx
        rw [hfx] at HFD ⊢
        have HGR := Lib.hid (fun (W : World) (A2 : Option Addr) (c2 : Nat) (hr : Nds W W.heap.size A2 (srt l)) => rgroup_any A2 (srt l) c2 h x.word W hr (by have := srt_le hchk; omega) (srt_wd hchk) hxw.2)
        have hg := grp_self h16.2 (srt_mem.2 hx)
        have hp := plc_mem hg
        have HID : Hid (∀ j (hj : j < (grp (srt l) h x.word).length), j < plc (grp (srt l) h x.word) x.id → (grp (srt l) h x.word)[j].id ≠ x.id) := Lib.hid fun j hj hlt => by
          have := List.not_of_lt_findIdx hlt
          simpa using this
        have HPI : Hid ((grp (srt l) h x.word)[plc (grp (srt l) h x.word) x.id].id = x.id) := Lib.hid (plc_id hp)
        have hgl : (grp (srt l) h x.word).length ≤ 64 := Nat.le_trans (grp_len _ _ _) (srt_le hchk)
        rw [hchk, show ((0 : Int) == 0) = true from rfl] at HIS
        rw [hlv] at HLV
        rw [decide_eq_true hf] at HFD
        generalize grp (srt l) h x.word = gr at *
        generalize srt l = S at *
        obtain ⟨xi, xk, xw⟩ := x
        simp only at hi hp HID HPI HFD ⊢
        obtain ⟨p, hp, hpe, HPI, HID⟩ : ∃ (p : Nat) (hp : p < gr.length), plc gr xi = p ∧ Hid (gr[p].id = xi) ∧ Hid (∀ j (hj : j < gr.length), j < p → gr[j].id ≠ xi) := ⟨_, hp, rfl, HPI, HID⟩
        rw [hpe]
        have HX := Lib.hid (fun (W : World) => Has.new W 57 #[.int .i64 xi, .string xk, .int .u32 (xw : Int)])
        clear hl hwd hf hchk hlv hnb hx hfx hxw hg hpe
        go_enter Tryd.func98, Tryd.ntmps98
        go_wp2_with fail
        refine (HFD.out).mono ?_
        rintro e w1 ⟨rfl, hb1⟩
        have hk1 := hb1.trans (((Below.refl w1.heap.size w1).alloc (Nat.le_refl _) (.cells #[.int .i64 xi, .string xk, .int .u32 (xw : Int)] 57)).mono hb1.size)
        have HX1 := Lib.hid (HX.out w1)
        have HB1 := Lib.hid hk1
        clear hb1 hk1 HFD HX
        go_wp2_with fail
        refine (HIS.out _ HB1.out).mono ?_
        rintro e w2 ⟨rfl, hb2⟩
        have HB2 := Lib.hid (HB1.out.trans (hb2.mono HB1.out.size))
        have HX2 := Lib.hid (HX1.out.below hb2)
        clear hb2 HIS HB1 HX1
        go_wp2_with fail
        refine (HLV.out _).mono ?_
        rintro e w3 ⟨rfl, rfl⟩
        have x2 : w2.drew.cell? ⟨w1.heap.size, 2, none⟩ = some (.int .u32 (xw : Int)) := HX2.out.cell 2
        have hlt2 : w1.heap.size < w2.drew.heap.size := HX2.out.lt
        go_upto_region 4 with fail
        clear HX2
        go_region_held3 (fun W => W.cell? ⟨w1.heap.size, 2, none⟩ = some (.int .u32 (xw : Int))) (first | with_reducible exact hx4 | with_reducible exact hx3 | with_reducible exact x2 | with_reducible assumption) (first | (go_at_call 116; refine (HGR.out wa A3 c3 hr3).mono ?_; rintro e wb ⟨A4, c4, rfl, ho4, hb4⟩; have hx4 := (hb4.cell (p := ⟨w1.heap.size, 2, none⟩) hlt3).trans hx3) | (go_at_call 69; refine (HSO.out _ (HB2.out.drew)).mono ?_; rintro e wa ⟨A3, c3, rfl, ho3, hb3⟩; obtain ⟨_, _, er, hr3⟩ := ho3.read; injection er with e1 _ e2; subst e1 e2; have hlt3 : w1.heap.size < wa.heap.size := World.block_lt_of_cell? wa _ ((hb3.cell (p := ⟨w1.heap.size, 2, none⟩) hlt2).trans x2); have hx3 := (hb3.cell (p := ⟨w1.heap.size, 2, none⟩) hlt2).trans x2))
        all_goals
          have Ba := HB2.out.drew.trans (hb3.mono HB2.out.drew.size)
          have HBb := Lib.hid (Ba.trans (hb4.mono Ba.size))
          obtain ⟨_, _, er, hr4⟩ := ho4.read
          injection er with e1 _ e2
          subst e1 e2
          obtain ⟨q, hq⟩ : ∃ q, q = gr.length := ⟨_, rfl⟩
          have HQ := Lib.hid hq
          have hpq : p < q := by omega
          rw [← hq] at hgl ⊢
          clear hb3 hb4 Ba ho3 ho4 hr3 hlt3 hx3 hx4 x2 hlt2 HSO HGR HB2 HLV hq
          go_wp2_with fail
          go_loopw [12] (fun vi wr => ∃ i : Nat, vi = .int .i64 (i : Int) ∧ i ≤ p ∧ wr = wb) (fun vi _ => q - (intOf vi).toNat)
          case atStart => exact ⟨0, rfl, by omega, rfl⟩
          case round =>
            obtain ⟨i, rfl, hip, rfl⟩ := hrel
            have hi2 : i < gr.length := by rw [← HQ.out]; omega
            obtain ⟨b, o, eA, hbl, f1, _, _⟩ := hr4.at_ hi2
            subst eA
            have i0 : (0 : Int) ≤ (i : Int) := by omega
            have i1 : (i : Int) < (q : Int) := by omega
            have q64 : (q : Int) ≤ 64 := by omega
            by_cases e : i = p
            · subst e
              rw [HPI.out] at f1
              have he : ((xi : Int) == xi) = true := by simp
              have HR := Lib.hid hr4
              clear hr4
              go_wp2_with fail
              go_ret3
              exact ⟨some ⟨b, o, none⟩, c4, by rw [← HQ.out]; rfl, HR.out, HBb.out⟩
            · have hne := HID.out i hi2 (by omega)
              have he : ((gr[i].id : Int) == xi) = false := by simpa using hne
              generalize gr[i].id = y at *
              go_wp2_with fail
              exact ⟨⟨i + 1, by go_num, by omega, by first | rfl | trivial⟩, by simp [intOf]; omega⟩
      · have hlz : lvB h = false := by simpa using hlv
        have hnb : nbB l id h = false := by unfold nbB; simp [hlz]
        refine Calls.mono ?_ (fun e w' k => .inl ⟨hnb, k⟩)
        rw [hchk, show ((0 : Int) == 0) = true from rfl] at HIS
        rw [hlz] at HLV
        rw [decide_eq_true hf] at HFD
        generalize fndV l id = x at *
        obtain ⟨xi, xk, xw⟩ := x
        clear hl hwd hi hf hchk hlv hlz hnb
        go_enter Tryd.func98, Tryd.ntmps98
        go_wp2_with fail
        refine (HFD.out).mono ?_
        rintro e w1 ⟨rfl, hb1⟩
        have HB1 := Lib.hid (hb1.trans (((Below.refl w1.heap.size w1).alloc (Nat.le_refl _) (.cells #[.int .i64 xi, .string xk, .int .u32 (xw : Int)] 57)).mono hb1.size))
        clear hb1 HFD
        go_wp2_with fail
        refine (HIS.out _ HB1.out).mono ?_
        rintro e w2 ⟨rfl, hb2⟩
        have HB2 := Lib.hid (HB1.out.trans (hb2.mono HB1.out.size))
        clear hb2 HIS HB1
        go_wp2_with fail
        refine (HLV.out _).mono ?_
        rintro e w3 ⟨rfl, rfl⟩
        go_wp2_with fail
        go_ret3
        exact ⟨rfl, HB2.out⟩
    · have hnb : nbB l id h = false := by unfold nbB; simp [hchk]
      have hz : (chkV l == 0) = false := by simpa using hchk
      refine Calls.mono ?_ (fun e w' k => .inl ⟨hnb, k⟩)
      rw [hz] at HIS
      rw [decide_eq_true hf] at HFD
      generalize fndV l id = x at *
      obtain ⟨xi, xk, xw⟩ := x
      clear hl hwd hi hf hchk hz hnb
      go_enter Tryd.func98, Tryd.ntmps98
      go_wp2_with fail
      refine (HFD.out).mono ?_
      rintro e w1 ⟨rfl, hb1⟩
      have HB1 := Lib.hid (hb1.trans (((Below.refl w1.heap.size w1).alloc (Nat.le_refl _) (.cells #[.int .i64 xi, .string xk, .int .u32 (xw : Int)] 57)).mono hb1.size))
      clear hb1 HFD
      go_wp2_with fail
      refine (HIS.out _ HB1.out).mono ?_
      rintro e w2 ⟨rfl, hb2⟩
      have HB2 := Lib.hid (HB1.out.trans (hb2.mono HB1.out.size))
      clear hb2 HIS HB1
      go_wp2_with fail
      go_ret3
      exact ⟨rfl, HB2.out⟩
  · have hnb : nbB l id h = false := by unfold nbB; simp [hf]
    refine Calls.mono ?_ (fun e w' k => .inl ⟨hnb, k⟩)
    rw [decide_eq_false hf] at HFD
    generalize fndV l id = x at *
    obtain ⟨xi, xk, xw⟩ := x
    clear hl hwd hi hf hnb
    go_enter Tryd.func98, Tryd.ntmps98
    go_wp2_with fail
    refine (HFD.out).mono ?_
    rintro e w1 ⟨rfl, hb1⟩
    have HB1 := Lib.hid (hb1.trans (((Below.refl w1.heap.size w1).alloc (Nat.le_refl _) (.cells #[.int .i64 xi, .string xk, .int .u32 (xw : Int)] 57)).mono hb1.size))
    clear hb1 HFD
    go_wp2_with fail
    go_ret3
    exact ⟨rfl, HB1.out⟩
end Go.Proofs.YtmhimkojegkalaaDoor
