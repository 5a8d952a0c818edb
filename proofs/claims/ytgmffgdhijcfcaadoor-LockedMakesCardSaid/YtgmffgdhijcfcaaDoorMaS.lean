/-
  The example of chapter 11. No condition.
-/
import Derived.Test.YtgmffgdhijcfcaaDoorMaH
namespace Go.Proofs.YtgmffgdhijcfcaaDoor
open Go.RowKit Go.Maps
namespace Lk
theorem sel_false : selV [false] = fun _ => false := by
  funext i
  unfold selV
  match i - 2 with
  | 0 => rfl
  | _ + 1 => rfl
theorem x_sta : staE x0 0 1 2 = 0 := by
  unfold staE
  rw [vldB_yes x_led0.1, if_neg (by decide), if_neg (by decide), if_neg (by decide), if_neg (by decide), if_neg (by decide)]
set_option maxRecDepth 100000 in
set_option maxHeartbeats 6400000 in
theorem sane11_any (w : World) : Calls Tryd.prog 17 #[] w (Quiet (.bool true) w) := by
  have hb0 := ((Below.refl w.heap.size w).alloc (Nat.le_refl _) (.cells #[.string kb11] 9)).alloc (by rw [World.size_alloc]; omega) (.cells #[.bool false] 4)
  have HB0 := Lib.hid hb0
  have hNW := new_any (some ⟨w.heap.size, 0, none⟩) (some ⟨w.heap.size + 1, 0, none⟩) [kb11] [false] 1 1 1 1 1 ((w.alloc (.cells #[.string kb11] 9)).alloc (.cells #[.bool false] 4)) rfl rfl (RdR.low ((RdR.new (enc := trow) (e := 9) (fun _ => rfl) w kb11 _ rfl).below ((Below.refl _ _).alloc (Nat.le_refl _) (.cells #[.bool false] 4))) (Nat.zero_le _)) (by have := RdR.low (RdR.new (enc := brow) (e := 4) (fun _ => rfl) (w.alloc (.cells #[.string kb11] 9)) false _ rfl) (Nat.zero_le _); rw [World.size_alloc] at this; exact this) (by omega) (by omega)
  have HNW := Lib.hid hNW
  have HE : Hid (newE [kb11] [false] 1 = 0) := Lib.hid (by
    unfold newE
    rw [if_neg (by decide), if_neg (by decide), if_neg (fun q => q.elim (fun q => q rfl) (fun q => q (fun k hk => by simp at hk; subst hk; rfl))), if_neg (fun q => q (by simp))])
  clear hb0 hNW
  unfold kb11 at HNW HB0
  go_enter Tryd.func17, Tryd.ntmps17
  go_upto_region 1 with fail
  go_wp2_with (first | (go_at_call 14; (refine (HNW.out).mono ?_); rintro e w1 (⟨q, -, -⟩ | ⟨-, G1, G2, d1, d2, rfl, hr, hb⟩); (exact absurd HE.out q); rw [show newV [⟨#[98]⟩] (1 : Int).toNat (selV [false]) = x0 by rw [sel_false]; exact x_new] at hr; have HB1 := Lib.hid (HB0.out.trans (hb.mono HB0.out.size)); have hs1 := HB1.out.size; have HL1 := Lib.hid (HoL.new (d1 := d1) (d2 := d2) (t := 35) (n := 3) (m := 1) (RdL.low hr HB0.out.size) x_led0.1 hs1 rfl rfl); clear hr hb) | (go_at_call 22; (refine (start_any (some ⟨G1, 0, none⟩) (some ⟨G2, 0, none⟩) x0 0 1 2 3 1 d1 d2 _ rfl rfl (HL1.out.rd.low (Nat.zero_le _))).mono ?_); rintro e w2 (⟨q, -, -⟩ | ⟨-, J1, J2, e1, e2, rfl, hr, hb⟩); (exact absurd x_sta q); have hr : RdL w2 _ _ _ x1 := hr; have HB2 := Lib.hid ((HB1.out.alloc hs1 _).trans (hb.mono (by rw [World.size_alloc]; omega))); have HL2 := Lib.hid (HoL.put (d1 := e1) (d2 := e2) HL1.out hb hr x_led1.1 rfl rfl); have y0 := (HL1.out.below hb).x0; have y1 := (HL1.out.below hb).x1; have z0 := (HL1.out.below hb).fz 0; have z1 := (HL1.out.below hb).fz 1; clear hr hb))
  go_loopw [3, 4] (fun vn vo wr => ∃ k G1 G2 d1 d2 : Nat, vn = .int .i64 (k : Int) ∧ vo = .bool (decide (k < 9)) ∧ k ≤ 9 ∧ HoL wr w1.heap.size w.heap.size (xs k) 3 1 G1 G2 d1 d2 ∧ Below w.heap.size w wr) (fun vn _ _ => 20 - (intOf vn).toNat)
  case atStart => exact ⟨0, _, _, _, _, rfl, rfl, by omega, HL2.out, (HB2.out.setCell (p := ⟨w1.heap.size, 0, none⟩) hs1 _).setCell (p := ⟨w1.heap.size, 1, none⟩) hs1 _⟩
  case round =>
    clear HL1 HL2 HB1 HB2 y0 y1 z0 z1
    obtain ⟨k, J1, J2, e1, e2, rfl, rfl, hk, hl, hb⟩ := hrel
    have y0 := hl.x0
    have y1 := hl.x1
    have HL := Lib.hid hl
    have HBR := Lib.hid hb
    by_cases hlt : k < 9
    · have hd : decide (k < 9) = true := by simpa using hlt
      have h20 : decide ((k : Int) < 20) = true := by simp; omega
      have HSP := Lib.hid (step_any ⟨J1, 0, none⟩ ⟨J2, 0, none⟩ (xs k) 0 3 1 e1 e2 wr hl.hn hl.hm (hl.rd.low (Nat.zero_le _)) (xs_led k).1)
      clear hl hb
      by_cases h8 : k < 8
      · have HS := Lib.hid (xs_step h8)
        have h9 : decide (k + 1 < 9) = true := by simp; omega
        clear hlt
        go_wp2_with (go_at_call 23; (refine (HSP.out).mono ?_); rintro e w3 ⟨K1, K2, f1, f2, rfl, hr, hb3⟩; rw [HS.out] at hr ⊢; have hr : RdL w3 _ _ _ (xs (k + 1)) := hr; have HB3 := Lib.hid (HBR.out.trans (hb3.mono HBR.out.size)); have HL3 := Lib.hid (HoL.put (d1 := f1) (d2 := f2) HL.out hb3 hr (xs_led (k + 1)).1 (xs_len (k + 1)).1 (xs_len (k + 1)).2); have y0 := (HL.out.below hb3).x0; have y1 := (HL.out.below hb3).x1; have z0 := (HL.out.below hb3).fz 0; have z1 := (HL.out.below hb3).fz 1; clear hr hb3)
        exact ⟨⟨k + 1, _, _, _, _, by go_num, by rw [h9], by omega, HL3.out, (HB3.out.setCell (p := ⟨w1.heap.size, 0, none⟩) hs1 _).setCell (p := ⟨w1.heap.size, 1, none⟩) hs1 _⟩, by simp [intOf]; omega⟩
      · obtain rfl : k = 8 := by omega
        have HS := Lib.hid (xs_last (k := 8) (by omega)).2
        clear hlt
        go_wp2_with (go_at_call 23; (refine (HSP.out).mono ?_); rintro e w3 ⟨K1, K2, f1, f2, rfl, hr, hb3⟩; rw [HS.out] at hr ⊢; have hr : RdL w3 _ _ _ (xs 9) := hr; have HB3 := Lib.hid (HBR.out.trans (hb3.mono HBR.out.size)); have HL3 := Lib.hid (HoL.put (d1 := f1) (d2 := f2) HL.out hb3 hr (xs_led 9).1 (xs_len 9).1 (xs_len 9).2); have y0 := (HL.out.below hb3).x0; have y1 := (HL.out.below hb3).x1; have z0 := (HL.out.below hb3).fz 0; have z1 := (HL.out.below hb3).fz 1; clear hr hb3)
        exact ⟨⟨9, _, _, _, _, rfl, rfl, by omega, HL3.out, (HB3.out.setCell (p := ⟨w1.heap.size, 0, none⟩) hs1 _).setCell (p := ⟨w1.heap.size, 1, none⟩) hs1 _⟩, by decide⟩
    · obtain rfl : k = 9 := by omega
      have HLX : Hid (HoL wr w1.heap.size w.heap.size x9 3 1 J1 J2 e1 e2) := Lib.hid HL.out
      have HMB := Lib.hid (Members_any (some ⟨J1, 0, none⟩) (some ⟨J2, 0, none⟩) x9 3 1 e1 e2 wr rfl rfl (HLX.out.rd.low (Nat.zero_le _)))
      have HME : Hid ((if vldB x9 then nat2 (memV x9) else []) = [(2 : Int)]) := Lib.hid (by rw [vldB_yes x_led9.1, if_pos rfl, x_mem9]; rfl)
      clear hl hb hlt
      go_wp2_with (first | (go_at_call 24; (refine (HMB.out).mono ?_); rintro e w5 ⟨A, q, c, rfl, hq, -, -, hr, hb5⟩; rw [HME.out] at hq hr; obtain rfl : q = 1 := hq.symm; obtain ⟨b5, o5, e5, -, -, t5⟩ := num_at hr (i := 0) (by decide); subst e5; have t5 : w5.cell? ⟨b5, o5, none⟩ = some (.int .i64 2) := t5; have HB5 := Lib.hid (HBR.out.trans (hb5.mono HBR.out.size)); have HL5 := Lib.hid (HLX.out.below hb5); have y0 := HL5.out.x0; have y1 := HL5.out.x1; clear hr hb5 hq) | (go_at_call 19; (refine (check_any (some ⟨J1, 0, none⟩) (some ⟨J2, 0, none⟩) x9 3 1 e1 e2 _ rfl rfl (HL5.out.rd.low (Nat.zero_le _))).mono ?_); intro e w6 h6; obtain ⟨rfl, hb6⟩ := h6.yes x_chk9; have HB6 := Lib.hid (HB5.out.trans (hb6.mono HB5.out.size)); have HL6 := Lib.hid (HL5.out.below hb6); have y0 := HL6.out.x0; have y1 := HL6.out.x1; obtain ⟨b6, o6, e6, -, -, -, -, -, -, -, -, t6⟩ := HL6.out.rd.proc (i := 0) (by decide); (injection e6 with e6); (injection e6 with e7 e8); subst e7 e8; have t6 : w6.cell? ⟨J2, 6, none⟩ = some (.bool true) := t6; clear hb6))
      go_ret
      exact ⟨rfl, HB6.out⟩
end Lk
end Go.Proofs.YtgmffgdhijcfcaaDoor
