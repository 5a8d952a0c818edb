/-
  The example of chapter 5: it answers true. No condition.
-/
import Derived.Test.YtiafimbehcemcaaDoorKgJ
namespace Go.Proofs.YtiafimbehcemcaaDoor
open Go.RowKit

theorem kl_dec (a b : ByteArray) : kl a b = decide (a.data.toList < b.data.toList) := by
  unfold kl
  rw [bl_eq, toList_data, toList_data]
def nM : Nd := ⟨1, ⟨#[109]⟩, 0⟩
def nC : Nd := ⟨2, ⟨#[99]⟩, 0⟩
theorem two_ok : chkV [nM, nC] = 0 := by
  refine chkV_zero.2 ⟨by decide, by decide +kernel, ?_⟩
  simp [Nd.apart, nM, nC]
theorem srt_two : srt [nM, nC] = [nC, nM] := by
  refine (srt_of ⟨List.Perm.swap nM nC [], ?_⟩ (chkV_zero.1 two_ok).2.2).symm
  have h : nlt nM nC = false := by
    unfold nlt
    rw [kl_dec, kl_dec]
    decide +kernel
  simp [h]
theorem own_two : ownV [nC, nM] ⟨#[97]⟩ = nC := by
  have h1 : kl ⟨#[97]⟩ nC.key = true := by rw [kl_dec]; decide +kernel
  have h2 : abv [nC, nM] ⟨#[97]⟩ = 0 := by unfold abv; rw [List.findIdx_cons, h1]; rfl
  unfold ownV
  rw [h2]
  rfl
theorem plc_two2 : plc [nC, nM] 2 = 0 := by decide +kernel
theorem plc_two1 : plc [nC, nM] 1 = 1 := by decide +kernel
theorem wout_two : wout [nM, nC] [2] = [nM] := by simp [wout, nM, nC]

set_option maxRecDepth 100000 in
set_option maxHeartbeats 800000 in
theorem two_any (w : World) : Calls Tryd.prog 112 #[] w fun e w' => ∃ A, e = .returned (.slice A 2 2) ∧ Nds w' w'.heap.size A [nM, nC] ∧ Below w.heap.size w w' := by
  have hb := (Below.refl w.heap.size w).alloc (Nat.le_refl _) (.cells #[.int .i64 1, .string ⟨#[109]⟩, .int .u32 0, .int .i64 2, .string ⟨#[99]⟩, .int .u32 0] 60)
  have h2 := two_nodes w nM nC
  go_enter Tryd.func112, Tryd.ntmps112
  go_wp2_with fail
  go_ret
  exact ⟨_, rfl, by rw [World.size_alloc]; exact h2, hb⟩

set_option maxRecDepth 100000 in
set_option maxHeartbeats 3200000 in
theorem sane5_any (w : World) : Calls Tryd.prog 51 #[] w (LawP w) := by
  have T := Lib.hid two_any
  have O := Lib.hid (fun (A : Option Addr) (w : World) (h : Nds w w.heap.size A [nM, nC]) => owner_yes A [nM, nC] 2 ⟨#[97]⟩ w h (by simp) (by simp) two_ok (by decide +kernel))
  have I := Lib.hid (fun (A : Option Addr) (w : World) (h : Nds w w.heap.size A [nM, nC]) => interval_any A [nM, nC] 2 2 w h (by simp) (by simp) two_ok)
  have R := Lib.hid (fun (A : Option Addr) (w : World) (h : Nds w w.heap.size A [nM, nC]) => rank_any A [nM, nC] 2 1 w h (by simp) (by simp) two_ok)
  have S := Lib.hid (fun (A : Option Addr) (w : World) (h : Nds w w.heap.size A [nM, nC]) => sort_any A [nM, nC] 2 w h (by simp) (by simp))
  have C := Lib.hid (fun (A : Option Addr) (w : World) (h : Nds w w.heap.size A [nM, nC]) => check_any A [nM, nC] 2 w h (ros_wide two_ok))
  rw [srt_two, own_two, show nC.val = .agg #[.int .i64 2, .string ⟨#[99]⟩, .int .u32 0] from rfl] at O
  have e1 : ivlV [nC, nM] 2 = ⟨⟨⟨#[]⟩, false⟩, ⟨⟨#[109]⟩, false⟩⟩ := by unfold ivlV ivlAt; rw [plc_two2]; rfl
  have e2 : decide (plc [nC, nM] 2 < [nC, nM].length) = true := by rw [plc_two2]; rfl
  have e3 : rnkV [nC, nM] 1 = 1 := by unfold rnkV; rw [plc_two1]; rfl
  have e4 : decide (plc [nC, nM] 1 < [nC, nM].length) = true := by rw [plc_two1]; rfl
  rw [srt_two, e1, e2, show (⟨⟨⟨#[]⟩, false⟩, ⟨⟨#[109]⟩, false⟩⟩ : Rg).val = .agg #[.string ⟨#[]⟩, .bool false, .string ⟨#[109]⟩, .bool false] from rfl] at I
  rw [srt_two, e3, e4] at R
  rw [two_ok] at C
  clear e1 e2 e3 e4
  have W := Lib.hid (fun (A : Option Addr) (w : World) (h : Nds w w.heap.size A [nM, nC]) => without_any A (some ⟨w.heap.size, 0, none⟩) [nM, nC] 2 1 [2] (w.alloc (.cells #[.int .i64 2] 3)) (by rw [World.size_alloc]; exact (h.below ((Below.refl _ _).alloc (Nat.le_refl _) _)).more (Nat.le_succ _)) (fun _ => ⟨w.heap.size, 0, rfl, by rw [World.size_alloc]; exact Nat.lt_succ_self _, fun i hi => by
    have h2 : i = 0 := by simp at hi; omega
    subst h2
    exact ⟨by constructor <;> simp, (Has.new w 3 #[.int .i64 2]).cell 0⟩⟩) (by simp) (by simp) (by intro x hx; simp [nM, nC] at hx; rcases hx with rfl | rfl <;> decide))
  rw [wout_two] at W
  go_enter Tryd.func51, Tryd.ntmps51
  go_wp2_with fail
  refine (T.out _).mono ?_
  rintro e w1 ⟨A1, rfl, hr1, hb1⟩
  go_wp2_with fail
  refine (O.out A1 w1 hr1).mono ?_
  rintro e w2 ⟨rfl, hb2⟩
  have B2 := hb1.trans (hb2.mono hb1.size)
  have hX := Has.new w2 60 #[.int .i64 2, .string ⟨#[99]⟩, .int .u32 0]
  have B2' := B2.alloc B2.size (.cells #[.int .i64 2, .string ⟨#[99]⟩, .int .u32 0] 60)
  have HX := Lib.hid hX
  clear hb1 hb2 hr1 O B2 hX
  go_wp2_with fail
  refine (T.out _).mono ?_
  rintro e w3 ⟨A3, rfl, hr3, hb3⟩
  have X3 := HX.out.below hb3
  have B3 := B2'.trans (hb3.mono B2'.size)
  clear HX hb3 B2'
  go_wp2_with fail
  refine (I.out A3 w3 hr3).mono ?_
  rintro e w4 ⟨rfl, hb4⟩
  have hY := Has.new w4 74 #[.string ⟨#[]⟩, .bool false, .string ⟨#[109]⟩, .bool false]
  have X4 := (X3.below hb4).alloc (.cells #[.string ⟨#[]⟩, .bool false, .string ⟨#[109]⟩, .bool false] 74)
  have B4 := B3.trans (hb4.mono B3.size)
  have B4' := B4.alloc B4.size (.cells #[.string ⟨#[]⟩, .bool false, .string ⟨#[109]⟩, .bool false] 74)
  have HX := Lib.hid X4
  have HY := Lib.hid hY
  clear hb4 hr3 I B4 hY X4 X3 B3
  go_wp2_with fail
  refine (T.out _).mono ?_
  rintro e w5 ⟨A5, rfl, hr5, hb5⟩
  have B5 := B4'.trans (hb5.mono B4'.size)
  go_wp2_with fail
  refine (R.out A5 w5 hr5).mono ?_
  rintro e w6 ⟨rfl, hb6⟩
  have B6 := B5.trans (hb6.mono B5.size)
  have X6 := (HX.out.below hb5).below hb6
  have Y6 := (HY.out.below hb5).below hb6
  clear hb5 hb6 hr5 R B5 B4' HX HY
  go_wp2_with fail
  refine (T.out _).mono ?_
  rintro e w7 ⟨A7, rfl, hr7, hb7⟩
  have B7 := B6.trans (hb7.mono B6.size)
  go_wp2_with fail
  refine (S.out A7 w7 hr7).mono ?_
  rintro e w8 ⟨s, hs, A8, c8, rfl, ho, hb8⟩
  have hse : s = [nC, nM] := by rw [← srt_two]; exact srt_of hs (chkV_zero.1 two_ok).2.2
  subst hse
  have B8 := B7.trans (hb8.mono B7.size)
  have X8 := (X6.below hb7).below hb8
  have Y8 := (Y6.below hb7).below hb8
  obtain ⟨_, _, er, hr⟩ := ho.read
  injection er with q1 _ q2
  subst q1 q2
  obtain ⟨b, o, hA, hbl, f1, f2, f3⟩ := hr.at_ (i := 0) (by simp)
  subst hA
  rw [Nat.zero_mul, Nat.add_zero] at f1
  have x0 := X8.cell 0
  have y0 := Y8.cell 0
  have y1 := Y8.cell 1
  have y2 := Y8.cell 2
  have y3 := Y8.cell 3
  have f1' : w8.cell? ⟨b, o, none⟩ = some (.int .i64 2) := f1
  clear hb7 hb8 hr7 S B7 B6 X6 Y6 ho hr f1 f2 f3 X8 Y8 hs
  go_wp2_with fail
  refine (T.out _).mono ?_
  rintro e w9 ⟨A9, rfl, hr9, hb9⟩
  have B9 := B8.trans (hb9.mono B8.size)
  go_wp2_with fail
  refine (C.out A9 w9 hr9).mono ?_
  rintro e w10 ⟨rfl, hb10⟩
  have B10 := B9.trans (hb10.mono B9.size)
  go_wp2_with fail
  refine (T.out _).mono ?_
  rintro e w11 ⟨A11, rfl, hr11, hb11⟩
  have B11 := B10.trans (hb11.mono B10.size)
  have B12 := B11.alloc B11.size (.cells #[.int .i64 2] 3)
  have HW := Lib.hid (W.out A11 w11 hr11)
  clear T C W hb9 hb10 hb11 B8 B9 B10 B11 hr9 hr11 x0 y0 y1 y2 y3 f1'
  go_wp2_with fail
  refine (HW.out).mono ?_
  rintro e w13 ⟨A13, c13, rfl, ho13, hb13⟩
  have B13 := B12.trans (hb13.mono B12.size)
  clear ho13 hb13 B12 HW
  go_wp2_with fail
  go_ret
  exact ⟨rfl, B13⟩
end Go.Proofs.YtiafimbehcemcaaDoor
