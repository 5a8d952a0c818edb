/-
  The example of chapter 6: what the package's functions answer. No condition.
-/
import Derived.Test.YtmhimkojegkalaaDoorKmG
import Derived.Test.YtmhimkojegkalaaDoorKdH
namespace Go.Proofs.YtmhimkojegkalaaDoor
open Go.RowKit

def three6 : List Nd := [⟨1, ⟨#[97]⟩, 0⟩, ⟨2, ⟨#[98]⟩, 1⟩, ⟨3, ⟨#[99]⟩, 2⟩]
theorem t_ok : chkV three6 = 0 := by
  refine chkV_zero.2 ⟨by decide, by decide +kernel, ?_⟩
  simp [Nd.apart, three6]
theorem t_srt : srt three6 = three6 := (srt_of ⟨List.Perm.refl _, by decide +kernel⟩ (chkV_zero.1 t_ok).2.2).symm
theorem t_hgt : hgtV three6 = 2 := by
  unfold hgtV
  rw [if_pos t_ok]
  decide +kernel
theorem t_nb : nbB three6 1 1 = true ∧ nbL three6 1 1 = ⟨0, 3⟩ := by
  have h := nb_in t_ok (h := 1) (by decide) (by decide) (x := ⟨1, ⟨#[97]⟩, 0⟩) (by simp [three6])
  refine ⟨h.1, h.2.trans ?_⟩
  rw [t_srt]
  decide +kernel
theorem t_lst : lstV three6 1 = [[1, 3], [2]] := by
  unfold lstV
  rw [if_pos ⟨t_ok, by decide⟩, t_srt]
  decide +kernel
theorem t_bld : bldV three6 2 = [⟨1, [⟨0, 2⟩, ⟨0, 3⟩]⟩, ⟨2, [⟨1, 3⟩, ⟨0, 0⟩]⟩, ⟨3, [⟨2, 0⟩, ⟨1, 0⟩]⟩] := by
  unfold bldV
  rw [t_srt]
  decide +kernel
theorem eq_lk (a b : Lk) (w : World) : (Op.equalIn 10000 61 (.agg #[.int .i64 a.left, .int .i64 a.right]) (.agg #[.int .i64 b.left, .int .i64 b.right])).run Tryd.prog w = .ok (decide (a = b)) w := by
  rw [run_equalIn_agg w 9999 61 _ _ (by kernel_rfl) (by kernel_rfl)]
  obtain ⟨al, ar⟩ := a
  obtain ⟨bl, br⟩ := b
  by_cases h1 : al = bl <;> by_cases h2 : ar = br <;> simp [go_sem, Tryd.underlying61, Tryd.underlying3, h1, h2]
theorem neq_lk (a b : Lk) (w : World) : (binOp .neq 61 (.agg #[.int .i64 a.left, .int .i64 a.right]) (.agg #[.int .i64 b.left, .int .i64 b.right])).run Tryd.prog w = .ok (.bool (!decide (a = b))) w := by
  rw [run_neq_struct, eq_lk]
  rfl
theorem eql_lk (a b : Lk) (w : World) : (binOp .eql 61 (.agg #[.int .i64 a.left, .int .i64 a.right]) (.agg #[.int .i64 b.left, .int .i64 b.right])).run Tryd.prog w = .ok (.bool (decide (a = b))) w := by
  rw [run_eql_struct, eq_lk]
  rfl
theorem three_any (w : World) : Calls Tryd.prog 61 #[] w fun e w' => ∃ A, e = .returned (.slice A 3 3) ∧ Nds w' w'.heap.size A three6 ∧ Below w.heap.size w w' := by
  have hb := (Below.refl w.heap.size w).alloc (Nat.le_refl _) (.cells #[.int .i64 1, .string ⟨#[97]⟩, .int .u32 0, .int .i64 2, .string ⟨#[98]⟩, .int .u32 1, .int .i64 3, .string ⟨#[99]⟩, .int .u32 2] 57)
  have h2 : Nds (w.alloc (.cells #[.int .i64 1, .string ⟨#[97]⟩, .int .u32 0, .int .i64 2, .string ⟨#[98]⟩, .int .u32 1, .int .i64 3, .string ⟨#[99]⟩, .int .u32 2] 57)) (w.heap.size + 1) (some ⟨w.heap.size, 0, none⟩) three6 := fun _ => by
    have hN := Has.new w 57 #[.int .i64 1, .string ⟨#[97]⟩, .int .u32 0, .int .i64 2, .string ⟨#[98]⟩, .int .u32 1, .int .i64 3, .string ⟨#[99]⟩, .int .u32 2]
    refine ⟨_, 0, rfl, by omega, fun i hi => ?_⟩
    have h3 : i = 0 ∨ i = 1 ∨ i = 2 := by simp [three6] at hi; omega
    rcases h3 with rfl | rfl | rfl
    · exact ⟨hN.cell 0, hN.cell 1, hN.cell 2⟩
    · exact ⟨hN.cell 3, hN.cell 4, hN.cell 5⟩
    · exact ⟨hN.cell 6, hN.cell 7, hN.cell 8⟩
  go_enter Tryd.func61, Tryd.ntmps61
  go_wp2_with fail
  go_ret
  exact ⟨_, rfl, by rw [World.size_alloc]; exact h2, hb⟩

set_option maxRecDepth 100000 in
set_option maxHeartbeats 1600000 in
theorem sane6_any (w : World) : Calls Tryd.prog 25 #[] w (LawP w) := by
  have T := Lib.hid three_any
  have BD := Lib.hid (fun (A : Option Addr) (W : World) (h : Nds W W.heap.size A three6) => build_ok A three6 3 1 W h t_ok (by decide))
  have NB := Lib.hid (fun (A : Option Addr) (W : World) (h : Nds W W.heap.size A three6) => neighbours_any A three6 3 1 1 W h (by simp [three6]) (by decide))
  have LS := Lib.hid (fun (A : Option Addr) (W : World) (h : Nds W W.heap.size A three6) => lists_any6 A three6 3 1 W h (by simp [three6]))
  have HT := Lib.hid (fun (A : Option Addr) (W : World) (h : Nds W W.heap.size A three6) => height_any A three6 3 W h (by simp [three6]))
  unfold NbP at NB
  rw [t_bld] at BD
  rw [t_nb.1, t_nb.2] at NB
  rw [t_lst] at LS
  rw [t_hgt] at HT
  have EQ1 := eql_lk ⟨1, 3⟩ ⟨1, 3⟩
  have EQ2 := eql_lk ⟨0, 3⟩ ⟨0, 3⟩
  rw [show (decide ((⟨1, 3⟩ : Lk) = ⟨1, 3⟩)) = true from rfl] at EQ1
  rw [show (decide ((⟨0, 3⟩ : Lk) = ⟨0, 3⟩)) = true from rfl] at EQ2
  go_enter Tryd.func25, Tryd.ntmps25
  go_wp2_with fail
  refine (T.out w).mono ?_
  rintro e w1 ⟨A1, rfl, hr1, hb1⟩
  have H1 := Lib.hid (BD.out A1 w1 hr1)
  have HB1 := Lib.hid hb1
  clear hr1 hb1
  go_wp2_with fail
  refine (H1.out).mono ?_
  rintro e w2 ⟨g, H, hg, rfl, hD, hb2⟩
  have HB2 := Lib.hid (HB1.out.trans (hb2.mono HB1.out.size))
  have HD2 := Lib.hid hD
  clear hb2 HB1 H1 hD hg BD
  go_wp2_with fail
  refine (T.out w2).mono ?_
  rintro e w3 ⟨A3, rfl, hr3, hb3⟩
  have HB3 := Lib.hid (HB2.out.trans (hb3.mono HB2.out.size))
  have HD3 := Lib.hid (HD2.out.below hb3)
  have H3 := Lib.hid (NB.out A3 w3 hr3)
  clear hb3 HB2 HD2 hr3 NB
  go_wp2_with fail
  refine (H3.out).mono ?_
  rintro e w4 ⟨rfl, hb4⟩
  have hk4 := (Below.refl w4.heap.size w4).alloc (Nat.le_refl _) (.cells #[.int .i64 0, .int .i64 3] 61)
  have HB4 := Lib.hid ((HB3.out.trans (hb4.mono HB3.out.size)).trans (hk4.mono (HB3.out.trans (hb4.mono HB3.out.size)).size))
  have HD4 := Lib.hid ((HD3.out.below hb4).below hk4)
  have HX4 := Lib.hid (Has.new w4 61 #[.int .i64 0, .int .i64 3])
  clear hb4 hk4 HB3 HD3 H3
  go_wp2_with fail
  refine (T.out _).mono ?_
  rintro e w5 ⟨A5, rfl, hr5, hb5⟩
  have HB5 := Lib.hid (HB4.out.trans (hb5.mono HB4.out.size))
  have HD5 := Lib.hid (HD4.out.below hb5)
  have HX5 := Lib.hid (HX4.out.below hb5)
  have H5 := Lib.hid (LS.out A5 w5 hr5)
  clear hb5 HB4 HD4 HX4 hr5 LS
  go_wp2_with fail
  refine (H5.out).mono ?_
  rintro e w6 ⟨A6, c6, rfl, hR6, hb6⟩
  have HB6 := Lib.hid (HB5.out.trans (hb6.mono HB5.out.size))
  have HD6 := Lib.hid (HD5.out.below hb6)
  have HX6 := Lib.hid (HX5.out.below hb6)
  have HR6 := Lib.hid hR6
  clear hb6 HB5 HD5 HX5 hR6 H5
  go_wp2_with fail
  refine (T.out _).mono ?_
  rintro e w7 ⟨A7, rfl, hr7, hb7⟩
  have HB7 := Lib.hid (HB6.out.trans (hb7.mono HB6.out.size))
  have HD7 := Lib.hid (HD6.out.below hb7)
  have HX7 := Lib.hid (HX6.out.below hb7)
  have HR7 := Lib.hid ((HR6.out.below hb7).more hb7.size)
  have H7 := Lib.hid (HT.out A7 w7 hr7)
  clear hb7 HB6 HD6 HX6 HR6 hr7 HT
  go_wp2_with fail
  refine (H7.out).mono ?_
  rintro e w8 ⟨rfl, hb8⟩
  have HB8 := Lib.hid (HB7.out.trans (hb8.mono HB7.out.size))
  have hD := HD7.out.below hb8
  have hX := HX7.out.below hb8
  have hR := (HR7.out.below hb8).more hb8.size
  have d1 : w8.cell? ⟨g, 3, none⟩ = some (.slice (some ⟨H 1, 0, none⟩) 2 2) := (hD.head (j := 1) (by decide)).2
  have d2 : w8.cell? ⟨H 1, 0, none⟩ = some (.int .i64 1) := (hD.lev (j := 1) (k := 0) (by decide) (by decide)).1
  have d3 : w8.cell? ⟨H 1, 1, none⟩ = some (.int .i64 3) := (hD.lev (j := 1) (k := 0) (by decide) (by decide)).2
  have x0 : w8.cell? ⟨w4.heap.size, 0, none⟩ = some (.int .i64 0) := hX.cell 0
  have x1 : w8.cell? ⟨w4.heap.size, 1, none⟩ = some (.int .i64 3) := hX.cell 1
  obtain ⟨b, o, Ai, ci, eA, hb, m0, _⟩ := hR.at_ (i := 0) (by decide)
  subst eA
  replace m0 : w8.cell? ⟨b, o, none⟩ = some (.slice Ai 2 ci) := m0
  clear hb8 HB7 HD7 HX7 HR7 H7 hD hX hR
  go_wp2_with fail
  go_ret
  exact ⟨rfl, HB8.out⟩
end Go.Proofs.YtmhimkojegkalaaDoor
