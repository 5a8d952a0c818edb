/-
  Same of package ideal, slices.EqualFunc and slices.Equal as it calls them. Condition: the links can be read.
-/
import Derived.Test.YtjokbdhineilcaaGreatDoorLmG
import Derived.StillTailTactics
import Derived.Deep.DeepCutAuto
import Derived.Deep.CutBlock
namespace Go.Proofs.YtjokbdhineilcaaGreatDoor
open Go.RowKit

set_option maxRecDepth 100000 in
set_option maxHeartbeats 1600000 in
/-- slices.Equal at links. -/
theorem eqlks_any (A1 A2 : Option Addr) (a b : List Lk) (c1 c2 : Nat) (w : World) (h1 : Lks w w.heap.size A1 a) (h2 : Lks w w.heap.size A2 b) (h63 : a.length ≤ maxLen) :
    Calls Tryz.prog 73 #[.slice A1 a.length c1, .slice A2 b.length c2] w (BoolN (decide (a = b)) w) := by
  unfold maxLen at h63
  by_cases hlen : a.length = b.length
  · have HLN := Lib.hid hlen
    have hn : ((a.length : Int) != (b.length : Int)) = false := by simp [hlen]
    have HFN : Hid (a ≠ b → decide (a = b) = false) := Lib.hid fun h => by simp [h]
    have HFY : Hid (a = b → decide (a = b) = true) := Lib.hid fun h => by simp [h]
    clear hlen
    generalize decide (a = b) = Z at *
    generalize hla : a.length = la at *
    generalize hlb : b.length = lb at *
    have hz : (la : Int) ≤ (lb : Int) := by have := HLN.out; omega
    have HA := Lib.hid hla
    have HB := Lib.hid hlb
    clear hla hlb
    go_enter Tryz.func73, Tryz.ntmps73
    go_wp2_with fail
    go_loopw [13] (fun i wr => ∃ k : Nat, i = .int .i64 (k : Int) ∧ k ≤ la ∧ Below w.heap.size w wr ∧ Hid (a.take k = b.take k)) (fun i _ => la - (intOf i).toNat)
    case atStart => exact ⟨0, rfl, by omega, Below.refl _ _, Lib.hid rfl⟩
    case round =>
      obtain ⟨k, rfl, hk, hB, HS⟩ := hrel
      by_cases hlt : k < la
      · have k1 : k < a.length := by rw [HA.out]; exact hlt
        have k2 : k < b.length := by rw [HB.out, ← HLN.out]; exact hlt
        obtain ⟨b1, o1, e1, hb1, f1, f2⟩ := h1.at_ k1
        obtain ⟨b2, o2, e2, hb2, g1, g2⟩ := h2.at_ k2
        subst e1 e2
        have HNE := Lib.hid (fun (e : a[k] ≠ b[k]) => get_ne k1 k2 e)
        have HNX := Lib.hid (fun (e : a[k] = b[k]) => take_eq_next k1 k2 HS.out e)
        have hBd := hB.drew
        replace f1 : wr.drew.cell? ⟨b1, o1 + k * 2, none⟩ = _ := (hB.cell (p := ⟨b1, o1 + k * 2, none⟩) hb1).trans f1
        replace f2 : wr.drew.cell? ⟨b1, o1 + k * 2 + 1, none⟩ = _ := (hB.cell (p := ⟨b1, o1 + k * 2 + 1, none⟩) hb1).trans f2
        replace g1 : wr.drew.cell? ⟨b2, o2 + k * 2, none⟩ = _ := (hB.cell (p := ⟨b2, o2 + k * 2, none⟩) hb2).trans g1
        replace g2 : wr.drew.cell? ⟨b2, o2 + k * 2 + 1, none⟩ = _ := (hB.cell (p := ⟨b2, o2 + k * 2 + 1, none⟩) hb2).trans g2
        generalize a[k] = u at *
        generalize b[k] = v at *
        obtain ⟨ul, ur⟩ := u
        obtain ⟨vl, vr⟩ := v
        have j0 : (0 : Int) ≤ (k : Int) := by omega
        have j1 : (k : Int) < (la : Int) := by omega
        have j2 : (k : Int) < (lb : Int) := by omega
        have j3 : (la : Int) ≤ 9223372036854775807 := by omega
        clear k1 k2 hn
        by_cases huv : (⟨ul, ur⟩ : Lk) = ⟨vl, vr⟩
        · injection huv with e1 e2
          subst e1 e2
          have HX := Lib.hid (HNX.out rfl)
          have hNE : ∀ W, (binOp .neq 53 (.agg #[.int .i64 ul, .int .i64 ur]) (.agg #[.int .i64 ul, .int .i64 ur])).run Tryz.prog W = .ok (.bool false) W := fun W => by rw [neq_lk ⟨ul, ur⟩ ⟨ul, ur⟩]; simp
          clear HNE HNX
          go_wp2_with fail
          refine wp_region_still_tail 8 (by kernel_rfl) (by kernel_rfl) ?_
          simp only [List.take_succ_cons, List.take_zero, List.drop_succ_cons, List.drop_zero]
          change wpStill _ _ wr.drew (fun a' => wpList _ _ _ _ a' wr.drew) _ _
          generalize wr.drew = w9 at *
          repeat still_step
          refine wpStill_nil ?_
          go_wp2_with fail
          exact ⟨⟨k + 1, by go_num, hlt, hBd, HX⟩, by simp [intOf]; omega⟩
        · have HX : Hid (Z = false) := Lib.hid (HFN.out (HNE.out huv))
          have hNE : ∀ W, (binOp .neq 53 (.agg #[.int .i64 ul, .int .i64 ur]) (.agg #[.int .i64 vl, .int .i64 vr])).run Tryz.prog W = .ok (.bool true) W := fun W => by rw [neq_lk ⟨ul, ur⟩ ⟨vl, vr⟩]; simp [huv]
          clear HNE HNX huv
          go_wp2_with fail
          refine wp_region_still_tail 8 (by kernel_rfl) (by kernel_rfl) ?_
          simp only [List.take_succ_cons, List.take_zero, List.drop_succ_cons, List.drop_zero]
          change wpStill _ _ wr.drew (fun a' => wpList _ _ _ _ a' wr.drew) _ _
          generalize wr.drew = w9 at *
          repeat still_step
          refine wpStill_nil ?_
          go_wp2_with fail
          go_ret
          exact ⟨ret_bool HX.out.symm, hBd⟩
      · have HE : Hid (Z = true) := Lib.hid (HFY.out (take_eq_all (by have := HA.out; omega) (by have := HB.out; have := HLN.out; omega) HS.out))
        go_wp2_with fail
        go_ret
        exact ⟨ret_bool HE.out.symm, hB⟩
  · have HE : Hid (decide (a = b) = false) := Lib.hid (by simp; intro e; exact hlen (by rw [e]))
    have hn : ((a.length : Int) != (b.length : Int)) = true := by simp; omega
    generalize decide (a = b) = Z at *
    go_enter Tryz.func73, Tryz.ntmps73
    go_wp2_with fail
    go_ret
    exact ⟨ret_bool HE.out.symm, Below.refl _ _⟩
set_option maxRecDepth 100000 in
set_option maxHeartbeats 1600000 in
/-- The closure of Same. -/
theorem eqld_any (x y : Ld) (A1 A2 : Option Addr) (c1 c2 : Nat) (w : World) (h1 : Lks w w.heap.size A1 x.levels) (h2 : Lks w w.heap.size A2 y.levels) (h63 : x.levels.length ≤ maxLen) :
    Calls Tryz.prog 72 #[.agg #[.int .i64 x.id, .slice A1 x.levels.length c1], .agg #[.int .i64 y.id, .slice A2 y.levels.length c2]] w (BoolN (decide (x = y)) w) := by
  obtain ⟨xi, xs⟩ := x
  obtain ⟨yi, ys⟩ := y
  simp only at h1 h2 h63 ⊢
  have hb2 := ((Below.refl w.heap.size w).alloc (Nat.le_refl _) (.cells #[.int .i64 xi, .slice A1 xs.length c1] 56)).alloc (by simp) (.cells #[.int .i64 yi, .slice A2 ys.length c2] 56)
  have HEQ := Lib.hid (eqlks_any A1 A2 xs ys c1 c2 _ ((h1.below hb2).more hb2.size) ((h2.below hb2).more hb2.size) h63)
  have HB2 := Lib.hid hb2
  clear hb2 h1 h2
  by_cases hid : xi = yi
  · subst hid
    have hn : ((xi : Int) == xi) = true := by simp
    have HZ : Hid (decide ((⟨xi, xs⟩ : Ld) = ⟨xi, ys⟩) = decide (xs = ys)) := Lib.hid (by simp)
    generalize decide ((⟨xi, xs⟩ : Ld) = ⟨xi, ys⟩) = Z at *
    generalize decide (xs = ys) = Y at *
    generalize xs.length = p at *
    generalize ys.length = q at *
    go_enter Tryz.func72, Tryz.ntmps72
    go_wp2_with fail
    refine (HEQ.out).mono ?_
    rintro e w3 ⟨rfl, hb3⟩
    go_wp2_with fail
    go_ret
    exact ⟨ret_bool HZ.out.symm, HB2.out.trans (hb3.mono HB2.out.size)⟩
  · have hn : ((xi : Int) == yi) = false := by simpa using hid
    have HZ : Hid (decide ((⟨xi, xs⟩ : Ld) = ⟨yi, ys⟩) = false) := Lib.hid (by simp; intro e; exact absurd e hid)
    generalize decide ((⟨xi, xs⟩ : Ld) = ⟨yi, ys⟩) = Z at *
    clear hid HEQ
    generalize xs.length = p at *
    generalize ys.length = q at *
    go_enter Tryz.func72, Tryz.ntmps72
    go_wp2_with fail
    go_ret
    exact ⟨ret_bool HZ.out.symm, HB2.out⟩
set_option maxRecDepth 100000 in
set_option maxHeartbeats 1600000 in
/-- slices.EqualFunc at nodes' links with the closure. -/
theorem eqf_any (A1 A2 : Option Addr) (a b : List Ld) (c1 c2 : Nat) (w : World) (h1 : Lds w w.heap.size A1 a) (h2 : Lds w w.heap.size A2 b) (h63 : a.length ≤ maxLen) :
    Calls Tryz.prog 71 #[.slice A1 a.length c1, .slice A2 b.length c2, .func (.func 72) #[] #[]] w (BoolN (decide (a = b)) w) := by
  unfold maxLen at h63
  by_cases hlen : a.length = b.length
  · have HLN := Lib.hid hlen
    have hn : ((a.length : Int) != (b.length : Int)) = false := by simp [hlen]
    have HFN : Hid (a ≠ b → decide (a = b) = false) := Lib.hid fun h => by simp [h]
    have HFY : Hid (a = b → decide (a = b) = true) := Lib.hid fun h => by simp [h]
    clear hlen
    generalize decide (a = b) = Z at *
    generalize hla : a.length = la at *
    generalize hlb : b.length = lb at *
    have hz : (la : Int) ≤ (lb : Int) := by have := HLN.out; omega
    have HA := Lib.hid hla
    have HB := Lib.hid hlb
    clear hla hlb
    go_enter Tryz.func71, Tryz.ntmps71
    go_wp2_with fail
    go_loopw [17] (fun i wr => ∃ k : Nat, i = .int .i64 (k : Int) ∧ k ≤ la ∧ Below w.heap.size w wr ∧ Hid (a.take k = b.take k)) (fun i _ => la - (intOf i).toNat)
    case atStart => exact ⟨0, rfl, by omega, Below.refl _ _, Lib.hid rfl⟩
    case round =>
      obtain ⟨k, rfl, hk, hB, HS⟩ := hrel
      by_cases hlt : k < la
      · have k1 : k < a.length := by rw [HA.out]; exact hlt
        have k2 : k < b.length := by rw [HB.out, ← HLN.out]; exact hlt
        obtain ⟨b1, o1, e1, hb1, f1, B1, d1, f2, hc1, hm1, hr1⟩ := h1.at_ k1
        obtain ⟨b2, o2, e2, hb2, g1, B2, d2, g2, hc2, hm2, hr2⟩ := h2.at_ k2
        subst e1 e2
        have HNE := Lib.hid (fun (e : a[k] ≠ b[k]) => get_ne k1 k2 e)
        have HNX := Lib.hid (fun (e : a[k] = b[k]) => take_eq_next k1 k2 HS.out e)
        replace f1 := (hB.cell (p := ⟨b1, o1 + k * 2, none⟩) hb1).trans f1
        replace f2 := (hB.cell (p := ⟨b1, o1 + k * 2 + 1, none⟩) hb1).trans f2
        have hbw1 : b1 < wr.heap.size := Nat.lt_of_lt_of_le hb1 hB.size
        have hbw2 : b2 < wr.heap.size := Nat.lt_of_lt_of_le hb2 hB.size
        generalize hx : a[k] = x at *
        generalize hy : b[k] = y at *
        have hb3 := (Below.refl wr.heap.size wr).alloc (Nat.le_refl _) (.cells #[.int .i64 x.id, .slice B1 x.levels.length d1] 56)
        have hb4 := hb3.alloc hb3.size (.cells #[.int .i64 y.id, .slice B2 y.levels.length d2] 56)
        replace g1 := (hb3.cell (p := ⟨b2, o2 + k * 2, none⟩) hbw2).trans ((hB.cell (p := ⟨b2, o2 + k * 2, none⟩) hb2).trans g1)
        replace g2 := (hb3.cell (p := ⟨b2, o2 + k * 2 + 1, none⟩) hbw2).trans ((hB.cell (p := ⟨b2, o2 + k * 2 + 1, none⟩) hb2).trans g2)
        have hB4 := hB.trans (hb4.mono hB.size)
        have HE := Lib.hid (eqld_any x y B1 B2 d1 d2 _ ((hr1.below hB4).more hB4.size) ((hr2.below hB4).more hB4.size) (Nat.le_trans hc1 hm1))
        have HB4 := Lib.hid hB4
        clear hx hy hr1 hr2 hB4 hb3 hb4
        obtain ⟨xi, xs⟩ := x
        obtain ⟨yi, ys⟩ := y
        simp only at f1 f2 g1 g2 hc1 hc2 HE HB4
        have i0 : (0 : Int) ≤ (k : Int) := by omega
        have i1 : (k : Int) < (la : Int) := by omega
        have i2 : (k : Int) < (lb : Int) := by omega
        have i3 : (la : Int) ≤ 9223372036854775807 := by omega
        clear k1 k2 hn
        generalize xs.length = p at *
        generalize ys.length = q at *
        by_cases hxy : (⟨xi, xs⟩ : Ld) = ⟨yi, ys⟩
        · have HX := Lib.hid (HNX.out hxy)
          rw [decide_eq_true hxy] at HE
          clear HNE HNX hxy
          go_wp2_with fail
          refine (HE.out).mono ?_
          rintro e w5 ⟨rfl, hb5⟩
          go_wp2_with fail
          exact ⟨⟨k + 1, by go_num, hlt, HB4.out.trans (hb5.mono HB4.out.size), HX⟩, by simp [intOf]; omega⟩
        · have HX : Hid (Z = false) := Lib.hid (HFN.out (HNE.out hxy))
          rw [decide_eq_false hxy] at HE
          clear HNE HNX hxy
          go_wp2_with fail
          refine (HE.out).mono ?_
          rintro e w5 ⟨rfl, hb5⟩
          go_wp2_with fail
          go_ret
          exact ⟨ret_bool HX.out.symm, HB4.out.trans (hb5.mono HB4.out.size)⟩
      · have HE : Hid (Z = true) := Lib.hid (HFY.out (take_eq_all (by have := HA.out; omega) (by have := HB.out; have := HLN.out; omega) HS.out))
        go_wp2_with fail
        go_ret
        exact ⟨ret_bool HE.out.symm, hB⟩
  · have HE : Hid (decide (a = b) = false) := Lib.hid (by simp; intro e; exact hlen (by rw [e]))
    have hn : ((a.length : Int) != (b.length : Int)) = true := by simp; omega
    generalize decide (a = b) = Z at *
    go_enter Tryz.func71, Tryz.ntmps71
    go_wp2_with fail
    go_ret
    exact ⟨ret_bool HE.out.symm, Below.refl _ _⟩
theorem same6_any (A1 A2 : Option Addr) (a b : List Ld) (c1 c2 : Nat) (w : World) (h1 : Lds w w.heap.size A1 a) (h2 : Lds w w.heap.size A2 b) (h63 : a.length ≤ maxLen) :
    Calls Tryz.prog 53 #[.slice A1 a.length c1, .slice A2 b.length c2] w (BoolN (decide (a = b)) w) := by
  have HE := Lib.hid (eqf_any A1 A2 a b c1 c2 w h1 h2 h63)
  generalize decide (a = b) = Z at *
  generalize a.length = la at *
  generalize b.length = lb at *
  go_enter Tryz.func53, Tryz.ntmps53
  go_wp2_with fail
  refine (HE.out).mono ?_
  rintro e w5 ⟨rfl, hb5⟩
  go_wp2_with fail
  go_ret
  exact ⟨rfl, hb5⟩
end Go.Proofs.YtjokbdhineilcaaGreatDoor
