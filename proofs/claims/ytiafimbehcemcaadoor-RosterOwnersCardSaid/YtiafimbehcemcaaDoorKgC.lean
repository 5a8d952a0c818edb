/-
  The calls of package cmp under the order of nodes, and the function literal of Sort: what they answer. Conditions: the row of nodes and the variable that the literal captures can be read.
-/
import Derived.Test.YtiafimbehcemcaaDoorKgB
import Derived.StillTailTactics
namespace Go.Proofs.YtiafimbehcemcaaDoor
open Go.RowKit

def cmpI (a b : Int) : Int := if a < b then -1 else if b < a then 1 else 0
def cmpT (a b : ByteArray) : Int := if kl a b then -1 else if kl b a then 1 else 0
theorem nan_int (a : Int) (w : World) : Calls Tryd.prog 152 #[.int .i64 a] w fun e w' => e = .returned (.bool false) ∧ w = w' := by
  go_enter Tryd.func152, Tryd.ntmps152
  go_wp2
  go_ret
  exact ⟨ret_bool (by simp), rfl⟩
set_option maxRecDepth 100000 in
set_option maxHeartbeats 800000 in
theorem cmp_int (a b : Int) (w : World) : Calls Tryd.prog 110 #[.int .i64 a, .int .i64 b] w fun e w' => e = .returned (.int .i64 (cmpI a b)) ∧ w = w' := by
  rcases Int.lt_trichotomy a b with h | h | h
  · have hr : cmpI a b = -1 := by simp [cmpI, h]
    rw [hr]
    clear hr
    go_enter Tryd.func110, Tryd.ntmps110
    go_wp2_with (go_at_call 152; refine (nan_int _ _).mono ?_; rintro e w' ⟨rfl, rfl⟩)
    go_ret
    exact ⟨rfl, rfl⟩
  · subst h
    have hr : cmpI a a = 0 := by simp [cmpI]
    rw [hr]
    clear hr
    go_enter Tryd.func110, Tryd.ntmps110
    go_wp2_with (go_at_call 152; refine (nan_int _ _).mono ?_; rintro e w' ⟨rfl, rfl⟩)
    go_ret
    exact ⟨rfl, rfl⟩
  · have hr : cmpI a b = 1 := by unfold cmpI; rw [if_neg (by omega), if_pos h]
    have h1 : ¬ a < b := by omega
    rw [hr]
    clear hr
    go_enter Tryd.func110, Tryd.ntmps110
    go_wp2_with (go_at_call 152; refine (nan_int _ _).mono ?_; rintro e w' ⟨rfl, rfl⟩)
    go_ret
    exact ⟨rfl, rfl⟩

theorem nan_string (a : ByteArray) (w : World) : Calls Tryd.prog 151 #[.string a] w fun e w' => e = .returned (.bool false) ∧ w = w' := by
  go_enter Tryd.func151, Tryd.ntmps151
  go_wp2
  go_ret
  exact ⟨ret_bool (by simp), rfl⟩
set_option maxRecDepth 100000 in
set_option maxHeartbeats 800000 in
theorem cmp_string (a b : ByteArray) (w : World) : Calls Tryd.prog 109 #[.string a, .string b] w fun e w' => e = .returned (.int .i64 (cmpT a b)) ∧ w = w' := by
  cases h1 : kl a b
  · cases h2 : kl b a
    · obtain rfl := kl_tri h1 h2
      have hr : cmpT a a = 0 := by simp [cmpT, h1]
      rw [hr]
      have t1 : Op.bytesLess a.toList a.toList = false := h1
      clear hr h1 h2
      go_enter Tryd.func109, Tryd.ntmps109
      go_wp2_with (go_at_call 151; refine (nan_string _ _).mono ?_; rintro e w' ⟨rfl, rfl⟩)
      go_ret
      exact ⟨rfl, rfl⟩
    · have hr : cmpT a b = 1 := by simp [cmpT, h1, h2]
      rw [hr]
      have t1 : Op.bytesLess a.toList b.toList = false := h1
      have t2 : (!a.toList == b.toList) = true := by
        cases e : a.toList == b.toList
        · rfl
        · rw [show a = b from toList_inj (by simpa using e), kl_irrefl] at h2; cases h2
      clear hr h1 h2
      go_enter Tryd.func109, Tryd.ntmps109
      go_wp2_with (go_at_call 151; refine (nan_string _ _).mono ?_; rintro e w' ⟨rfl, rfl⟩)
      go_ret
      exact ⟨rfl, rfl⟩
  · have hr : cmpT a b = -1 := by simp [cmpT, h1]
    rw [hr]
    have t1 : Op.bytesLess a.toList b.toList = true := h1
    clear hr h1
    go_enter Tryd.func109, Tryd.ntmps109
    go_wp2_with (go_at_call 151; refine (nan_string _ _).mono ?_; rintro e w' ⟨rfl, rfl⟩)
    go_ret
    exact ⟨rfl, rfl⟩

/-- The first of two numbers that is not 0. -/
def or2 (a b : Int) : Int := if a ≠ 0 then a else b
set_option maxRecDepth 100000 in
set_option maxHeartbeats 1600000 in
theorem or2_any (b c : Nat) (x y : Int) (w : World) (h0 : w.cell? ⟨b, 0, none⟩ = some (.int .i64 x)) (h1 : w.cell? ⟨b, 1, none⟩ = some (.int .i64 y)) :
    Calls Tryd.prog 108 #[.slice (some ⟨b, 0, none⟩) 2 c] w fun e w' => e = .returned (.int .i64 (or2 x y)) ∧ w = w' := by
  go_enter Tryd.func108, Tryd.ntmps108
  go_wp2_with fail
  go_loop [8] (fun i => ∃ k : Nat, k ≤ 2 ∧ i = .int .i64 (k : Int) ∧ Hid ((0 < k → x = 0) ∧ (1 < k → y = 0))) (fun i => 2 - (intOf i).toNat)
  case atStart => exact ⟨0, by omega, rfl, Lib.hid ⟨by omega, by omega⟩⟩
  case round =>
    obtain ⟨k, hk, rfl, HK⟩ := hrel
    have hk' : k = 0 ∨ k = 1 ∨ k = 2 := by omega
    rcases hk' with rfl | rfl | rfl
    · by_cases hx : x = 0
      · subst hx
        go_wp2_with fail
        exact ⟨⟨1, by omega, rfl, Lib.hid ⟨fun _ => trivial, by omega⟩⟩, by simp [intOf]⟩
      · have e1 : (x != 0) = true := by simpa using hx
        go_wp2_with fail
        go_ret
        exact ⟨ret_int (by simp [or2, hx]), rfl⟩
    · have hx := HK.out.1 (by omega)
      by_cases hy : y = 0
      · subst hy
        go_wp2_with fail
        exact ⟨⟨2, by omega, rfl, Lib.hid ⟨fun _ => hx, fun _ => trivial⟩⟩, by simp [intOf]⟩
      · have e1 : (y != 0) = true := by simpa using hy
        go_wp2_with fail
        go_ret
        exact ⟨ret_int (by simp [or2]), rfl⟩
    · have hx := HK.out.1 (by omega)
      have hy := HK.out.2 (by omega)
      go_wp2_with fail
      go_ret
      exact ⟨ret_int (by simp [or2]), rfl⟩
theorem or2_nlt (a b : Nd) : decide (or2 (cmpT a.key b.key) (cmpI a.id b.id) < 0) = nlt a b := by
  unfold or2 cmpT cmpI nlt
  cases h : kl a.key b.key
  · cases k : kl b.key a.key
    · by_cases h1 : a.id < b.id
      · simp [h1]
      · by_cases h2 : b.id < a.id
        · simp [h1, h2]
        · simp [h1, h2]
    · simp
  · simp

set_option maxRecDepth 100000 in
set_option maxHeartbeats 1600000 in
theorem less_any (B g o n cap i j : Nat) (x y : Nd) (w : World) (hB : w.cell? ⟨B, 0, none⟩ = some (.slice (some ⟨g, o, none⟩) n cap)) (hi : i < n) (hj : j < n)
    (x0 : w.cell? ⟨g, o + i * 3, none⟩ = some (.int .i64 x.id)) (x1 : w.cell? ⟨g, o + i * 3 + 1, none⟩ = some (.string x.key)) (y0 : w.cell? ⟨g, o + j * 3, none⟩ = some (.int .i64 y.id)) (y1 : w.cell? ⟨g, o + j * 3 + 1, none⟩ = some (.string y.key)) :
    Calls Tryd.prog 107 #[.int .i64 (i : Int), .int .i64 (j : Int), .pointer (some ⟨B, 0, none⟩)] w fun e w' => e = .returned (.bool (nlt x y)) ∧ Below w.heap.size w w' := by
  rw [← or2_nlt]
  obtain ⟨xi, xk, xw⟩ := x
  obtain ⟨yi, yk, yw⟩ := y
  have hb := Below.refl w.heap.size w
  have i0 : (0 : Int) ≤ (i : Int) := by omega
  have i1 : (i : Int) < (n : Int) := by omega
  have j0 : (0 : Int) ≤ (j : Int) := by omega
  have j1 : (j : Int) < (n : Int) := by omega
  go_enter Tryd.func107, Tryd.ntmps107
  go_wp2_with fail
  replace hB : w.drew.cell? ⟨B, 0, none⟩ = _ := hB
  replace x0 : w.drew.cell? ⟨g, o + i * 3, none⟩ = _ := x0
  replace x1 : w.drew.cell? ⟨g, o + i * 3 + 1, none⟩ = _ := x1
  replace y0 : w.drew.cell? ⟨g, o + j * 3, none⟩ = _ := y0
  replace y1 : w.drew.cell? ⟨g, o + j * 3 + 1, none⟩ = _ := y1
  replace hb := hb.drew
  refine wp_region_still_tail 22 (by kernel_rfl) (by kernel_rfl) ?_
  simp only [List.take_succ_cons, List.take_zero, List.drop_succ_cons, List.drop_zero]
  change wpStill _ _ w.drew (fun a' => wpList _ _ _ _ a' w.drew) _ _
  generalize w.drew = w9 at *
  repeat still_step
  still_call ((cmp_string xk yk w9).mono fun _ _ h => ⟨h.1, h.2.symm⟩)
  repeat still_step
  still_call ((cmp_int xi yi w9).mono fun _ _ h => ⟨h.1, h.2.symm⟩)
  repeat still_step
  refine wpStill_nil ?_
  have hN := Has.new w9 3 #[.int .i64 (cmpT xk yk), .int .i64 (cmpI xi yi)]
  have hbN := hb.alloc hb.size (.cells #[.int .i64 (cmpT xk yk), .int .i64 (cmpI xi yi)] 3)
  have HO := Lib.hid (or2_any w9.heap.size 2 (cmpT xk yk) (cmpI xi yi) _ (hN.cell 0) (hN.cell 1))
  clear x0 x1 y0 y1 hN hb
  go_wp2_with fail
  refine (HO.out).mono ?_
  rintro e w10 ⟨rfl, rfl⟩
  go_wp2_with fail
  go_ret
  exact ⟨rfl, hbN⟩
end Go.Proofs.YtiafimbehcemcaaDoor
