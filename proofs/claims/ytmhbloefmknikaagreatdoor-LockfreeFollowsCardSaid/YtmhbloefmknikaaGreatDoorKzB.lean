/-
  Comparing numbers, texts and cells: cmp.Compare, cmp.Or, side and compare of package locked. Condition: the cells can be read.
-/
import Derived.Test.YtmhbloefmknikaaGreatDoorKzA
import Derived.StillTailTactics
namespace Go.Proofs.YtmhbloefmknikaaGreatDoor
open Go.RowKit

def cmpI (a b : Int) : Int := if a < b then -1 else if b < a then 1 else 0
def cmpT (a b : ByteArray) : Int := if kl a b then -1 else if kl b a then 1 else 0
def Quiet (v : Value) (w : World) (e : Ending) (w' : World) : Prop := e = .returned v ∧ Below w.heap.size w w'
theorem nan_int (a : Int) (w : World) : Calls Tryz.prog 158 #[.int .i64 a] w fun e w' => e = .returned (.bool false) ∧ w = w' := by
  go_enter Tryz.func158, Tryz.ntmps158
  go_wp2
  go_ret
  exact ⟨ret_bool (by simp), rfl⟩
set_option maxRecDepth 100000 in
set_option maxHeartbeats 800000 in
theorem cmp_int (a b : Int) (w : World) : Calls Tryz.prog 137 #[.int .i64 a, .int .i64 b] w fun e w' => e = .returned (.int .i64 (cmpI a b)) ∧ w = w' := by
  rcases Int.lt_trichotomy a b with h | h | h
  · have hr : cmpI a b = -1 := by simp [cmpI, h]
    rw [hr]
    clear hr
    go_enter Tryz.func137, Tryz.ntmps137
    go_wp2_with (go_at_call 158; refine (nan_int _ _).mono ?_; rintro e w' ⟨rfl, rfl⟩)
    go_ret
    exact ⟨rfl, rfl⟩
  · subst h
    have hr : cmpI a a = 0 := by simp [cmpI]
    rw [hr]
    clear hr
    go_enter Tryz.func137, Tryz.ntmps137
    go_wp2_with (go_at_call 158; refine (nan_int _ _).mono ?_; rintro e w' ⟨rfl, rfl⟩)
    go_ret
    exact ⟨rfl, rfl⟩
  · have hr : cmpI a b = 1 := by unfold cmpI; rw [if_neg (by omega), if_pos h]
    have h1 : ¬ a < b := by omega
    rw [hr]
    clear hr
    go_enter Tryz.func137, Tryz.ntmps137
    go_wp2_with (go_at_call 158; refine (nan_int _ _).mono ?_; rintro e w' ⟨rfl, rfl⟩)
    go_ret
    exact ⟨rfl, rfl⟩

theorem nan_string (a : ByteArray) (w : World) : Calls Tryz.prog 159 #[.string a] w fun e w' => e = .returned (.bool false) ∧ w = w' := by
  go_enter Tryz.func159, Tryz.ntmps159
  go_wp2
  go_ret
  exact ⟨ret_bool (by simp), rfl⟩
set_option maxRecDepth 100000 in
set_option maxHeartbeats 800000 in
theorem cmp_string (a b : ByteArray) (w : World) : Calls Tryz.prog 139 #[.string a, .string b] w fun e w' => e = .returned (.int .i64 (cmpT a b)) ∧ w = w' := by
  cases h1 : kl a b
  · cases h2 : kl b a
    · obtain rfl := kl_tri h1 h2
      have hr : cmpT a a = 0 := by simp [cmpT, h1]
      rw [hr]
      have t1 : Op.bytesLess a.toList a.toList = false := h1
      clear hr h1 h2
      go_enter Tryz.func139, Tryz.ntmps139
      go_wp2_with (go_at_call 159; refine (nan_string _ _).mono ?_; rintro e w' ⟨rfl, rfl⟩)
      go_ret
      exact ⟨rfl, rfl⟩
    · have hr : cmpT a b = 1 := by simp [cmpT, h1, h2]
      rw [hr]
      have t1 : Op.bytesLess a.toList b.toList = false := h1
      have t2 : (!a.toList == b.toList) = true := by
        cases e : a.toList == b.toList
        · rfl
        · rw [show a = b from toList_inj (by simpa using e), kl_irrefl] at h2; cases h2
      clear hr h1 h2
      go_enter Tryz.func139, Tryz.ntmps139
      go_wp2_with (go_at_call 159; refine (nan_string _ _).mono ?_; rintro e w' ⟨rfl, rfl⟩)
      go_ret
      exact ⟨rfl, rfl⟩
  · have hr : cmpT a b = -1 := by simp [cmpT, h1]
    rw [hr]
    have t1 : Op.bytesLess a.toList b.toList = true := h1
    clear hr h1
    go_enter Tryz.func139, Tryz.ntmps139
    go_wp2_with (go_at_call 159; refine (nan_string _ _).mono ?_; rintro e w' ⟨rfl, rfl⟩)
    go_ret
    exact ⟨rfl, rfl⟩


/-- The first of two numbers that is not 0. -/
def or2 (a b : Int) : Int := if a ≠ 0 then a else b
set_option maxRecDepth 100000 in
set_option maxHeartbeats 1600000 in
theorem or2_any (b c : Nat) (x y : Int) (w : World) (h0 : w.cell? ⟨b, 0, none⟩ = some (.int .i64 x)) (h1 : w.cell? ⟨b, 1, none⟩ = some (.int .i64 y)) :
    Calls Tryz.prog 136 #[.slice (some ⟨b, 0, none⟩) 2 c] w fun e w' => e = .returned (.int .i64 (or2 x y)) ∧ w = w' := by
  go_enter Tryz.func136, Tryz.ntmps136
  go_wp2_with fail
  go_loop [8] (fun i => ∃ k : Nat, k ≤ 2 ∧ i = .int .i64 (k : Int) ∧ Hid ((0 < k → x = 0) ∧ (1 < k → y = 0))) (fun i => 2 - (intOf i).toNat)
  case atStart => exact ⟨0, by omega, rfl, Lib.hid ⟨by omega, by omega⟩⟩
  case round =>
    obtain ⟨k, hk, rfl, HK⟩ := hrel
    have hk' : k = 0 ∨ k = 1 ∨ k = 2 := by omega
    rcases hk' with rfl | rfl | rfl
    · by_cases hx : x = 0
      · subst hx
        go_wp2_with fail
        exact ⟨⟨1, by omega, rfl, Lib.hid ⟨fun _ => trivial, by omega⟩⟩, by simp [intOf]⟩
      · have e1 : (x != 0) = true := by simpa using hx
        go_wp2_with fail
        go_ret
        exact ⟨ret_int (by simp [or2, hx]), rfl⟩
    · have hx := HK.out.1 (by omega)
      by_cases hy : y = 0
      · subst hy
        go_wp2_with fail
        exact ⟨⟨2, by omega, rfl, Lib.hid ⟨fun _ => hx, fun _ => trivial⟩⟩, by simp [intOf]⟩
      · have e1 : (y != 0) = true := by simpa using hy
        have HX := Lib.hid hx
        clear hx
        go_wp2_with fail
        go_ret
        exact ⟨ret_int (by simp [or2, HX.out]), rfl⟩
    · go_wp2_with fail
      go_ret
      exact ⟨ret_int (by simp [or2, HK.out.1, HK.out.2]), rfl⟩
namespace Lk
def sidV (i : Nat) : Int := if i = 0 then -1 else if i = 1 then 1 else 0
theorem side_any (i : Nat) (w : World) : Calls Tryz.prog 138 #[.int .i64 (i : Int)] w fun e w' => e = .returned (.int .i64 (sidV i)) ∧ w = w' := by
  rcases Nat.eq_zero_or_pos i with rfl | h0
  · go_enter Tryz.func138, Tryz.ntmps138
    go_wp2_with fail
    go_ret
    exact ⟨rfl, rfl⟩
  · by_cases h1 : i = 1
    · subst h1
      go_enter Tryz.func138, Tryz.ntmps138
      go_wp2_with fail
      go_ret
      exact ⟨rfl, rfl⟩
    · have h2 : ¬ ((i : Int) = 0) := by omega
      have h3 : ¬ ((i : Int) = 1) := by omega
      have e : sidV i = 0 := by unfold sidV; rw [if_neg (by omega), if_neg h1]
      rw [e]
      go_enter Tryz.func138, Tryz.ntmps138
      go_wp2_with fail
      go_ret
      exact ⟨rfl, rfl⟩
/-- What compare answers. -/
def cmpC (l : Ls) (a b : Nat) : Int := or2 (cmpI (sidV a) (sidV b)) (cmpT (l.at_ a).key (l.at_ b).key)
theorem cmpC_is (l : Ls) (a b : Nat) : cmpC l a b = if blw l a b = true then -1 else if blw l b a = true then 1 else 0 := by
  have hz : ∀ x : ByteArray, cmpT x x = 0 := fun x => by unfold cmpT; rw [kl_irrefl]; rfl
  by_cases e : a = b
  · subst e
    rw [blw_irr]
    unfold cmpC or2 cmpI
    simp [hz]
  · by_cases a0 : a = 0
    · subst a0
      have hb : b ≠ 0 := fun q => e q.symm
      rw [blw_zero l hb]
      unfold cmpC or2 cmpI sidV
      by_cases b1 : b = 1
      · subst b1; simp
      · simp [hb, b1]
    · by_cases a1 : a = 1
      · subst a1
        have hb : b ≠ 1 := fun q => e q.symm
        rw [blw_from1, blw_one l hb]
        unfold cmpC or2 cmpI sidV
        by_cases b0 : b = 0
        · subst b0; simp
        · simp [hb, b0]
      · by_cases b0 : b = 0
        · subst b0
          rw [blw_to0, blw_zero l a0]
          unfold cmpC or2 cmpI sidV
          simp [a0, a1]
        · by_cases b1 : b = 1
          · subst b1
            rw [blw_one l a1]
            unfold cmpC or2 cmpI sidV
            simp [a0, a1]
          · rw [blw_key l (by omega) (by omega), blw_key l (by omega) (by omega)]
            unfold cmpC or2 cmpI sidV cmpT
            simp [a0, a1, b0, b1]
theorem cmpC_rnk {l : Ls} (v : Vld l) {a b : Nat} (ha : a < l.cs.length) (hb : b < l.cs.length) : cmpC l a b = cmpI (rnk l a : Int) (rnk l b : Int) := by
  rw [cmpC_is]
  have h1 := rnk_iff v ha hb
  have h2 := rnk_iff v hb ha
  unfold cmpI
  by_cases h : rnk l a < rnk l b
  · rw [if_pos (h1.2 h), if_pos (by omega)]
  · have e : ¬ ((rnk l a : Int) < (rnk l b : Int)) := by omega
    rw [if_neg (fun q => h (h1.1 q)), if_neg e]
    by_cases k : rnk l b < rnk l a
    · rw [if_pos (h2.2 k), if_pos (by omega)]
    · have e : ¬ ((rnk l b : Int) < (rnk l a : Int)) := by omega
      rw [if_neg (fun q => k (h2.1 q)), if_neg e]
end Lk
end Go.Proofs.YtmhbloefmknikaaGreatDoor
