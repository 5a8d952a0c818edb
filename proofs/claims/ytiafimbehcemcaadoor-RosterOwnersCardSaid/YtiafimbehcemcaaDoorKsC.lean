/-
  The calls of package keyspace and of its reference that compare bounds, and that ask whether keys, bounds and ranges are valid, Empty, or contain a key: what they answer, in every world; they only make memory. No condition.
-/
import Derived.Test.YtiafimbehcemcaaDoorKsP
import Derived.Test.YtiafimbehcemcaaDoorRows
import Derived.Outline
namespace Go.Proofs.YtiafimbehcemcaaDoor
open Go.RowKit

set_option maxHeartbeats 400000 in
theorem cmp_key (a b : Bd) (w : World) :
    Calls Tryd.prog 119 #[a.val, b.val] w fun e w' => e = .returned (.int .i64 (a.cmp b)) ∧ Below w.heap.size w w' := by
  obtain ⟨ak, at'⟩ := a
  obtain ⟨bk, bt⟩ := b
  have hb : Below w.heap.size w ((w.alloc (.cells #[.string ak, .bool at'] 72)).alloc (.cells #[.string bk, .bool bt] 72)) := ((Below.refl _ _).alloc (Nat.le_refl _) _).alloc (by simp) _
  cases at' <;> cases bt
  all_goals
    go_enter Tryd.func119, Tryd.ntmps119
    go_wp2
  all_goals
    go_ret
    refine ⟨ret_int ?_, hb⟩
    first | rfl | exact (cmp_lt ‹_›).symm | exact (cmp_gt ‹_› ‹_›).symm | exact (cmp_eq ‹_› ‹_›).symm | exact (cmp_gt2 ‹_›).symm | exact (cmp_eq2 ‹_› ‹_›).symm

theorem vk_key (k : ByteArray) (w : World) : Calls Tryd.prog 63 #[.string k] w fun e w' => e = .returned (.bool (vk k)) ∧ w = w' := by
  go_enter Tryd.func63, Tryd.ntmps63
  go_wp2
  go_ret
  exact ⟨ret_bool (by unfold vk; rw [Bool.eq_iff_iff]; simp; omega), rfl⟩

theorem vk_ref (k : ByteArray) (w : World) : Calls Tryd.prog 103 #[.string k] w fun e w' => e = .returned (.bool (vk k)) ∧ w = w' := by
  go_enter Tryd.func103, Tryd.ntmps103
  go_wp2
  go_ret
  exact ⟨ret_bool (by unfold vk; rw [Bool.eq_iff_iff]; simp; omega), rfl⟩

set_option maxHeartbeats 400000 in
theorem bok_key (a : Bd) (w : World) :
    Calls Tryd.prog 153 #[a.val] w fun e w' => e = .returned (.bool a.ok) ∧ Below w.heap.size w w' := by
  obtain ⟨ak, at'⟩ := a
  have hb : Below w.heap.size w (w.alloc (.cells #[.string ak, .bool at'] 72)) := (Below.refl _ _).alloc (Nat.le_refl _) _
  cases hk : vk ak <;> cases at'
  all_goals
    go_enter Tryd.func153, Tryd.ntmps153
    go_wp2_with (go_at_call 63; refine (vk_key _ _).mono ?_; rintro e w' ⟨rfl, rfl⟩)
  all_goals
    go_ret
    refine ⟨ret_bool ?_, hb⟩
    first | rfl | exact hk.symm | exact (vk_empty hk).symm

set_option maxHeartbeats 800000 in
theorem rok_key (r : Rg) (w : World) :
    Calls Tryd.prog 117 #[r.val] w fun e w' => e = .returned (.bool r.ok) ∧ Below w.heap.size w w' := by
  obtain ⟨⟨ak, at'⟩, ⟨bk, bt⟩⟩ := r
  have h0 : Below w.heap.size w (w.alloc (.cells #[.string ak, .bool at', .string bk, .bool bt] 74)) := (Below.refl _ _).alloc (Nat.le_refl _) _
  cases ha : Bd.ok ⟨ak, at'⟩ <;> cases hb : Bd.ok ⟨bk, bt⟩
  all_goals
    go_enter Tryd.func117, Tryd.ntmps117
    go_wp2_with (first | (go_at_call 153; refine (bok_key ⟨_, _⟩ _).mono ?_; rintro e w1 ⟨rfl, hb1⟩; obtain ⟨hc, hf⟩ := bcell hb1; (have hz0 : w.heap.size < w1.heap.size := by (have h9 := hb1.size; (try simp at h9); omega)); replace h0 := h0.trans (hb1.mono h0.size); clear hb1) | (go_at_call 119; refine (cmp_key ⟨_, _⟩ ⟨_, _⟩ _).mono ?_; rintro e w1 ⟨rfl, hb1⟩; obtain ⟨hc, hf⟩ := bcell hb1; (have hz0 : w.heap.size < w1.heap.size := by (have h9 := hb1.size; (try simp at h9); omega)); replace h0 := h0.trans (hb1.mono h0.size); clear hb1))
  all_goals
    go_ret
    exact ⟨ret_bool (by simp [Rg.ok, ha, hb]), h0⟩

set_option maxHeartbeats 800000 in
theorem emp_key (r : Rg) (w : World) :
    Calls Tryd.prog 66 #[r.val] w fun e w' => e = .returned (.bool r.emp) ∧ Below w.heap.size w w' := by
  obtain ⟨⟨ak, at'⟩, ⟨bk, bt⟩⟩ := r
  have h0 : Below w.heap.size w (w.alloc (.cells #[.string ak, .bool at', .string bk, .bool bt] 74)) := (Below.refl _ _).alloc (Nat.le_refl _) _
  cases ha : Rg.ok ⟨⟨ak, at'⟩, ⟨bk, bt⟩⟩
  all_goals
    go_enter Tryd.func66, Tryd.ntmps66
    go_wp2_with (first | (go_at_call 117; refine (rok_key ⟨⟨_, _⟩, ⟨_, _⟩⟩ _).mono ?_; rintro e w1 ⟨rfl, hb1⟩; obtain ⟨hc, hf⟩ := bcell hb1; (have hz0 : w.heap.size < w1.heap.size := by (have h9 := hb1.size; (try simp at h9); omega)); replace h0 := h0.trans (hb1.mono h0.size); clear hb1) | (go_at_call 119; refine (cmp_key ⟨_, _⟩ ⟨_, _⟩ _).mono ?_; rintro e w1 ⟨rfl, hb1⟩; obtain ⟨hc, hf⟩ := bcell hb1; (have hz0 : w.heap.size < w1.heap.size := by (have h9 := hb1.size; (try simp at h9); omega)); replace h0 := h0.trans (hb1.mono h0.size); clear hb1))
  all_goals
    go_ret
    exact ⟨ret_bool (by simp [Rg.emp, ha]), h0⟩

set_option maxHeartbeats 1600000 in
theorem has_key (r : Rg) (k : ByteArray) (w : World) :
    Calls Tryd.prog 64 #[r.val, .string k] w fun e w' => e = .returned (.bool (r.has k)) ∧ Below w.heap.size w w' := by
  obtain ⟨⟨ak, at'⟩, ⟨bk, bt⟩⟩ := r
  have h0 : Below w.heap.size w ((w.alloc (.cells #[.string ak, .bool at', .string bk, .bool bt] 74)).alloc (.cells #[.string k, .bool false] 72)) := ((Below.refl _ _).alloc (Nat.le_refl _) _).alloc (by simp) _
  cases ha : Rg.emp ⟨⟨ak, at'⟩, ⟨bk, bt⟩⟩ <;> cases hk : vk k
  all_goals
    go_enter Tryd.func64, Tryd.ntmps64
    go_wp2_with (first | (go_at_call 66; refine (emp_key ⟨⟨_, _⟩, ⟨_, _⟩⟩ _).mono ?_; rintro e w1 ⟨rfl, hb1⟩; obtain ⟨hc, hf⟩ := bcell hb1; (have hz0 : w.heap.size < w1.heap.size := by (have h9 := hb1.size; (try simp at h9); omega)); (have hz1 : w.heap.size + 1 < w1.heap.size := by (have h9 := hb1.size; (try simp at h9); omega)); replace h0 := h0.trans (hb1.mono h0.size); clear hb1) | (go_at_call 119; refine (cmp_key ⟨_, _⟩ ⟨_, _⟩ _).mono ?_; rintro e w1 ⟨rfl, hb1⟩; obtain ⟨hc, hf⟩ := bcell hb1; (have hz0 : w.heap.size < w1.heap.size := by (have h9 := hb1.size; (try simp at h9); omega)); (have hz1 : w.heap.size + 1 < w1.heap.size := by (have h9 := hb1.size; (try simp at h9); omega)); replace h0 := h0.trans (hb1.mono h0.size); clear hb1) | (go_at_call 63; refine (vk_key _ _).mono ?_; rintro e w' ⟨rfl, rfl⟩))
  all_goals
    go_ret
    exact ⟨ret_bool (by (simp [Rg.has, *]; try omega)), h0⟩

end Go.Proofs.YtiafimbehcemcaaDoor
