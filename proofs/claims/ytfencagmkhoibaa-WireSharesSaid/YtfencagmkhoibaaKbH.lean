/-
  The walk of WireShares: from whatever arguments it answers true and only makes memory. Condition: the first argument reads as a slice of ints.
-/
import Derived.Test.YtfencagmkhoibaaKbS
import Derived.Test.YtfencagmkhoibaaKbE
import Derived.Deep.RegionHeld3
namespace Go.Proofs.Ytfencagmkhoibaa
open Go.RowKit

set_option maxHeartbeats 800000 in
theorem next_endX (g : Nat) (n : Int) (w : World) (ht : Tape w g) (hn : 1 ≤ n) (A : Option Addr) (k c : Nat) (_hk : k ≤ 600) (hb : w.heap[g]? = some (.cells #[.slice A k c, .int .i64 (k : Int)] 50 (0, 0))) :
    Calls Try.prog 12 #[.pointer (some ⟨g, 0, none⟩), .int .i64 n] w fun e w' => e = .returned (.int .i64 0) ∧ TStep w g w' := by
  have hst := TStep.refl ht
  have c0 : w.cell? ⟨g, 0, none⟩ = some (.slice A k c) := cell_of_row w g 0 _ _ _ hb
  have c1 : w.cell? ⟨g, 1, none⟩ = some (.int .i64 (k : Int)) := cell_of_row w g 1 _ _ _ hb
  clear hb
  have hnn : decide (n < 1) = false := by simp; omega
  go_enter Try.func12, Try.ntmps12
  go_wp2
  go_quiet (fail)
  go_wp2
  go_ret
  exact ⟨rfl, hst.drewN _⟩

set_option maxHeartbeats 1600000 in
theorem next_moreX (g : Nat) (n : Int) (w : World) (hn : 1 ≤ n) (hn2 : n ≤ 9223372036854775807) (b o k c p : Nat) (hk : k ≤ 600) (hp : p < k) (hN : Nums w g (some ⟨b, o, none⟩) k)
    (hb : w.heap[g]? = some (.cells #[.slice (some ⟨b, o, none⟩) k c, .int .i64 (p : Int)] 50 (0, 0))) :
    Calls Try.prog 12 #[.pointer (some ⟨g, 0, none⟩), .int .i64 n] w fun e w' => ∀ v, w.cell? ⟨b, o + p, none⟩ = some (.int .i64 v) → e = .returned (.int .i64 (v % n)) ∧ TStep w g w' := by
  have hst := Tape.moved hk hp hN hb
  obtain ⟨b', o', e, hlt, hc⟩ := hN (by omega)
  obtain ⟨rfl, rfl⟩ : b = b' ∧ o = o' := by simpa using e
  clear e
  obtain ⟨v, v1, v2, hv⟩ := hc p hp
  have c0 : w.cell? ⟨g, 0, none⟩ = some (.slice (some ⟨b, o, none⟩) k c) := cell_of_row w g 0 _ _ _ hb
  have c1 : w.cell? ⟨g, 1, none⟩ = some (.int .i64 (p : Int)) := cell_of_row w g 1 _ _ _ hb
  have f1 : w.frozen? ⟨g, 1, none⟩ = false := by simp [World.frozen?, hb]
  have hv' : ∀ m u, ((w.drewN m).setCell ⟨g, 1, none⟩ u).cell? ⟨b, o + p, none⟩ = some (.int .i64 v) := fun m u => (World.cell?_setCell_other (w.drewN m) _ _ u (fun e => by injection e with e; omega)).trans hv
  have HV := Lib.hid hv
  clear hb hc hN hv
  have hnn : decide (n < 1) = false := by simp; omega
  have hpk : decide (k ≤ p) = false := by simp; omega
  have i0 : (0 : Int) ≤ (p : Int) := by omega
  have i1 : (p : Int) < (k : Int) := by omega
  go_enter Try.func12, Try.ntmps12
  go_wp2
  go_quiet (fail)
  go_wp2
  have e1 : IntKind.i64.wrap ((p : Int) + 1 - 1) = (p : Int) := by rw [Int.add_sub_cancel]; exact IntWalk.i64_in _ (by omega)
  have e2 : IntKind.i64.wrap ((p : Int) + 1 + -1) = (p : Int) := by rw [show (p : Int) + 1 + -1 = p by omega]; exact IntWalk.i64_in _ (by omega)
  have e3 : ((p : Int)).toNat = p := rfl
  go_quiet ((go_at_call 20; exact quiet_left (mod_any _ _ _ hn hn2)))
  go_wp2
  go_ret
  intro u hu
  have hu2 := HV.out.symm.trans hu
  injection hu2 with hu2
  injection hu2 with _ hu2
  subst hu2
  exact ⟨rfl, (hst _).drewN _⟩


/-- The first number of a list, or 0. -/
def HeadIs (w : World) (B : Nat) (A : Option Addr) (n0 : Nat) (v : Int) : Prop := (n0 = 0 ∧ v = 0) ∨ (0 < n0 ∧ ∃ b o, A = some ⟨b, o, none⟩ ∧ b < B ∧ w.cell? ⟨b, o, none⟩ = some (.int .i64 v))
theorem headIs_of {w : World} {B : Nat} {A : Option Addr} {n0 : Nat} (h : Nums w B A n0) : ∃ v : Int, -9223372036854775808 ≤ v ∧ v ≤ 9223372036854775807 ∧ HeadIs w B A n0 v := by
  rcases Nat.eq_zero_or_pos n0 with h0 | h0
  · exact ⟨0, by omega, by omega, .inl ⟨h0, rfl⟩⟩
  · obtain ⟨b, o, e, hb, hc⟩ := h h0
    obtain ⟨v, h1, h2, h3⟩ := hc 0 h0
    exact ⟨v, h1, h2, .inr ⟨h0, b, o, e, hb, h3⟩⟩
theorem HeadIs.keep {w w' : World} {B : Nat} {A : Option Addr} {n0 : Nat} {v : Int} (h : HeadIs w B A n0 v) (k : ∀ i, i < B → w'.heap[i]? = w.heap[i]?) : HeadIs w' B A n0 v := by
  rcases h with h | ⟨h0, b, o, e, hb, hc⟩
  · exact .inl h
  · exact .inr ⟨h0, b, o, e, hb, (World.cell?_of_block (k b hb)).trans hc⟩

/-- What New gives, whole. -/
def NewX (A : Option Addr) (n0 : Nat) (w : World) (e : Ending) (w' : World) : Prop := ∃ (m c g : Nat), m = min n0 600 ∧ w.heap.size = g ∧ e = .returned (.pointer (some ⟨g, 0, none⟩)) ∧ w'.heap[g]? = some (.cells #[.slice A m c, .int .i64 0] 50 (0, 0)) ∧ Below w.heap.size w w'
set_option maxHeartbeats 800000 in
theorem newX_any (A : Option Addr) (n c : Nat) (w : World) (hnc : n ≤ c) (hc : c ≤ maxLen) (hA : 0 < n → ∃ ad, A = some ad) :
    Calls Try.prog 6 #[.slice A n c] w (NewX A n w) := by
  unfold maxLen at hc
  by_cases hs : 600 < n
  · obtain ⟨ad, rfl⟩ := hA (by omega)
    go_enter Try.func6, Try.ntmps6
    go_wp2
    go_ret
    exact ⟨600, _, _, by omega, rfl, rfl, blk_new w _ _, (Below.refl _ _).alloc (Nat.le_refl _) _⟩
  · go_enter Try.func6, Try.ntmps6
    go_wp2
    go_ret
    exact ⟨n, _, _, by omega, rfl, rfl, blk_new w _ _, (Below.refl _ _).alloc (Nat.le_refl _) _⟩

/-- The first choice of a new tape. -/
theorem next_head (g : Nat) (n : Int) (w : World) (hn : 1 ≤ n) (hn2 : n ≤ 9223372036854775807) (A : Option Addr) (n0 m c : Nat) (v : Int) (hm : m = min n0 600) (hN : Nums w g A n0) (hv : HeadIs w g A n0 v)
    (hb : w.heap[g]? = some (.cells #[.slice A m c, .int .i64 0] 50 (0, 0))) :
    Calls Try.prog 12 #[.pointer (some ⟨g, 0, none⟩), .int .i64 n] w fun e w' => e = .returned (.int .i64 (v % n)) ∧ TStep w g w' := by
  have hNm := hN.less (m := m) (by omega)
  rcases hv with ⟨rfl, rfl⟩ | ⟨h0, b, o, rfl, hbg, hc⟩
  · obtain rfl : m = 0 := by omega
    rw [Int.zero_emod]
    exact next_endX g n w ⟨A, 0, c, 0, by omega, by omega, hNm, hb⟩ hn A 0 c (by omega) hb
  · exact (next_moreX g n w hn hn2 b o m c 0 (by omega) (by omega) hNm hb).mono fun e w' h => h v (by rw [Nat.add_zero]; exact hc)

set_option maxHeartbeats 400000 in
theorem first_any (A : Option Addr) (n0 c : Nat) (v : Int) (B : Nat) (w : World) (hv : HeadIs w B A n0 v) :
    Calls Try.prog 21 #[.slice A n0 c] w fun e w' => e = .returned (.int .i64 v) ∧ w = w' := by
  rcases hv with ⟨rfl, rfl⟩ | ⟨h0, b, o, rfl, hbg, hc⟩
  · go_enter Try.func21, Try.ntmps21
    go_wp2
    go_ret
    exact ⟨rfl, rfl⟩
  · have h1 : n0 ≠ 0 := by omega
    go_enter Try.func21, Try.ntmps21
    go_wp2
    go_ret
    exact ⟨rfl, rfl⟩

theorem run_make40 (w : World) : (Instr.makeSlice 23 (.int .i64 2) (.int .i64 40)).run Try.prog w = .ok (.slice (some ⟨w.heap.size, 0, none⟩) 2 40) (w.alloc (.cells (Array.replicate 40 (.int .u8 0)) 5)) := by
  obtain ⟨i0, hi0, hz0, hz1, hz2⟩ := info_parts infoByte
  have h := run_make (P := Try.prog) w 23 5 i0 (.int .u8 0) Try.underlying23 hi0 hz0 .i64 .i64 2 40 (by omega) (by omega) (by rw [hz2]; omega) (by omega)
  rw [hz1] at h
  have e : madeCells (Value.cells (.int .u8 0)) ((40 : Int).toNat * 1) = Array.replicate 40 (.int .u8 0) := by
    apply Array.ext'
    have := toList_madeCells_one (.int .u8 0) 40
    refine this.trans ?_
    simp
  rw [e] at h
  exact h
end Go.Proofs.Ytfencagmkhoibaa
