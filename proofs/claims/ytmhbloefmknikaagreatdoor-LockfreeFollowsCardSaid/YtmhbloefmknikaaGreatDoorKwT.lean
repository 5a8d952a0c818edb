/-
  The calls of the tape: from whatever list of numbers it is made, each choice is a number below its bound; of what was there only the tape's place turns. No condition.
-/
import Derived.Test.YtmhbloefmknikaaGreatDoorLsP
import Derived.Test.YtmhbloefmknikaaGreatDoorRows
import Derived.Outline
import Derived.Deep.QuietTactic
import Derived.BigQuiet
import Derived.IntWalk
import Derived.Lib.Hide
namespace Go.Proofs.YtmhbloefmknikaaGreatDoor
open Go.RowKit

theorem quiet_left {P : Program} {f : FuncId} {args : Array Value} {w : World} {n : Nat} {v : Value}
    (h : Calls P f args (w.drewN n) fun e w' => e = .returned v ∧ w.drewN n = w') : Calls P f args (w.drewN n) fun e w'' => e = .returned v ∧ ∃ m, w'' = w.drewN m :=
  h.mono fun _ _ ⟨he, hm⟩ => ⟨he, n, hm.symm⟩

/-- A slice of ints below block B, as it is read. -/
def Nums (w : World) (B : Nat) (A : Option Addr) (n : Nat) : Prop :=
  0 < n → ∃ b o, A = some ⟨b, o, none⟩ ∧ b < B ∧ ∀ i, i < n → ∃ v : Int, -9223372036854775808 ≤ v ∧ v ≤ 9223372036854775807 ∧ w.cell? ⟨b, o + i, none⟩ = some (.int .i64 v)

/-- Block g is a tape. -/
def Tape (w : World) (g : Nat) : Prop :=
  ∃ (A : Option Addr) (n c : Nat) (at' : Nat), n ≤ 600 ∧ at' ≤ n ∧ Nums w g A n ∧ w.heap[g]? = some (.cells #[.slice A n c, .int .i64 (at' : Int)] 53 (0, 0))

theorem tmod_lo {v n : Int} (hn : 1 ≤ n) (h : v.tmod n < 0) : v.tmod n + n = v % n := by
  have e : v = v.tmod n + n * v.tdiv n := (Int.tmod_add_mul_tdiv v n).symm
  have hm2 : -n < v.tmod n := Int.lt_tmod_of_pos _ (by omega)
  have e2 : v % n = (v.tmod n + n) % n := by
    conv => lhs; rw [e]
    rw [Int.add_mul_emod_self_left, Int.add_emod_right]
  rw [e2, Int.emod_eq_of_lt (by omega) (by omega)]
theorem tmod_hi {v n : Int} (hn : 1 ≤ n) (h : 0 ≤ v.tmod n) : v.tmod n = v % n := by
  have e : v = v.tmod n + n * v.tdiv n := (Int.tmod_add_mul_tdiv v n).symm
  have hm1 : v.tmod n < n := Int.tmod_lt_of_pos _ (by omega)
  have e2 : v % n = v.tmod n % n := by
    conv => lhs; rw [e]
    rw [Int.add_mul_emod_self_left]
  rw [e2, Int.emod_eq_of_lt h hm1]

set_option maxHeartbeats 400000 in
theorem mod_any (v n : Int) (w : World) (h3 : 1 ≤ n) (h4 : n ≤ 9223372036854775807) :
    Calls Tryz.prog 48 #[.int .i64 v, .int .i64 n] w fun e w' => e = .returned (.int .i64 (v % n)) ∧ w = w' := by
  have hm1 : v.tmod n < n := Int.tmod_lt_of_pos _ (by omega)
  have hm2 : -n < v.tmod n := Int.lt_tmod_of_pos _ (by omega)
  go_enter Tryz.func48, Tryz.ntmps48
  go_wp2
  all_goals
    go_ret
    first | exact ⟨ret_int (tmod_hi h3 (by omega)), rfl⟩ | exact ⟨ret_int (tmod_lo h3 (by omega)), rfl⟩

theorem grownBy_trans {a b c : World} {row : Option Nat} (h : a.grownBy b row) (k : b.grownBy c row) : a.grownBy c row :=
  ⟨k.os.trans h.os, k.tape.trans h.tape, k.output.trans h.output, Nat.le_trans h.size k.size, fun i hi hne => (k.block i (Nat.lt_of_lt_of_le hi h.size) hne).trans (h.block i hi hne)⟩
theorem grownBy_refl (a : World) (row : Option Nat) : a.grownBy a row := ⟨rfl, rfl, rfl, Nat.le_refl _, fun _ _ _ => rfl⟩
theorem grownBy_drewN {a b : World} {row : Option Nat} (h : a.grownBy b row) (n : Nat) : a.grownBy (b.drewN n) row := ⟨h.os, h.tape, h.output, h.size, h.block⟩
theorem grownBy_set {a b : World} {g : Nat} (h : a.grownBy b (some g)) (o : Nat) (u : Value) : a.grownBy (b.setCell ⟨g, o, none⟩ u) (some g) :=
  ⟨h.os, h.tape, h.output, by simpa [World.setCell] using h.size, fun i hi hne => (Below.heap_setCell b ⟨g, o, none⟩ u i (by rintro rfl; exact hne rfl)).trans (h.block i hi hne)⟩
theorem grownBy_below {a b c : World} {row : Option Nat} (h : a.grownBy b row) (k : Below b.heap.size b c) : a.grownBy c row :=
  ⟨k.os.trans h.os, k.tape.trans h.tape, k.output.trans h.output, Nat.le_trans h.size k.size, fun i hi hne => (k.block i (Nat.lt_of_lt_of_le hi h.size)).trans (h.block i hi hne)⟩

theorem Nums.keep {w w' : World} {B n : Nat} {A : Option Addr} (h : Nums w B A n) (k : ∀ i, i < B → w'.heap[i]? = w.heap[i]?) : Nums w' B A n := fun hn => by
  obtain ⟨b, o, e, hb, hc⟩ := h hn
  refine ⟨b, o, e, hb, fun i hi => ?_⟩
  obtain ⟨v, h1, h2, h3⟩ := hc i hi
  exact ⟨v, h1, h2, (World.cell?_of_block (k b hb)).trans h3⟩
theorem blk_lt {w : World} {g : Nat} {cs : Array Value} {t : TypeId} {fz : Nat × Nat} (h : w.heap[g]? = some (.cells cs t fz)) : g < w.heap.size := by
  rcases Nat.lt_or_ge g w.heap.size with hlt | hge
  · exact hlt
  · rw [Array.getElem?_eq_none hge] at h; cases h

/-- The tape is still one, and nothing else that was there has turned. -/
def TStep (w : World) (g : Nat) (w' : World) : Prop := Tape w' g ∧ w.grownBy w' (some g)

theorem TStep.trans {a b c : World} {g : Nat} (h : TStep a g b) (k : TStep b g c) : TStep a g c := ⟨k.1, grownBy_trans h.2 k.2⟩
theorem Tape.far {w w' : World} {g : Nat} (h : Tape w g) (k : ∀ i, i < w.heap.size → w'.heap[i]? = w.heap[i]?) : Tape w' g := by
  obtain ⟨A, n, c, p, h1, h2, hn, hb⟩ := h
  have hlt := blk_lt hb
  exact ⟨A, n, c, p, h1, h2, hn.keep (fun i hi => k i (by omega)), (k _ hlt).trans hb⟩
theorem Tape.below {w w' : World} {g : Nat} (h : Tape w g) (k : Below w.heap.size w w') : Tape w' g := h.far k.block
theorem TStep.refl {w : World} {g : Nat} (h : Tape w g) : TStep w g w := ⟨h, grownBy_refl _ _⟩
theorem TStep.below {a b c : World} {g : Nat} (h : TStep a g b) (k : Below b.heap.size b c) : TStep a g c := ⟨h.1.below k, grownBy_below h.2 k⟩
theorem TStep.drewN {a b : World} {g : Nat} (h : TStep a g b) (n : Nat) : TStep a g (b.drewN n) := ⟨h.1.far fun _ _ => rfl, grownBy_drewN h.2 n⟩

/-- What Next gives: a number below n, or 0. -/
def NextP (n : Int) (g : Nat) (w : World) (e : Ending) (w' : World) : Prop := ∃ r : Int, 0 ≤ r ∧ (r < n ∨ r = 0) ∧ e = .returned (.int .i64 r) ∧ TStep w g w'

theorem nextP_zero {n : Int} {g : Nat} {w w' : World} (h : TStep w g w') : NextP n g w (.returned (.int .i64 0)) w' := ⟨0, Int.le_refl _, .inr rfl, rfl, h⟩

theorem nextP_mk {n r : Int} {g : Nat} {w w' : World} (h0 : 0 ≤ r) (h1 : r < n) (h : TStep w g w') : NextP n g w (.returned (.int .i64 r)) w' := ⟨r, h0, .inl h1, rfl, h⟩

set_option maxHeartbeats 400000 in
theorem next_zero (g : Nat) (n : Int) (w : World) (ht : Tape w g) (hn : n < 1) :
    Calls Tryz.prog 11 #[.pointer (some ⟨g, 0, none⟩), .int .i64 n] w (NextP n g w) := by
  have hst := TStep.refl ht
  go_enter Tryz.func11, Tryz.ntmps11
  go_wp2
  go_quiet (fail)
  go_wp2
  go_ret
  exact nextP_zero (hst.drewN _)

set_option maxHeartbeats 800000 in
theorem next_end (g : Nat) (n : Int) (w : World) (ht : Tape w g) (hn : 1 ≤ n) (A : Option Addr) (k c : Nat) (_hk : k ≤ 600) (hb : w.heap[g]? = some (.cells #[.slice A k c, .int .i64 (k : Int)] 53 (0, 0))) :
    Calls Tryz.prog 11 #[.pointer (some ⟨g, 0, none⟩), .int .i64 n] w (NextP n g w) := by
  have hst := TStep.refl ht
  have c0 : w.cell? ⟨g, 0, none⟩ = some (.slice A k c) := cell_of_row w g 0 _ _ _ hb
  have c1 : w.cell? ⟨g, 1, none⟩ = some (.int .i64 (k : Int)) := cell_of_row w g 1 _ _ _ hb
  clear hb
  have hnn : decide (n < 1) = false := by simp; omega
  go_enter Tryz.func11, Tryz.ntmps11
  go_wp2
  go_quiet (fail)
  go_wp2
  go_ret
  exact nextP_zero (hst.drewN _)

theorem Tape.moved {w : World} {g : Nat} {A : Option Addr} {k c p : Nat} (hk : k ≤ 600) (hp : p < k) (hn : Nums w g A k) (hb : w.heap[g]? = some (.cells #[.slice A k c, .int .i64 (p : Int)] 53 (0, 0))) :
    ∀ m, TStep w g ((w.drewN m).setCell ⟨g, 1, none⟩ (.int .i64 ((p : Int) + 1))) := fun m => by
  show TStep w g ((w.setCell ⟨g, 1, none⟩ (.int .i64 ((p : Int) + 1))).drewN m)
  refine TStep.drewN ?_ m
  have hne : ∀ i, i ≠ g → (w.setCell ⟨g, 1, none⟩ (.int .i64 ((p : Int) + 1))).heap[i]? = w.heap[i]? := fun i hi => Below.heap_setCell w _ _ i hi
  refine ⟨⟨A, k, c, p + 1, hk, by omega, hn.keep (fun i hi => hne i (by omega)), ?_⟩, grownBy_set (grownBy_refl _ _) _ _⟩
  simp [World.setCell, Array.getElem?_modify, hb]

set_option maxHeartbeats 1600000 in
theorem next_more (g : Nat) (n : Int) (w : World) (hn : 1 ≤ n) (hn2 : n ≤ 9223372036854775807) (b o k c p : Nat) (hk : k ≤ 600) (hp : p < k) (hN : Nums w g (some ⟨b, o, none⟩) k)
    (hb : w.heap[g]? = some (.cells #[.slice (some ⟨b, o, none⟩) k c, .int .i64 (p : Int)] 53 (0, 0))) :
    Calls Tryz.prog 11 #[.pointer (some ⟨g, 0, none⟩), .int .i64 n] w (NextP n g w) := by
  have hst := Tape.moved hk hp hN hb
  obtain ⟨b', o', e, hlt, hc⟩ := hN (by omega)
  obtain ⟨rfl, rfl⟩ : b = b' ∧ o = o' := by simpa using e
  clear e
  obtain ⟨v, v1, v2, hv⟩ := hc p hp
  have c0 : w.cell? ⟨g, 0, none⟩ = some (.slice (some ⟨b, o, none⟩) k c) := cell_of_row w g 0 _ _ _ hb
  have c1 : w.cell? ⟨g, 1, none⟩ = some (.int .i64 (p : Int)) := cell_of_row w g 1 _ _ _ hb
  have f1 : w.frozen? ⟨g, 1, none⟩ = false := by simp [World.frozen?, hb]
  have hv' : ∀ m u, ((w.drewN m).setCell ⟨g, 1, none⟩ u).cell? ⟨b, o + p, none⟩ = some (.int .i64 v) := fun m u => (World.cell?_setCell_other (w.drewN m) _ _ u (fun e => by injection e with e; omega)).trans hv
  clear hb hc hN hv
  have hnn : decide (n < 1) = false := by simp; omega
  have hpk : decide (k ≤ p) = false := by simp; omega
  have i0 : (0 : Int) ≤ (p : Int) := by omega
  have i1 : (p : Int) < (k : Int) := by omega
  go_enter Tryz.func11, Tryz.ntmps11
  go_wp2
  go_quiet (fail)
  go_wp2
  have e1 : IntKind.i64.wrap ((p : Int) + 1 - 1) = (p : Int) := by rw [Int.add_sub_cancel]; exact IntWalk.i64_in _ (by omega)
  have e2 : IntKind.i64.wrap ((p : Int) + 1 + -1) = (p : Int) := by rw [show (p : Int) + 1 + -1 = p by omega]; exact IntWalk.i64_in _ (by omega)
  have e3 : ((p : Int)).toNat = p := rfl
  go_quiet ((go_at_call 48; exact quiet_left (mod_any _ _ _ hn hn2)))
  go_wp2
  go_ret
  exact nextP_mk (Int.emod_nonneg _ (by omega)) (Int.emod_lt_of_pos _ (by omega)) ((hst _).drewN _)

theorem next_any (g : Nat) (n : Int) (w : World) (ht : Tape w g) (hn2 : n ≤ 9223372036854775807) :
    Calls Tryz.prog 11 #[.pointer (some ⟨g, 0, none⟩), .int .i64 n] w (NextP n g w) := by
  rcases Int.lt_or_le n 1 with h | h
  · exact next_zero g n w ht h
  · have ht' := ht
    obtain ⟨A, k, c, p, hk, hp, hN, hb⟩ := ht'
    rcases Nat.lt_or_ge p k with h1 | h1
    · obtain ⟨b, o, rfl, _⟩ := hN (by omega)
      exact next_more g n w h hn2 b o k c p hk h1 hN hb
    · obtain rfl : p = k := by omega
      exact next_end g n w ht h A p c hk hb

/-- What Bool gives. -/
def BoolP (g : Nat) (w : World) (e : Ending) (w' : World) : Prop := ∃ r : Bool, e = .returned (.bool r) ∧ TStep w g w'
theorem boolP_mk {g : Nat} {w w' : World} {r : Bool} (h : TStep w g w') : BoolP g w (.returned (.bool r)) w' := ⟨r, rfl, h⟩

set_option maxHeartbeats 400000 in
theorem bool_any (g : Nat) (n : Int) (w : World) (ht : Tape w g) (h1 : 1 ≤ n) (h2 : n ≤ 1000) :
    Calls Tryz.prog 12 #[.pointer (some ⟨g, 0, none⟩), .int .i64 n] w (BoolP g w) := by
  go_enter Tryz.func12, Tryz.ntmps12
  go_wp2_with (go_at_call 11; refine (next_any g _ _ ht (by omega)).mono ?_; rintro e w1 ⟨r, r0, r1, rfl, hst⟩)
  go_ret
  exact boolP_mk hst

theorem Tape.lt {w : World} {g : Nat} (h : Tape w g) : g < w.heap.size := by
  obtain ⟨_, _, _, _, _, _, _, hb⟩ := h
  exact blk_lt hb
theorem TStep.set {a b : World} {g : Nat} (h : TStep a g b) {p : Addr} (hp : a.heap.size ≤ p.block) (hg : g < a.heap.size) (u : Value) : TStep a g (b.setCell p u) := by
  obtain ⟨A, n, c, q, h1, h2, hn, hb⟩ := h.1
  have hne : ∀ i, i < a.heap.size → (b.setCell p u).heap[i]? = b.heap[i]? := fun i hi => Below.heap_setCell b p u i (by omega)
  refine ⟨⟨A, n, c, q, h1, h2, hn.keep (fun i hi => hne i (by omega)), (hne _ hg).trans hb⟩, ?_⟩
  exact ⟨h.2.os, h.2.tape, h.2.output, by simpa [World.setCell] using h.2.size, fun i hi hk => (hne i hi).trans (h.2.block i hi hk)⟩
theorem TStep.alloc {a b : World} {g : Nat} (h : TStep a g b) (o : Obj) : TStep a g (b.alloc o) := h.below ((Below.refl _ _).alloc (Nat.le_refl _) o)

theorem TStep.blk {w w1 : World} {g B : Nat} {t : TypeId} {cs : Array Value} (h : TStep w g w1) (hb : w.heap[B]? = some (.cells cs t (0, 0))) (hne : B ≠ g) : w1.heap[B]? = some (.cells cs t (0, 0)) :=
  (h.2.block B (blk_lt hb) (fun e => hne (Option.some.inj e))).trans hb
theorem blk_new (w : World) (t : TypeId) (cs : Array Value) : (w.alloc (.cells cs t)).heap[w.heap.size]? = some (.cells cs t (0, 0)) := heap_alloc_new w _
/-- The cells of a block that is known whole. -/
theorem blk_cells {w : World} {B : Nat} {t : TypeId} {cs : Array Value} (hb : w.heap[B]? = some (.cells cs t (0, 0))) : (∀ o, w.cell? ⟨B, o, none⟩ = cs[o]?) ∧ (∀ o, w.frozen? ⟨B, o, none⟩ = false) :=
  ⟨fun o => cell_of_row w B o cs t (0, 0) hb, fun o => by simp [World.frozen?, hb]⟩

/-- What New gives: a tape in new memory. -/
def NewP (w : World) (e : Ending) (w' : World) : Prop := ∃ g : Nat, w.heap.size ≤ g ∧ e = .returned (.pointer (some ⟨g, 0, none⟩)) ∧ Tape w' g ∧ Below w.heap.size w w'

theorem newP_mk {w : World} {A : Option Addr} {n c : Nat} (hn : n ≤ 600) (hN : Nums w w.heap.size A n) :
    NewP w (.returned (.pointer (some ⟨w.heap.size, 0, none⟩))) (w.alloc (.cells #[.slice A n c, .int .i64 0] 53)) := by
  have k : ∀ i, i < w.heap.size → (w.alloc (.cells #[.slice A n c, .int .i64 0] 53)).heap[i]? = w.heap[i]? := fun i hi => Below.heap_alloc w _ i hi
  exact ⟨_, Nat.le_refl _, rfl, ⟨A, n, c, 0, hn, Nat.zero_le _, hN.keep k, blk_new w _ _⟩, (Below.refl _ _).alloc (Nat.le_refl _) _⟩

theorem Nums.less {w : World} {B n m : Nat} {A : Option Addr} (h : Nums w B A n) (hm : m ≤ n) : Nums w B A m := fun h0 => by
  obtain ⟨b, o, e, hb, hc⟩ := h (by omega)
  exact ⟨b, o, e, hb, fun i hi => hc i (by omega)⟩

set_option maxHeartbeats 800000 in
theorem new_any (A : Option Addr) (n c : Nat) (w : World) (hnc : n ≤ c) (hc : c ≤ maxLen) (hN : Nums w w.heap.size A n) :
    Calls Tryz.prog 7 #[.slice A n c] w (NewP w) := by
  unfold maxLen at hc
  by_cases hs : 600 < n
  · have hN' := hN.less (m := 600) (by omega)
    obtain ⟨b, o, rfl, _⟩ := hN (by omega)
    clear hN
    go_enter Tryz.func7, Tryz.ntmps7
    go_wp2
    go_ret
    exact newP_mk (Nat.le_refl _) hN'
  · go_enter Tryz.func7, Tryz.ntmps7
    go_wp2
    go_ret
    exact newP_mk (by omega) hN

end Go.Proofs.YtmhbloefmknikaaGreatDoor
