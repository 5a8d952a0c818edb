/-
  The calls of the tape: from whatever list of numbers it is made, each choice is a number below its bound, each key a string of at most 65 bytes; of what was there only the tape's place turns. Condition: 'letters' holds six strings of one byte.
-/
import Derived.Test.YtofandkijmbplaaDoorKsP
import Derived.Test.YtofandkijmbplaaDoorRows
import Derived.Outline
import Derived.Deep.QuietTactic
import Derived.BigQuiet
import Derived.IntWalk
import Derived.Lib.Hide
namespace Go.Proofs.YtofandkijmbplaaDoor
open Go.RowKit

theorem quiet_left {P : Program} {f : FuncId} {args : Array Value} {w : World} {n : Nat} {v : Value}
    (h : Calls P f args (w.drewN n) fun e w' => e = .returned v ∧ w.drewN n = w') : Calls P f args (w.drewN n) fun e w'' => e = .returned v ∧ ∃ m, w'' = w.drewN m :=
  h.mono fun _ _ ⟨he, hm⟩ => ⟨he, n, hm.symm⟩

/-- 'letters' holds six strings of one byte. -/
def Lets (w : World) : Prop := ∀ i, i < 6 → ∃ s : ByteArray, s.size = 1 ∧ w.cell? ⟨0, i, none⟩ = some (.string s)

/-- A slice of ints below block B, as it is read. -/
def Nums (w : World) (B : Nat) (A : Option Addr) (n : Nat) : Prop :=
  0 < n → ∃ b o, A = some ⟨b, o, none⟩ ∧ b < B ∧ ∀ i, i < n → ∃ v : Int, -9223372036854775808 ≤ v ∧ v ≤ 9223372036854775807 ∧ w.cell? ⟨b, o + i, none⟩ = some (.int .i64 v)

/-- Block g is a tape. -/
def Tape (w : World) (g : Nat) : Prop :=
  Lets w ∧ 0 < g ∧ ∃ (A : Option Addr) (n c : Nat) (at' : Nat), n ≤ 600 ∧ at' ≤ n ∧ Nums w g A n ∧ w.heap[g]? = some (.cells #[.slice A n c, .int .i64 (at' : Int)] 74 (0, 0))

theorem tmod_lo {v n : Int} (hn : 1 ≤ n) (h : v.tmod n < 0) : v.tmod n + n = v % n := by
  have e : v = v.tmod n + n * v.tdiv n := (Int.tmod_add_mul_tdiv v n).symm
  have hm2 : -n < v.tmod n := Int.lt_tmod_of_pos _ (by omega)
  have e2 : v % n = (v.tmod n + n) % n := by
    conv => lhs; rw [e]
    rw [Int.add_mul_emod_self_left, Int.add_emod_right]
  rw [e2, Int.emod_eq_of_lt (by omega) (by omega)]
theorem tmod_hi {v n : Int} (hn : 1 ≤ n) (h : 0 ≤ v.tmod n) : v.tmod n = v % n := by
  have e : v = v.tmod n + n * v.tdiv n := (Int.tmod_add_mul_tdiv v n).symm
  have hm1 : v.tmod n < n := Int.tmod_lt_of_pos _ (by omega)
  have e2 : v % n = v.tmod n % n := by
    conv => lhs; rw [e]
    rw [Int.add_mul_emod_self_left]
  rw [e2, Int.emod_eq_of_lt h hm1]

set_option maxHeartbeats 400000 in
theorem mod_any (v n : Int) (w : World) (h3 : 1 ≤ n) (h4 : n ≤ 9223372036854775807) :
    Calls Tryd.prog 28 #[.int .i64 v, .int .i64 n] w fun e w' => e = .returned (.int .i64 (v % n)) ∧ w = w' := by
  have hm1 : v.tmod n < n := Int.tmod_lt_of_pos _ (by omega)
  have hm2 : -n < v.tmod n := Int.lt_tmod_of_pos _ (by omega)
  go_enter Tryd.func28, Tryd.ntmps28
  go_wp2
  all_goals
    go_ret
    first | exact ⟨ret_int (tmod_hi h3 (by omega)), rfl⟩ | exact ⟨ret_int (tmod_lo h3 (by omega)), rfl⟩

theorem grownBy_trans {a b c : World} {row : Option Nat} (h : a.grownBy b row) (k : b.grownBy c row) : a.grownBy c row :=
  ⟨k.os.trans h.os, k.tape.trans h.tape, k.output.trans h.output, Nat.le_trans h.size k.size, fun i hi hne => (k.block i (Nat.lt_of_lt_of_le hi h.size) hne).trans (h.block i hi hne)⟩
theorem grownBy_refl (a : World) (row : Option Nat) : a.grownBy a row := ⟨rfl, rfl, rfl, Nat.le_refl _, fun _ _ _ => rfl⟩
theorem grownBy_drewN {a b : World} {row : Option Nat} (h : a.grownBy b row) (n : Nat) : a.grownBy (b.drewN n) row := ⟨h.os, h.tape, h.output, h.size, h.block⟩
theorem grownBy_set {a b : World} {g : Nat} (h : a.grownBy b (some g)) (o : Nat) (u : Value) : a.grownBy (b.setCell ⟨g, o, none⟩ u) (some g) :=
  ⟨h.os, h.tape, h.output, by simpa [World.setCell] using h.size, fun i hi hne => (Below.heap_setCell b ⟨g, o, none⟩ u i (by rintro rfl; exact hne rfl)).trans (h.block i hi hne)⟩
theorem grownBy_below {a b c : World} {row : Option Nat} (h : a.grownBy b row) (k : Below b.heap.size b c) : a.grownBy c row :=
  ⟨k.os.trans h.os, k.tape.trans h.tape, k.output.trans h.output, Nat.le_trans h.size k.size, fun i hi hne => (k.block i (Nat.lt_of_lt_of_le hi h.size)).trans (h.block i hi hne)⟩

theorem Nums.keep {w w' : World} {B n : Nat} {A : Option Addr} (h : Nums w B A n) (k : ∀ i, i < B → w'.heap[i]? = w.heap[i]?) : Nums w' B A n := fun hn => by
  obtain ⟨b, o, e, hb, hc⟩ := h hn
  refine ⟨b, o, e, hb, fun i hi => ?_⟩
  obtain ⟨v, h1, h2, h3⟩ := hc i hi
  exact ⟨v, h1, h2, (World.cell?_of_block (k b hb)).trans h3⟩
theorem Lets.keep {w w' : World} (h : Lets w) (k : w'.heap[0]? = w.heap[0]?) : Lets w' := fun i hi => by
  obtain ⟨s, h1, h2⟩ := h i hi
  exact ⟨s, h1, (World.cell?_of_block (w := w) k).trans h2⟩

theorem blk_lt {w : World} {g : Nat} {cs : Array Value} {t : TypeId} {fz : Nat × Nat} (h : w.heap[g]? = some (.cells cs t fz)) : g < w.heap.size := by
  rcases Nat.lt_or_ge g w.heap.size with hlt | hge
  · exact hlt
  · rw [Array.getElem?_eq_none hge] at h; cases h

/-- The tape is still one, and nothing else that was there has turned. -/
def TStep (w : World) (g : Nat) (w' : World) : Prop := Tape w' g ∧ w.grownBy w' (some g)

theorem TStep.trans {a b c : World} {g : Nat} (h : TStep a g b) (k : TStep b g c) : TStep a g c := ⟨k.1, grownBy_trans h.2 k.2⟩
theorem Tape.far {w w' : World} {g : Nat} (h : Tape w g) (k : ∀ i, i < w.heap.size → w'.heap[i]? = w.heap[i]?) : Tape w' g := by
  obtain ⟨hl, h0, A, n, c, p, h1, h2, hn, hb⟩ := h
  have hlt := blk_lt hb
  exact ⟨hl.keep (k _ (by omega)), h0, A, n, c, p, h1, h2, hn.keep (fun i hi => k i (by omega)), (k _ hlt).trans hb⟩
theorem Tape.below {w w' : World} {g : Nat} (h : Tape w g) (k : Below w.heap.size w w') : Tape w' g := h.far k.block
theorem TStep.refl {w : World} {g : Nat} (h : Tape w g) : TStep w g w := ⟨h, grownBy_refl _ _⟩
theorem TStep.below {a b c : World} {g : Nat} (h : TStep a g b) (k : Below b.heap.size b c) : TStep a g c := ⟨h.1.below k, grownBy_below h.2 k⟩
theorem TStep.drewN {a b : World} {g : Nat} (h : TStep a g b) (n : Nat) : TStep a g (b.drewN n) := ⟨h.1.far fun _ _ => rfl, grownBy_drewN h.2 n⟩

/-- What Next gives: a number below n, or 0. -/
def NextP (n : Int) (g : Nat) (w : World) (e : Ending) (w' : World) : Prop := ∃ r : Int, 0 ≤ r ∧ (r < n ∨ r = 0) ∧ e = .returned (.int .i64 r) ∧ TStep w g w'

theorem nextP_zero {n : Int} {g : Nat} {w w' : World} (h : TStep w g w') : NextP n g w (.returned (.int .i64 0)) w' := ⟨0, Int.le_refl _, .inr rfl, rfl, h⟩

theorem nextP_mk {n r : Int} {g : Nat} {w w' : World} (h0 : 0 ≤ r) (h1 : r < n) (h : TStep w g w') : NextP n g w (.returned (.int .i64 r)) w' := ⟨r, h0, .inl h1, rfl, h⟩

set_option maxHeartbeats 400000 in
theorem next_zero (g : Nat) (n : Int) (w : World) (ht : Tape w g) (hn : n < 1) :
    Calls Tryd.prog 15 #[.pointer (some ⟨g, 0, none⟩), .int .i64 n] w (NextP n g w) := by
  have hst := TStep.refl ht
  go_enter Tryd.func15, Tryd.ntmps15
  go_wp2
  go_quiet (fail)
  go_wp2
  go_ret
  exact nextP_zero (hst.drewN _)

set_option maxHeartbeats 800000 in
theorem next_end (g : Nat) (n : Int) (w : World) (ht : Tape w g) (hn : 1 ≤ n) (A : Option Addr) (k c : Nat) (_hk : k ≤ 600) (hb : w.heap[g]? = some (.cells #[.slice A k c, .int .i64 (k : Int)] 74 (0, 0))) :
    Calls Tryd.prog 15 #[.pointer (some ⟨g, 0, none⟩), .int .i64 n] w (NextP n g w) := by
  have hst := TStep.refl ht
  have c0 : w.cell? ⟨g, 0, none⟩ = some (.slice A k c) := cell_of_row w g 0 _ _ _ hb
  have c1 : w.cell? ⟨g, 1, none⟩ = some (.int .i64 (k : Int)) := cell_of_row w g 1 _ _ _ hb
  clear hb
  have hnn : decide (n < 1) = false := by simp; omega
  go_enter Tryd.func15, Tryd.ntmps15
  go_wp2
  go_quiet (fail)
  go_wp2
  go_ret
  exact nextP_zero (hst.drewN _)

theorem Tape.moved {w : World} {g : Nat} (h : Tape w g) {A : Option Addr} {k c p : Nat} (hk : k ≤ 600) (hp : p < k) (hn : Nums w g A k) (hb : w.heap[g]? = some (.cells #[.slice A k c, .int .i64 (p : Int)] 74 (0, 0))) :
    ∀ m, TStep w g ((w.drewN m).setCell ⟨g, 1, none⟩ (.int .i64 ((p : Int) + 1))) := fun m => by
  show TStep w g ((w.setCell ⟨g, 1, none⟩ (.int .i64 ((p : Int) + 1))).drewN m)
  refine TStep.drewN ?_ m
  have hne : ∀ i, i ≠ g → (w.setCell ⟨g, 1, none⟩ (.int .i64 ((p : Int) + 1))).heap[i]? = w.heap[i]? := fun i hi => Below.heap_setCell w _ _ i hi
  refine ⟨⟨h.1.keep (hne _ (by have := h.2.1; omega)), h.2.1, A, k, c, p + 1, hk, by omega, hn.keep (fun i hi => hne i (by omega)), ?_⟩, grownBy_set (grownBy_refl _ _) _ _⟩
  simp [World.setCell, Array.getElem?_modify, hb]

set_option maxHeartbeats 1600000 in
theorem next_more (g : Nat) (n : Int) (w : World) (ht : Tape w g) (hn : 1 ≤ n) (hn2 : n ≤ 9223372036854775807) (b o k c p : Nat) (hk : k ≤ 600) (hp : p < k) (hN : Nums w g (some ⟨b, o, none⟩) k)
    (hb : w.heap[g]? = some (.cells #[.slice (some ⟨b, o, none⟩) k c, .int .i64 (p : Int)] 74 (0, 0))) :
    Calls Tryd.prog 15 #[.pointer (some ⟨g, 0, none⟩), .int .i64 n] w (NextP n g w) := by
  have hst := ht.moved hk hp hN hb
  obtain ⟨b', o', e, hlt, hc⟩ := hN (by omega)
  obtain ⟨rfl, rfl⟩ : b = b' ∧ o = o' := by simpa using e
  clear e
  obtain ⟨v, v1, v2, hv⟩ := hc p hp
  have c0 : w.cell? ⟨g, 0, none⟩ = some (.slice (some ⟨b, o, none⟩) k c) := cell_of_row w g 0 _ _ _ hb
  have c1 : w.cell? ⟨g, 1, none⟩ = some (.int .i64 (p : Int)) := cell_of_row w g 1 _ _ _ hb
  have f1 : w.frozen? ⟨g, 1, none⟩ = false := by simp [World.frozen?, hb]
  have hv' : ∀ m u, ((w.drewN m).setCell ⟨g, 1, none⟩ u).cell? ⟨b, o + p, none⟩ = some (.int .i64 v) := fun m u => (World.cell?_setCell_other (w.drewN m) _ _ u (fun e => by injection e with e; omega)).trans hv
  clear hb hc hN ht hv
  have hnn : decide (n < 1) = false := by simp; omega
  have hpk : decide (k ≤ p) = false := by simp; omega
  have i0 : (0 : Int) ≤ (p : Int) := by omega
  have i1 : (p : Int) < (k : Int) := by omega
  go_enter Tryd.func15, Tryd.ntmps15
  go_wp2
  go_quiet (fail)
  go_wp2
  have e1 : IntKind.i64.wrap ((p : Int) + 1 - 1) = (p : Int) := by rw [Int.add_sub_cancel]; exact IntWalk.i64_in _ (by omega)
  have e2 : IntKind.i64.wrap ((p : Int) + 1 + -1) = (p : Int) := by rw [show (p : Int) + 1 + -1 = p by omega]; exact IntWalk.i64_in _ (by omega)
  have e3 : ((p : Int)).toNat = p := rfl
  go_quiet ((go_at_call 28; exact quiet_left (mod_any _ _ _ hn hn2)))
  go_wp2
  go_ret
  exact nextP_mk (Int.emod_nonneg _ (by omega)) (Int.emod_lt_of_pos _ (by omega)) ((hst _).drewN _)

theorem next_any (g : Nat) (n : Int) (w : World) (ht : Tape w g) (hn2 : n ≤ 9223372036854775807) :
    Calls Tryd.prog 15 #[.pointer (some ⟨g, 0, none⟩), .int .i64 n] w (NextP n g w) := by
  rcases Int.lt_or_le n 1 with h | h
  · exact next_zero g n w ht h
  · have ht' := ht
    obtain ⟨_, _, A, k, c, p, hk, hp, hN, hb⟩ := ht'
    rcases Nat.lt_or_ge p k with h1 | h1
    · obtain ⟨b, o, rfl, _⟩ := hN (by omega)
      exact next_more g n w ht h hn2 b o k c p hk h1 hN hb
    · obtain rfl : p = k := by omega
      exact next_end g n w ht h A p c hk hb

/-- What Bool gives. -/
def BoolP (g : Nat) (w : World) (e : Ending) (w' : World) : Prop := ∃ r : Bool, e = .returned (.bool r) ∧ TStep w g w'
theorem boolP_mk {g : Nat} {w w' : World} {r : Bool} (h : TStep w g w') : BoolP g w (.returned (.bool r)) w' := ⟨r, rfl, h⟩

set_option maxHeartbeats 400000 in
theorem bool_any (g : Nat) (n : Int) (w : World) (ht : Tape w g) (h1 : 1 ≤ n) (h2 : n ≤ 1000) :
    Calls Tryd.prog 42 #[.pointer (some ⟨g, 0, none⟩), .int .i64 n] w (BoolP g w) := by
  go_enter Tryd.func42, Tryd.ntmps42
  go_wp2_with (go_at_call 15; refine (next_any g _ _ ht (by omega)).mono ?_; rintro e w1 ⟨r, r0, r1, rfl, hst⟩)
  go_ret
  exact boolP_mk hst

/-- What long gives: a string of n bytes. -/
def LongP (n : Nat) (w : World) (e : Ending) (w' : World) : Prop := ∃ s : ByteArray, s.size = n ∧ e = .returned (.string s) ∧ w = w'
theorem longP_mk {n : Nat} {w : World} {s : ByteArray} (h : s.size = n) : LongP n w (.returned (.string s)) w := ⟨s, h, rfl, rfl⟩

set_option maxHeartbeats 800000 in
theorem long_any (s : ByteArray) (hs : s.size = 1) (n : Nat) (hn : n ≤ 1000) (w : World) :
    Calls Tryd.prog 53 #[.string s, .int .i64 (n : Int)] w (LongP n w) := by
  have hs' : s.size ≤ 1 := by omega
  have HS : Hid (s.size = 1) := hs
  clear hs
  go_enter Tryd.func53, Tryd.ntmps53
  go_wp2
  go_loop [5, 6] (fun out i => ∃ (k : Nat) (x : ByteArray), k ≤ n ∧ x.size = k ∧ i = .int .i64 k ∧ out = .string x) (fun _ i => n - (intOf i).toNat)
  case atStart => exact ⟨0, ByteArray.empty, Nat.zero_le _, rfl, rfl, rfl⟩
  case round =>
    obtain ⟨k, x, hk, hx, rfl, rfl⟩ := hrel
    have hx' : x.size ≤ 1000 := by omega
    have HX : Hid (x.size = k) := hx
    clear hx
    by_cases hlt : k < n
    · go_wp2
      go_round
      case rel => exact ⟨k + 1, x ++ s, by omega, by rw [ByteArray.size_append, HX.out, HS.out], by go_num, rfl⟩
      case measure => simp [intOf]; omega
    · go_wp2
      go_ret
      exact longP_mk (by have := HX.out; omega)

/-- What Key and OddKey give: a string of at most m bytes. -/
def KeyP (m g : Nat) (w : World) (e : Ending) (w' : World) : Prop := ∃ s : ByteArray, s.size ≤ m ∧ e = .returned (.string s) ∧ TStep w g w'
theorem keyP_mk {m g : Nat} {w w' : World} {s : ByteArray} (h : s.size ≤ m) (k : TStep w g w') : KeyP m g w (.returned (.string s)) w' := ⟨s, h, rfl, k⟩

/-- The letter that Next(6) picks. -/
theorem TStep.letter {w w1 : World} {g : Nat} (h : TStep w g w1) {r : Int} (r1 : r < 6 ∨ r = 0) : ∃ s : ByteArray, s.size = 1 ∧ w1.cell? ⟨0, r.toNat, none⟩ = some (.string s) := h.1.1 _ (by omega)
theorem next_lt {r n : Int} (h : r < n ∨ r = 0) (hn : 1 ≤ n) : r < n := by omega

set_option maxHeartbeats 3200000 in
theorem key_any (g : Nat) (w : World) (ht : Tape w g) :
    Calls Tryd.prog 29 #[.pointer (some ⟨g, 0, none⟩)] w (KeyP 64 g w) := by
  have hst := TStep.refl ht
  clear ht
  go_enter Tryd.func29, Tryd.ntmps29
  go_wp2_with (first | (go_at_call 15; refine (next_any g _ _ hst.1 (by omega)).mono ?_; rintro e w1 ⟨r, r0, r1, rfl, hst1⟩; replace hst := hst.trans hst1; clear hst1; first | (obtain ⟨s, hs, hl⟩ := hst.letter r1; have r2 := next_lt r1 (by decide); clear r1; have HS := Lib.hid hs; have hs1 : s.size ≤ 1 := (by omega); clear hs) | (have r2 := next_lt r1 (by decide); clear r1)) | (go_at_call 53; refine (long_any _ HS.out 64 (by omega) _).mono ?_; rintro e w2 ⟨s2, hs2, rfl, rfl⟩))
  · go_ret
    exact keyP_mk (by omega) hst
  · go_ret
    exact keyP_mk (by decide) hst
  · go_loopw [3, 4] (fun out i wr => ∃ (k : Nat) (x : ByteArray), x.size + k ≤ 3 ∧ i = .int .i64 k ∧ out = .string x ∧ TStep w g wr) (fun _ i _ => (intOf i).toNat)
    case atStart => exact ⟨(1 + r).toNat, ByteArray.empty, by (show 0 + (1 + r).toNat ≤ 3; omega), by rw [Int.toNat_of_nonneg (by omega)], rfl, hst⟩
    case round =>
      obtain ⟨k, x, hx, rfl, rfl, hst⟩ := hrel
      by_cases hlt : 0 < k
      · go_wp2_with (first | (go_at_call 15; refine (next_any g _ _ hst.1 (by omega)).mono ?_; rintro e w1 ⟨r, r0, r1, rfl, hst1⟩; replace hst := hst.trans hst1; clear hst1; first | (obtain ⟨s, hs, hl⟩ := hst.letter r1; have r2 := next_lt r1 (by decide); clear r1; have HS := Lib.hid hs; have hs1 : s.size ≤ 1 := (by omega); clear hs) | (have r2 := next_lt r1 (by decide); clear r1)) | (go_at_call 53; refine (long_any _ HS.out 64 (by omega) _).mono ?_; rintro e w2 ⟨s2, hs2, rfl, rfl⟩))
        go_roundw
        case rel => exact ⟨k - 1, x ++ s, by rw [ByteArray.size_append]; omega, by congr 1; omega, rfl, hst⟩
        case measure => simp [intOf]; omega
      · go_wp2
        go_ret
        exact keyP_mk (by omega) hst

set_option maxHeartbeats 3200000 in
theorem oddKey_any (g : Nat) (w : World) (ht : Tape w g) :
    Calls Tryd.prog 17 #[.pointer (some ⟨g, 0, none⟩)] w (KeyP 65 g w) := by
  have hst := TStep.refl ht
  clear ht
  go_enter Tryd.func17, Tryd.ntmps17
  go_wp2_with (first | (go_at_call 15; refine (next_any g _ _ hst.1 (by omega)).mono ?_; rintro e w1 ⟨r, r0, r1, rfl, hst1⟩; replace hst := hst.trans hst1; clear hst1; first | (obtain ⟨s, hs, hl⟩ := hst.letter r1; have r2 := next_lt r1 (by decide); clear r1; have HS := Lib.hid hs; have hs1 : s.size ≤ 1 := (by omega); clear hs) | (have r2 := next_lt r1 (by decide); clear r1)) | (go_at_call 42; refine (bool_any g _ _ hst.1 (by omega) (by omega)).mono ?_; rintro e w1 ⟨q, rfl, hst1⟩; replace hst := hst.trans hst1; clear hst1) | (go_at_call 29; refine (key_any g _ hst.1).mono ?_; rintro e w1 ⟨y, hy, rfl, hst1⟩; replace hst := hst.trans hst1; clear hst1) | (go_at_call 53; refine (long_any _ HS.out 65 (by omega) _).mono ?_; rintro e w2 ⟨s2, hs2, rfl, rfl⟩))
  all_goals
    go_ret
    exact keyP_mk (by omega) hst

theorem TStep.keeps {w w1 : World} {g : Nat} (h : TStep w g w1) : (∀ b o, b < w.heap.size → b ≠ g → w1.cell? ⟨b, o, none⟩ = w.cell? ⟨b, o, none⟩) ∧ (∀ b o, b < w.heap.size → b ≠ g → w1.frozen? ⟨b, o, none⟩ = w.frozen? ⟨b, o, none⟩) ∧ w.heap.size ≤ w1.heap.size :=
  ⟨fun b _ h1 h2 => World.cell?_of_block (h.2.block b h1 (fun e => h2 (Option.some.inj e))), fun b _ h1 h2 => World.frozen?_of_block (h.2.block b h1 (fun e => h2 (Option.some.inj e))), h.2.size⟩
theorem Tape.lt {w : World} {g : Nat} (h : Tape w g) : g < w.heap.size := by
  obtain ⟨_, _, _, _, _, _, _, _, _, hb⟩ := h
  exact blk_lt hb
theorem TStep.set {a b : World} {g : Nat} (h : TStep a g b) {p : Addr} (hp : a.heap.size ≤ p.block) (hg : g < a.heap.size) (u : Value) : TStep a g (b.setCell p u) := by
  obtain ⟨hl, h0, A, n, c, q, h1, h2, hn, hb⟩ := h.1
  have hne : ∀ i, i < a.heap.size → (b.setCell p u).heap[i]? = b.heap[i]? := fun i hi => Below.heap_setCell b p u i (by omega)
  refine ⟨⟨hl.keep (hne _ (by omega)), h0, A, n, c, q, h1, h2, hn.keep (fun i hi => hne i (by omega)), (hne _ hg).trans hb⟩, ?_⟩
  exact ⟨h.2.os, h.2.tape, h.2.output, by simpa [World.setCell] using h.2.size, fun i hi hk => (hne i hi).trans (h.2.block i hi hk)⟩
theorem TStep.alloc {a b : World} {g : Nat} (h : TStep a g b) (o : Obj) : TStep a g (b.alloc o) := h.below ((Below.refl _ _).alloc (Nat.le_refl _) o)

/-- What Bound gives. -/
def BoundP (g : Nat) (w : World) (e : Ending) (w' : World) : Prop := ∃ b : Bd, b.key.size ≤ 65 ∧ e = .returned b.val ∧ TStep w g w'
theorem boundP_mk {g : Nat} {w w' : World} {k : ByteArray} {t : Bool} (h : k.size ≤ 65) (hs : TStep w g w') : BoundP g w (.returned (.agg #[.string k, .bool t])) w' := ⟨⟨k, t⟩, h, rfl, hs⟩

set_option maxHeartbeats 3200000 in
theorem bound_any (g : Nat) (w : World) (ht : Tape w g) :
    Calls Tryd.prog 25 #[.pointer (some ⟨g, 0, none⟩)] w (BoundP g w) := by
  have hst := (TStep.refl ht).alloc (.cells #[.string ByteArray.empty, .bool false] 28)
  have hg := ht.lt
  have hg1 : w.heap.size ≠ g := by omega
  clear ht
  go_enter Tryd.func25, Tryd.ntmps25
  go_wp2_with (first | (go_at_call 15; refine (next_any g _ _ hst.1 (by omega)).mono ?_; rintro e w1 ⟨r, r0, r1, rfl, hst1⟩; obtain ⟨hc, hf, hz⟩ := hst1.keeps; (have hz2 : w.heap.size < w1.heap.size := by (have h9 := hz; (try simp at h9); omega)); clear hz; replace hst := hst.trans hst1; clear hst1; first | (obtain ⟨s, hs, hl⟩ := hst.letter r1; have r2 := next_lt r1 (by decide); clear r1; have HS := Lib.hid hs; have hs1 : s.size ≤ 1 := (by omega); clear hs) | (have r2 := next_lt r1 (by decide); clear r1)) | (go_at_call 42; refine (bool_any g _ _ hst.1 (by omega) (by omega)).mono ?_; rintro e w1 ⟨q, rfl, hst1⟩; obtain ⟨hc, hf, hz⟩ := hst1.keeps; (have hz2 : w.heap.size < w1.heap.size := by (have h9 := hz; (try simp at h9); omega)); clear hz; replace hst := hst.trans hst1; clear hst1) | (go_at_call 29; refine (key_any g _ hst.1).mono ?_; rintro e w1 ⟨y, hy, rfl, hst1⟩; obtain ⟨hc, hf, hz⟩ := hst1.keeps; (have hz2 : w.heap.size < w1.heap.size := by (have h9 := hz; (try simp at h9); omega)); clear hz; replace hst := hst.trans hst1; clear hst1) | (go_at_call 17; refine (oddKey_any g _ hst.1).mono ?_; rintro e w1 ⟨y, hy, rfl, hst1⟩; obtain ⟨hc, hf, hz⟩ := hst1.keeps; (have hz2 : w.heap.size < w1.heap.size := by (have h9 := hz; (try simp at h9); omega)); clear hz; replace hst := hst.trans hst1; clear hst1))
  all_goals
    refine bodyPost_ret (v := .agg #[.string _, .bool _]) (by simp [results, Tryd.results25, go_sem, *]; exact ⟨rfl, rfl⟩) rfl (boundP_mk ?_ ((hst.set (p := ⟨_, _, none⟩) ?_ hg _).set (p := ⟨_, _, none⟩) ?_ hg _))
    · first | assumption | omega | decide
    · exact Nat.le_refl _
    · exact Nat.le_refl _

/-- What Range gives. -/
def RangeP (g : Nat) (w : World) (e : Ending) (w' : World) : Prop := ∃ r : Rg, r.lo.key.size ≤ 65 ∧ r.hi.key.size ≤ 65 ∧ e = .returned r.val ∧ TStep w g w'
theorem rangeP_mk {g : Nat} {w w' : World} {k l : ByteArray} {t u : Bool} (h : k.size ≤ 65) (h2 : l.size ≤ 65) (hs : TStep w g w') : RangeP g w (.returned (.agg #[.string k, .bool t, .string l, .bool u])) w' := ⟨⟨⟨k, t⟩, ⟨l, u⟩⟩, h, h2, rfl, hs⟩

theorem TStep.blk {w w1 : World} {g B : Nat} {t : TypeId} {cs : Array Value} (h : TStep w g w1) (hb : w.heap[B]? = some (.cells cs t (0, 0))) (hne : B ≠ g) : w1.heap[B]? = some (.cells cs t (0, 0)) :=
  (h.2.block B (blk_lt hb) (fun e => hne (Option.some.inj e))).trans hb
theorem blk_new (w : World) (t : TypeId) (cs : Array Value) : (w.alloc (.cells cs t)).heap[w.heap.size]? = some (.cells cs t (0, 0)) := heap_alloc_new w _
theorem blk_alloc {w : World} {B : Nat} {t : TypeId} {cs : Array Value} (hb : w.heap[B]? = some (.cells cs t (0, 0))) (o : Obj) : (w.alloc o).heap[B]? = some (.cells cs t (0, 0)) := (Below.heap_alloc w o B (blk_lt hb)).trans hb
/-- The cells of a block that is known whole. -/
theorem blk_cells {w : World} {B : Nat} {t : TypeId} {cs : Array Value} (hb : w.heap[B]? = some (.cells cs t (0, 0))) : (∀ o, w.cell? ⟨B, o, none⟩ = cs[o]?) ∧ (∀ o, w.frozen? ⟨B, o, none⟩ = false) :=
  ⟨fun o => cell_of_row w B o cs t (0, 0) hb, fun o => by simp [World.frozen?, hb]⟩

set_option maxHeartbeats 3200000 in
theorem range_any (g : Nat) (w : World) (ht : Tape w g) :
    Calls Tryd.prog 16 #[.pointer (some ⟨g, 0, none⟩)] w (RangeP g w) := by
  have hst := (TStep.refl ht).alloc (.cells #[.string ByteArray.empty, .bool false, .string ByteArray.empty, .bool false] 30)
  have B0 := Lib.hid (blk_new w 30 #[.string ByteArray.empty, .bool false, .string ByteArray.empty, .bool false])
  have hg := ht.lt
  have hg1 : w.heap.size ≠ g := by omega
  clear ht
  go_enter Tryd.func16, Tryd.ntmps16
  go_wp2_with fail
  refine (bound_any g _ hst.1).mono ?_
  rintro e w1 ⟨⟨k1, t1⟩, hk1, rfl, hst1⟩
  replace B0 := Lib.hid (hst1.blk B0.out hg1)
  replace hst := hst.trans hst1
  clear hst1
  go_wp2_with fail
  refine (bound_any g _ hst.1).mono ?_
  rintro e w2 ⟨⟨k2, t2⟩, hk2, rfl, hst2⟩
  replace B0 := Lib.hid (hst2.blk B0.out hg1)
  have hz0 := blk_lt B0.out
  have hg2 : w2.heap.size ≠ g := by omega
  have hg3 : w2.heap.size + 1 ≠ g := by omega
  replace hst := hst.trans hst2
  clear hst2
  have B1 := Lib.hid (blk_alloc (blk_new w2 28 #[.string k1, .bool t1]) (.cells #[.string k2, .bool t2] 28))
  have B2 := Lib.hid (blk_new (w2.alloc (.cells #[.string k1, .bool t1] 28)) 28 #[.string k2, .bool t2])
  replace B0 := Lib.hid (blk_alloc (blk_alloc B0.out (.cells #[.string k1, .bool t1] 28)) (.cells #[.string k2, .bool t2] 28))
  go_wp2_with fail
  refine (bool_any g _ _ (And.left (?ht : TStep w g _)) (by omega) (by omega)).mono ?_
  case ht => exact (hst.alloc _).alloc _
  rintro e w3 ⟨q, rfl, hst3⟩
  replace B0 := Lib.hid (hst3.blk B0.out hg1)
  replace B1 := Lib.hid (hst3.blk B1.out hg2)
  replace B2 := Lib.hid (hst3.blk B2.out (by simpa using hg3))
  obtain ⟨c0, f0⟩ := blk_cells B0.out
  obtain ⟨c1, f1⟩ := blk_cells B1.out
  obtain ⟨c2, f2⟩ := blk_cells B2.out
  simp at c2 f2
  have hn1 : w2.heap.size ≠ w.heap.size := by omega
  have hn2 : w2.heap.size + 1 ≠ w.heap.size := by omega
  have hn3 : w.heap.size ≠ w2.heap.size := by omega
  have hn4 : w.heap.size ≠ w2.heap.size + 1 := by omega
  replace hst : TStep w g w3 := ((hst.alloc _).alloc _).trans hst3
  clear hst3
  have hle : w.heap.size ≤ w2.heap.size := by omega
  have hle2 : w.heap.size ≤ w2.heap.size + 1 := by omega
  clear B0 B1 B2 hz0
  go_wp2
  all_goals
    refine bodyPost_ret (v := .agg #[.string _, .bool _, .string _, .bool _]) (by simp [results, Tryd.results16, go_sem, *]; exact ⟨rfl, rfl, rfl, rfl⟩) rfl (rangeP_mk ?_ ?_ ?_)
    · assumption
    · assumption
    · repeat' (first | with_reducible exact hst | with_reducible exact hle | with_reducible exact hle2 | with_reducible exact Nat.le_refl _ | with_reducible refine TStep.set ?_ ?_ hg _)

/-- What New gives: a tape in new memory. -/
def NewP (w : World) (e : Ending) (w' : World) : Prop := ∃ g : Nat, w.heap.size ≤ g ∧ e = .returned (.pointer (some ⟨g, 0, none⟩)) ∧ Tape w' g ∧ Below w.heap.size w w'

theorem newP_mk {w : World} {A : Option Addr} {n c : Nat} (hl : Lets w) (h0 : 0 < w.heap.size) (hn : n ≤ 600) (hN : Nums w w.heap.size A n) :
    NewP w (.returned (.pointer (some ⟨w.heap.size, 0, none⟩))) (w.alloc (.cells #[.slice A n c, .int .i64 0] 74)) := by
  have k : ∀ i, i < w.heap.size → (w.alloc (.cells #[.slice A n c, .int .i64 0] 74)).heap[i]? = w.heap[i]? := fun i hi => Below.heap_alloc w _ i hi
  exact ⟨_, Nat.le_refl _, rfl, ⟨hl.keep (k _ h0), h0, A, n, c, 0, hn, Nat.zero_le _, hN.keep k, blk_new w _ _⟩, (Below.refl _ _).alloc (Nat.le_refl _) _⟩

theorem Nums.less {w : World} {B n m : Nat} {A : Option Addr} (h : Nums w B A n) (hm : m ≤ n) : Nums w B A m := fun h0 => by
  obtain ⟨b, o, e, hb, hc⟩ := h (by omega)
  exact ⟨b, o, e, hb, fun i hi => hc i (by omega)⟩

set_option maxHeartbeats 800000 in
theorem new_any (A : Option Addr) (n c : Nat) (w : World) (hl : Lets w) (hw : 0 < w.heap.size) (hnc : n ≤ c) (hc : c ≤ maxLen) (hN : Nums w w.heap.size A n) :
    Calls Tryd.prog 14 #[.slice A n c] w (NewP w) := by
  unfold maxLen at hc
  by_cases hs : 600 < n
  · have hN' := hN.less (m := 600) (by omega)
    obtain ⟨b, o, rfl, _⟩ := hN (by omega)
    clear hN
    go_enter Tryd.func14, Tryd.ntmps14
    go_wp2
    go_ret
    exact newP_mk hl hw (Nat.le_refl _) hN'
  · go_enter Tryd.func14, Tryd.ntmps14
    go_wp2
    go_ret
    exact newP_mk hl hw (by omega) hN

end Go.Proofs.YtofandkijmbplaaDoor
