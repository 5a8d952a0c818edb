/-
  Keys from the tape: strings of at most 65 bytes. Condition: 'letters' holds six strings of one byte, and is not the tape.
-/
import Derived.Test.YtmhimkojegkalaaDoorKwT
namespace Go.Proofs.YtmhimkojegkalaaDoor
open Go.RowKit

/-- 'letters' holds six strings of one byte. -/
def Lets (w : World) : Prop := ∀ i, i < 6 → ∃ s : ByteArray, s.size = 1 ∧ w.cell? ⟨0, i, none⟩ = some (.string s)
theorem Lets.lt {w : World} (h : Lets w) : 0 < w.heap.size := by
  obtain ⟨s, _, hc⟩ := h 0 (by omega)
  exact World.block_lt_of_cell? w _ hc
theorem Lets.keep {w w' : World} (h : Lets w) (k : w'.heap[0]? = w.heap[0]?) : Lets w' := fun i hi => by
  obtain ⟨s, h1, h2⟩ := h i hi
  exact ⟨s, h1, (World.cell?_of_block (w := w) k).trans h2⟩
theorem Lets.below {w w' : World} (h : Lets w) (k : Below w.heap.size w w') : Lets w' := h.keep (k.block _ h.lt)
theorem Lets.step {w w' : World} {g : Nat} (h : Lets w) (hg : 0 ≠ g) (k : TStep w g w') : Lets w' := h.keep (k.2.block _ h.lt (fun e => hg (Option.some.inj e)))

/-- What long gives: a string of n bytes. -/
def LongP (n : Nat) (w : World) (e : Ending) (w' : World) : Prop := ∃ s : ByteArray, s.size = n ∧ e = .returned (.string s) ∧ w = w'
theorem longP_mk {n : Nat} {w : World} {s : ByteArray} (h : s.size = n) : LongP n w (.returned (.string s)) w := ⟨s, h, rfl, rfl⟩

set_option maxHeartbeats 800000 in
theorem long_any (s : ByteArray) (hs : s.size = 1) (n : Nat) (hn : n ≤ 1000) (w : World) :
    Calls Tryd.prog 66 #[.string s, .int .i64 (n : Int)] w (LongP n w) := by
  have hs' : s.size ≤ 1 := by omega
  have HS : Hid (s.size = 1) := hs
  clear hs
  go_enter Tryd.func66, Tryd.ntmps66
  go_wp2
  go_loop [5, 6] (fun out i => ∃ (k : Nat) (x : ByteArray), k ≤ n ∧ x.size = k ∧ i = .int .i64 k ∧ out = .string x) (fun _ i => n - (intOf i).toNat)
  case atStart => exact ⟨0, ByteArray.empty, Nat.zero_le _, rfl, rfl, rfl⟩
  case round =>
    obtain ⟨k, x, hk, hx, rfl, rfl⟩ := hrel
    have hx' : x.size ≤ 1000 := by omega
    have HX : Hid (x.size = k) := hx
    clear hx
    by_cases hlt : k < n
    · go_wp2
      go_round
      case rel => exact ⟨k + 1, x ++ s, by omega, by rw [ByteArray.size_append, HX.out, HS.out], by go_num, rfl⟩
      case measure => simp [intOf]; omega
    · go_wp2
      go_ret
      exact longP_mk (by have := HX.out; omega)

/-- What Key and OddKey give: a string of at most m bytes. -/
def KeyP (m g : Nat) (w : World) (e : Ending) (w' : World) : Prop := ∃ s : ByteArray, s.size ≤ m ∧ e = .returned (.string s) ∧ TStep w g w'
theorem keyP_mk {m g : Nat} {w w' : World} {s : ByteArray} (h : s.size ≤ m) (k : TStep w g w') : KeyP m g w (.returned (.string s)) w' := ⟨s, h, rfl, k⟩

/-- The letter that Next(6) picks. -/
theorem Lets.letter {w1 : World} (h : Lets w1) {r : Int} (r1 : r < 6 ∨ r = 0) : ∃ s : ByteArray, s.size = 1 ∧ w1.cell? ⟨0, r.toNat, none⟩ = some (.string s) := h _ (by omega)
theorem next_lt {r n : Int} (h : r < n ∨ r = 0) (hn : 1 ≤ n) : r < n := by omega

set_option maxHeartbeats 3200000 in
theorem key_any (g : Nat) (w : World) (ht : Tape w g) (hl : Lets w) (hne : 0 ≠ g) :
    Calls Tryd.prog 27 #[.pointer (some ⟨g, 0, none⟩)] w (KeyP 64 g w) := by
  have hst := TStep.refl ht
  clear ht
  go_enter Tryd.func27, Tryd.ntmps27
  go_wp2_with (first | (go_at_call 26; refine (next_any g _ _ hst.1 (by omega)).mono ?_; rintro e w1 ⟨r, r0, r1, rfl, hst1⟩; replace hst := hst.trans hst1; clear hst1; first | (obtain ⟨s, hs, hlc⟩ := (hl.step hne hst).letter r1; have r2 := next_lt r1 (by decide); clear r1; have HS := Lib.hid hs; have hs1 : s.size ≤ 1 := (by omega); clear hs) | (have r2 := next_lt r1 (by decide); clear r1)) | (go_at_call 66; refine (long_any _ HS.out 64 (by omega) _).mono ?_; rintro e w2 ⟨s2, hs2, rfl, rfl⟩))
  · go_ret
    exact keyP_mk (by omega) hst
  · go_ret
    exact keyP_mk (by decide) hst
  · go_loopw [3, 4] (fun out i wr => ∃ (k : Nat) (x : ByteArray), x.size + k ≤ 3 ∧ i = .int .i64 k ∧ out = .string x ∧ TStep w g wr) (fun _ i _ => (intOf i).toNat)
    case atStart => exact ⟨(1 + r).toNat, ByteArray.empty, by (show 0 + (1 + r).toNat ≤ 3; omega), by rw [Int.toNat_of_nonneg (by omega)], rfl, hst⟩
    case round =>
      obtain ⟨k, x, hx, rfl, rfl, hst⟩ := hrel
      by_cases hlt : 0 < k
      · go_wp2_with (first | (go_at_call 26; refine (next_any g _ _ hst.1 (by omega)).mono ?_; rintro e w1 ⟨r, r0, r1, rfl, hst1⟩; replace hst := hst.trans hst1; clear hst1; first | (obtain ⟨s, hs, hlc⟩ := (hl.step hne hst).letter r1; have r2 := next_lt r1 (by decide); clear r1; have HS := Lib.hid hs; have hs1 : s.size ≤ 1 := (by omega); clear hs) | (have r2 := next_lt r1 (by decide); clear r1)) | (go_at_call 66; refine (long_any _ HS.out 64 (by omega) _).mono ?_; rintro e w2 ⟨s2, hs2, rfl, rfl⟩))
        go_roundw
        case rel => exact ⟨k - 1, x ++ s, by rw [ByteArray.size_append]; omega, by congr 1; omega, rfl, hst⟩
        case measure => simp [intOf]; omega
      · go_wp2
        go_ret
        exact keyP_mk (by omega) hst

set_option maxHeartbeats 3200000 in
theorem oddKey_any (g : Nat) (w : World) (ht : Tape w g) (hl : Lets w) (hne : 0 ≠ g) :
    Calls Tryd.prog 34 #[.pointer (some ⟨g, 0, none⟩)] w (KeyP 65 g w) := by
  have hst := TStep.refl ht
  clear ht
  go_enter Tryd.func34, Tryd.ntmps34
  go_wp2_with (first | (go_at_call 26; refine (next_any g _ _ hst.1 (by omega)).mono ?_; rintro e w1 ⟨r, r0, r1, rfl, hst1⟩; replace hst := hst.trans hst1; clear hst1; first | (obtain ⟨s, hs, hlc⟩ := (hl.step hne hst).letter r1; have r2 := next_lt r1 (by decide); clear r1; have HS := Lib.hid hs; have hs1 : s.size ≤ 1 := (by omega); clear hs) | (have r2 := next_lt r1 (by decide); clear r1)) | (go_at_call 10; refine (bool_any g _ _ hst.1 (by omega) (by omega)).mono ?_; rintro e w1 ⟨q, rfl, hst1⟩; replace hst := hst.trans hst1; clear hst1) | (go_at_call 27; refine (key_any g _ hst.1 (hl.step hne hst) hne).mono ?_; rintro e w1 ⟨y, hy, rfl, hst1⟩; replace hst := hst.trans hst1; clear hst1) | (go_at_call 66; refine (long_any _ HS.out 65 (by omega) _).mono ?_; rintro e w2 ⟨s2, hs2, rfl, rfl⟩))
  all_goals
    go_ret
    exact keyP_mk (by omega) hst


end Go.Proofs.YtmhimkojegkalaaDoor
