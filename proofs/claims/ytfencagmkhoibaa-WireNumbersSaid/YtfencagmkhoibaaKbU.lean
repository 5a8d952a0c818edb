/-
  The calls of package wire that append numbers and strings: the argument's bytes and the encoding, in new memory. Conditions: the argument can be read; at most 100,000,000 bytes.
-/
import Derived.Test.YtfencagmkhoibaaKbA
import Derived.Test.YtfencagmkhoibaaKbP
namespace Go.Proofs.Ytfencagmkhoibaa
open Go.RowKit

/-- A row of the call's own that goes on from v. -/
def PutP (base : Nat) (v : Value) (l : List UInt8) (w : World) (e : Ending) (w' : World) : Prop := ∃ v', e = .returned v' ∧ OwnB w' base v' l ∧ Push w v w' v'
theorem putP_mk {base : Nat} {v v' : Value} {l : List UInt8} {w w' : World} (h : OwnB w' base v' l) (k : Push w v w' v') : PutP base v l w (.returned v') w' := ⟨v', rfl, h, k⟩
/-- A row of the call's own. -/
def NewB (l : List UInt8) (w : World) (e : Ending) (w' : World) : Prop := ∃ v, e = .returned v ∧ OwnB w' w.heap.size v l ∧ Below w.heap.size w w'
theorem newB_mk {v : Value} {l : List UInt8} {w w' : World} (h : OwnB w' w.heap.size v l) (k : Below w.heap.size w w') : NewB l w (.returned v) w' := ⟨v, rfl, h, k⟩

set_option maxHeartbeats 800000 in
set_option maxRecDepth 100000 in
theorem putUint_any (base : Nat) (v : Value) (l : List UInt8) (n : Nat) (w : World) (ho : OwnB w base v l) (hb : base ≤ w.heap.size) (hn : n < 18446744073709551616) (hl : l.length ≤ 200000000) :
    Calls Try.prog 28 #[v, .int .u64 (n : Int)] w (PutP base v (l ++ encU n) w) := by
  obtain ⟨i0, hi0, hz0, hz1, hz2⟩ := info_parts infoByte
  go_enter Try.func28, Try.ntmps28
  go_wp2_with fail
  go_loopw [0, 1] (fun b i wr => ∃ (v1 : Value) (l1 : List UInt8) (m : Nat), v1 = b ∧ i = .int .u64 (m : Int) ∧ OwnB wr base v1 l1 ∧ Push w v wr v1 ∧ Hid (l1 ++ encU m = l ++ encU n) ∧ m < 18446744073709551616 ∧ l1.length ≤ 200000010) (fun _ i _ => (intOf i).toNat)
  case atStart => exact ⟨v, l, n, rfl, rfl, ho, Push.refl _ _, rfl, hn, by omega⟩
  case round =>
    obtain ⟨v1, l1, m, rfl, rfl, ho1, hp1, HE, hm, hl1⟩ := hrel
    have hbs := Nat.le_trans hb hp1.1.size
    by_cases hlt : m < 128
    · go_wp2_with (at_builtin; refine wpList_push1 rfl _ _ 23 rfl base i0 Try.underlying23 hi0 hz0 hz1 hz2 v1 l1 wr (UInt8.ofNat m) _ (by rw [toNat_ofNat8 (by omega)]) rfl ho1 rfl (by omega) hbs ?_; intro v2 w2 ho2 hp2)
      go_ret
      rw [← HE.out, encU_lt hlt]
      exact putP_mk ho2 (hp1.trans hp2)
    · go_wp2_with (at_builtin; refine wpList_push1 rfl _ _ 23 rfl base i0 Try.underlying23 hi0 hz0 hz1 hz2 v1 l1 wr (UInt8.ofNat (m % 128 + 128)) _ (by rw [toNat_ofNat8 (by omega)]; exact or128 m) rfl ho1 rfl (by omega) hbs ?_; intro v2 w2 ho2 hp2)
      go_roundw
      case rel => exact ⟨v2, _, m / 128, rfl, by go_num, ho2, hp1.trans hp2, Lib.hid (by rw [List.append_assoc, ← HE.out, encU_ge hlt]; rfl), by omega, by rw [List.length_append]; show _ + 1 ≤ _; have h1 := congrArg List.length HE.out; rw [List.length_append, List.length_append] at h1; have h2 := enc_len10 hn; have h3 := enc_len_pos m; omega⟩
      case measure => simp [intOf]; omega

set_option maxRecDepth 100000 in
set_option maxHeartbeats 800000 in
theorem copied_any (A : Option Addr) (l : List UInt8) (c room : Nat) (w : World) (hl : Bys w w.heap.size A l) (hn : l.length ≤ 100000000) (hr : room ≤ 100000010) (_hc : l.length ≤ c) (_hm : c ≤ maxLen) :
    Calls Try.prog 26 #[.slice A l.length c, .int .i64 (room : Int)] w (NewB l w) := by
  obtain ⟨i0, hi0, hz0, hz1, hz2⟩ := info_parts infoByte
  go_enter Try.func26, Try.ntmps26
  go_wp2_with (first | (at_make; refine wpList_make_own _ rfl _ _ 23 rfl w.heap.size 5 i0 _ 1 Try.underlying23 hi0 hz0 hz1 _ _ _ (l.length + room) rfl rfl (by omega) (by rw [hz2]; omega) (by unfold maxLen; omega) (Nat.le_refl _) ?_; intro w1 ho1 hg1) | (at_builtin; refine wpList_pushL rfl _ _ 23 rfl w.heap.size i0 Try.underlying23 hi0 hz0 hz1 hz2 (.slice (some ⟨w.heap.size, 0, none⟩) 0 (l.length + room)) [] w.heap.size A l c rfl ho1 rfl (hl.below ((Below.refl _ _).grown hg1 (Nat.le_refl _) (fun _ h => by cases h))) (by simp; omega) hg1.size ?_; intro v2 w2 ho2 hp2))
  go_ret
  exact newB_mk (show OwnB w2 w.heap.size v2 l from ho2) (((Below.refl _ _).grown hg1 (Nat.le_refl _) (fun _ h => by cases h)).trans (hp2.below (l := []) ho1 hg1.size))

set_option maxRecDepth 100000 in
set_option maxHeartbeats 800000 in
theorem appendUint_any (A : Option Addr) (l : List UInt8) (c n : Nat) (w : World) (hl : Bys w w.heap.size A l) (hn : l.length ≤ 100000000) (hc : l.length ≤ c) (hm : c ≤ maxLen) (hu : n < 18446744073709551616) :
    Calls Try.prog 16 #[.slice A l.length c, .int .u64 (n : Int)] w (NewB (l ++ encU n) w) := by
  go_enter Try.func16, Try.ntmps16
  go_wp2_with fail
  refine (copied_any A l c 10 w hl hn (by omega) hc hm).mono ?_
  rintro e w1 ⟨v1, rfl, ho1, hb1⟩
  go_wp2_with fail
  refine (putUint_any w.heap.size v1 l n w1 ho1 hb1.size hu (by omega)).mono ?_
  rintro e w2 ⟨v2, rfl, ho2, hp2⟩
  go_wp2_with fail
  go_ret
  exact newB_mk ho2 (hb1.trans (hp2.below ho1 hb1.size))

theorem xor_ones (a : Nat) (ha : a < 18446744073709551616) : a ^^^ 18446744073709551615 = 18446744073709551615 - a := by
  have h := congrArg BitVec.toNat (BitVec.xor_allOnes (x := BitVec.ofNat 64 a))
  rw [BitVec.toNat_xor, BitVec.toNat_not, BitVec.toNat_allOnes, BitVec.toNat_ofNat, Nat.mod_eq_of_lt (by omega)] at h
  exact h
theorem zig_bits (n : Int) (h1 : -9223372036854775808 ≤ n) (h2 : n ≤ 9223372036854775807) : bits .xor .u64 (IntKind.u64.wrap (IntKind.u64.wrap n * 2)) (IntKind.u64.wrap (n / 9223372036854775808)) = (zig n : Int) := by
  rw [IntKind.wrap_u64, IntKind.wrap_u64, IntKind.wrap_u64]
  unfold zig
  by_cases h : 0 ≤ n
  · have e1 : n % 18446744073709551616 * 2 % 18446744073709551616 = (((2 * n).toNat : Nat) : Int) := by omega
    have e2 : n / 9223372036854775808 % 18446744073709551616 = ((0 : Nat) : Int) := by omega
    rw [e1, e2, bits_xor_u64_nat _ _ (by omega) (by omega), if_pos h, Nat.xor_zero]
  · have e1 : n % 18446744073709551616 * 2 % 18446744073709551616 = (((2 * n + 18446744073709551616).toNat : Nat) : Int) := by omega
    have e2 : n / 9223372036854775808 % 18446744073709551616 = ((18446744073709551615 : Nat) : Int) := by omega
    rw [e1, e2, bits_xor_u64_nat _ _ (by omega) (by omega), if_neg h, xor_ones _ (by omega)]
    omega

set_option maxRecDepth 100000 in
set_option maxHeartbeats 800000 in
theorem toUnsigned_any (n : Int) (w : World) (h1 : -9223372036854775808 ≤ n) (h2 : n ≤ 9223372036854775807) :
    Calls Try.prog 30 #[.int .i64 n] w fun e w' => e = .returned (.int .u64 (zig n : Int)) ∧ w = w' := by
  go_enter Try.func30, Try.ntmps30
  go_wp2_with fail
  go_ret
  exact ⟨ret_int (zig_bits n h1 h2), rfl⟩

set_option maxRecDepth 100000 in
set_option maxHeartbeats 800000 in
theorem putInt_any (base : Nat) (v : Value) (l : List UInt8) (n : Int) (w : World) (ho : OwnB w base v l) (hb : base ≤ w.heap.size) (h1 : -9223372036854775808 ≤ n) (h2 : n ≤ 9223372036854775807) (hl : l.length ≤ 200000000) :
    Calls Try.prog 27 #[v, .int .i64 n] w (PutP base v (l ++ encU (zig n)) w) := by
  go_enter Try.func27, Try.ntmps27
  go_wp2_with (go_at_call 30; refine (toUnsigned_any n _ h1 h2).mono ?_; rintro e w1 ⟨rfl, rfl⟩)
  refine (putUint_any base v l (zig n) w ho hb (zig_lt h1 h2) hl).mono ?_
  rintro e w2 ⟨v2, rfl, ho2, hp2⟩
  go_wp2_with fail
  go_ret
  exact putP_mk ho2 hp2

set_option maxRecDepth 100000 in
set_option maxHeartbeats 800000 in
theorem appendInt_any (A : Option Addr) (l : List UInt8) (c : Nat) (n : Int) (w : World) (hl : Bys w w.heap.size A l) (hn : l.length ≤ 100000000) (hc : l.length ≤ c) (hm : c ≤ maxLen) (h1 : -9223372036854775808 ≤ n) (h2 : n ≤ 9223372036854775807) :
    Calls Try.prog 15 #[.slice A l.length c, .int .i64 n] w (NewB (l ++ encU (zig n)) w) := by
  go_enter Try.func15, Try.ntmps15
  go_wp2_with fail
  refine (copied_any A l c 10 w hl hn (by omega) hc hm).mono ?_
  rintro e w1 ⟨v1, rfl, ho1, hb1⟩
  go_wp2_with fail
  refine (putInt_any w.heap.size v1 l n w1 ho1 hb1.size h1 h2 (by omega)).mono ?_
  rintro e w2 ⟨v2, rfl, ho2, hp2⟩
  go_wp2_with fail
  go_ret
  exact newB_mk ho2 (hb1.trans (hp2.below ho1 hb1.size))

set_option maxRecDepth 100000 in
set_option maxHeartbeats 800000 in
theorem putString_any (base : Nat) (v : Value) (l : List UInt8) (s : ByteArray) (w : World) (ho : OwnB w base v l) (hb : base ≤ w.heap.size) (hl : l.length ≤ 100000000) (hs : s.size ≤ 100000000) :
    Calls Try.prog 25 #[v, .string s] w (PutP base v (l ++ encS s.data.toList) w) := by
  obtain ⟨i0, hi0, hz0, hz1, hz2⟩ := info_parts infoByte
  have hs64 : s.size < 18446744073709551616 := by omega
  have HL := Lib.hid (enc_len10 hs64)
  go_enter Try.func25, Try.ntmps25
  go_wp2_with fail
  refine (putUint_any base v l s.size w ho hb hs64 (by omega)).mono ?_
  rintro e w2 ⟨v2, rfl, ho2, hp2⟩
  go_wp2_with (at_builtin; refine wpList_pushS rfl _ _ 23 9 rfl base i0 Try.underlying23 Try.underlying9 hi0 hz0 hz1 hz2 v2 _ s rfl ho2 rfl (by rw [List.length_append]; have := HL.out; omega) (Nat.le_trans hb hp2.1.size) ?_; intro v3 w3 ho3 hp3)
  go_ret
  refine putP_mk (?_ : OwnB _ _ _ _) (hp2.trans hp3)
  unfold encS
  rw [← List.append_assoc]
  exact ho3

set_option maxRecDepth 100000 in
set_option maxHeartbeats 800000 in
theorem appendString_any (A : Option Addr) (l : List UInt8) (c : Nat) (s : ByteArray) (w : World) (hl : Bys w w.heap.size A l) (hn : l.length ≤ 100000000) (hc : l.length ≤ c) (hm : c ≤ maxLen) (hs : s.size ≤ 100000000) :
    Calls Try.prog 14 #[.slice A l.length c, .string s] w (NewB (l ++ encS s.data.toList) w) := by
  go_enter Try.func14, Try.ntmps14
  go_wp2_with fail
  refine (copied_any A l c (10 + s.size) w hl hn (by omega) hc hm).mono ?_
  rintro e w1 ⟨v1, rfl, ho1, hb1⟩
  go_wp2_with fail
  refine (putString_any w.heap.size v1 l s w1 ho1 hb1.size hn hs).mono ?_
  rintro e w2 ⟨v2, rfl, ho2, hp2⟩
  go_wp2_with fail
  go_ret
  exact newB_mk ho2 (hb1.trans (hp2.below ho1 hb1.size))
end Go.Proofs.Ytfencagmkhoibaa
