/-
  The calls of package wire that append numbers and strings: the argument's bytes and the encoding, in new memory. Conditions: the argument can be read; at most 100,000,000 bytes.
  The calls of package wire that read numbers and strings from bytes: what they answer, in every world; they change nothing. Conditions: the argument can be read.
  The calls of the reference of layer 3 on numbers and strings: what they append and what they answer. Conditions: the arguments can be read; at most 100,000,000 bytes.
  The examples of chapter 3, as the statements call them: sane answers true, in every world; it only makes memory. No condition.
-/
import Derived.Test.YtmhimkojegkalaaDoorKbA
import Derived.Test.YtmhimkojegkalaaDoorKbP
import Derived.Laws.DeepNot64
import Derived.Test.YtmhimkojegkalaaDoorKwL
namespace Go.Proofs.YtmhimkojegkalaaDoor
section
open Go.RowKit

/-- A row of the call's own that goes on from v. -/
def PutP (base : Nat) (v : Value) (l : List UInt8) (w : World) (e : Ending) (w' : World) : Prop := ∃ v', e = .returned v' ∧ OwnB w' base v' l ∧ Push w v w' v'
theorem putP_mk {base : Nat} {v v' : Value} {l : List UInt8} {w w' : World} (h : OwnB w' base v' l) (k : Push w v w' v') : PutP base v l w (.returned v') w' := ⟨v', rfl, h, k⟩
/-- A row of the call's own. -/
def NewB (l : List UInt8) (w : World) (e : Ending) (w' : World) : Prop := ∃ v, e = .returned v ∧ OwnB w' w.heap.size v l ∧ Below w.heap.size w w'
theorem newB_mk {v : Value} {l : List UInt8} {w w' : World} (h : OwnB w' w.heap.size v l) (k : Below w.heap.size w w') : NewB l w (.returned v) w' := ⟨v, rfl, h, k⟩

set_option maxHeartbeats 800000 in
set_option maxRecDepth 100000 in
theorem putUint_any (base : Nat) (v : Value) (l : List UInt8) (n : Nat) (w : World) (ho : OwnB w base v l) (hb : base ≤ w.heap.size) (hn : n < 18446744073709551616) (hl : l.length ≤ 200000000) :
    Calls Tryd.prog 73 #[v, .int .u64 (n : Int)] w (PutP base v (l ++ encU n) w) := by
  obtain ⟨i0, hi0, hz0, hz1, hz2⟩ := info_parts infoByte
  go_enter Tryd.func73, Tryd.ntmps73
  go_wp2_with fail
  go_loopw [0, 1] (fun b i wr => ∃ (v1 : Value) (l1 : List UInt8) (m : Nat), v1 = b ∧ i = .int .u64 (m : Int) ∧ OwnB wr base v1 l1 ∧ Push w v wr v1 ∧ Hid (l1 ++ encU m = l ++ encU n) ∧ m < 18446744073709551616 ∧ l1.length ≤ 200000010) (fun _ i _ => (intOf i).toNat)
  case atStart => exact ⟨v, l, n, rfl, rfl, ho, Push.refl _ _, rfl, hn, by omega⟩
  case round =>
    obtain ⟨v1, l1, m, rfl, rfl, ho1, hp1, HE, hm, hl1⟩ := hrel
    have hbs := Nat.le_trans hb hp1.1.size
    by_cases hlt : m < 128
    · go_wp2_with (at_builtin; refine wpList_push1 rfl _ _ 25 rfl base i0 Tryd.underlying25 hi0 hz0 hz1 hz2 v1 l1 wr (UInt8.ofNat m) _ (by rw [toNat_ofNat8 (by omega)]) rfl ho1 rfl (by omega) hbs ?_; intro v2 w2 ho2 hp2)
      go_ret
      rw [← HE.out, encU_lt hlt]
      exact putP_mk ho2 (hp1.trans hp2)
    · go_wp2_with (at_builtin; refine wpList_push1 rfl _ _ 25 rfl base i0 Tryd.underlying25 hi0 hz0 hz1 hz2 v1 l1 wr (UInt8.ofNat (m % 128 + 128)) _ (by rw [toNat_ofNat8 (by omega)]; exact or128 m) rfl ho1 rfl (by omega) hbs ?_; intro v2 w2 ho2 hp2)
      go_roundw
      case rel => exact ⟨v2, _, m / 128, rfl, by go_num, ho2, hp1.trans hp2, Lib.hid (by rw [List.append_assoc, ← HE.out, encU_ge hlt]; rfl), by omega, by rw [List.length_append]; show _ + 1 ≤ _; have h1 := congrArg List.length HE.out; rw [List.length_append, List.length_append] at h1; have h2 := enc_len10 hn; have h3 := enc_len_pos m; omega⟩
      case measure => simp [intOf]; omega

set_option maxRecDepth 100000 in
set_option maxHeartbeats 800000 in
theorem copied_any (A : Option Addr) (l : List UInt8) (c room : Nat) (w : World) (hl : Bys w w.heap.size A l) (hn : l.length ≤ 100000000) (hr : room ≤ 100000010) (_hc : l.length ≤ c) (_hm : c ≤ maxLen) :
    Calls Tryd.prog 82 #[.slice A l.length c, .int .i64 (room : Int)] w (NewB l w) := by
  obtain ⟨i0, hi0, hz0, hz1, hz2⟩ := info_parts infoByte
  go_enter Tryd.func82, Tryd.ntmps82
  go_wp2_with (first | (at_make; refine wpList_make_own _ rfl _ _ 25 rfl w.heap.size 5 i0 _ 1 Tryd.underlying25 hi0 hz0 hz1 _ _ _ (l.length + room) rfl rfl (by omega) (by rw [hz2]; omega) (by unfold maxLen; omega) (Nat.le_refl _) ?_; intro w1 ho1 hg1) | (at_builtin; refine wpList_pushL rfl _ _ 25 rfl w.heap.size i0 Tryd.underlying25 hi0 hz0 hz1 hz2 (.slice (some ⟨w.heap.size, 0, none⟩) 0 (l.length + room)) [] w.heap.size A l c rfl ho1 rfl (hl.below ((Below.refl _ _).grown hg1 (Nat.le_refl _) (fun _ h => by cases h))) (by simp; omega) hg1.size ?_; intro v2 w2 ho2 hp2))
  go_ret
  exact newB_mk (show OwnB w2 w.heap.size v2 l from ho2) (((Below.refl _ _).grown hg1 (Nat.le_refl _) (fun _ h => by cases h)).trans (hp2.below (l := []) ho1 hg1.size))

set_option maxRecDepth 100000 in
set_option maxHeartbeats 800000 in
theorem appendUint_any (A : Option Addr) (l : List UInt8) (c n : Nat) (w : World) (hl : Bys w w.heap.size A l) (hn : l.length ≤ 100000000) (hc : l.length ≤ c) (hm : c ≤ maxLen) (hu : n < 18446744073709551616) :
    Calls Tryd.prog 48 #[.slice A l.length c, .int .u64 (n : Int)] w (NewB (l ++ encU n) w) := by
  go_enter Tryd.func48, Tryd.ntmps48
  go_wp2_with fail
  refine (copied_any A l c 10 w hl hn (by omega) hc hm).mono ?_
  rintro e w1 ⟨v1, rfl, ho1, hb1⟩
  go_wp2_with fail
  refine (putUint_any w.heap.size v1 l n w1 ho1 hb1.size hu (by omega)).mono ?_
  rintro e w2 ⟨v2, rfl, ho2, hp2⟩
  go_wp2_with fail
  go_ret
  exact newB_mk ho2 (hb1.trans (hp2.below ho1 hb1.size))

theorem xor_ones (a : Nat) (ha : a < 18446744073709551616) : a ^^^ 18446744073709551615 = 18446744073709551615 - a := by
  have h := congrArg BitVec.toNat (BitVec.xor_allOnes (x := BitVec.ofNat 64 a))
  rw [BitVec.toNat_xor, BitVec.toNat_not, BitVec.toNat_allOnes, BitVec.toNat_ofNat, Nat.mod_eq_of_lt (by omega)] at h
  exact h
theorem zig_bits (n : Int) (h1 : -9223372036854775808 ≤ n) (h2 : n ≤ 9223372036854775807) : bits .xor .u64 (IntKind.u64.wrap (IntKind.u64.wrap n * 2)) (IntKind.u64.wrap (n / 9223372036854775808)) = (zig n : Int) := by
  rw [IntKind.wrap_u64, IntKind.wrap_u64, IntKind.wrap_u64]
  unfold zig
  by_cases h : 0 ≤ n
  · have e1 : n % 18446744073709551616 * 2 % 18446744073709551616 = (((2 * n).toNat : Nat) : Int) := by omega
    have e2 : n / 9223372036854775808 % 18446744073709551616 = ((0 : Nat) : Int) := by omega
    rw [e1, e2, bits_xor_u64_nat _ _ (by omega) (by omega), if_pos h, Nat.xor_zero]
  · have e1 : n % 18446744073709551616 * 2 % 18446744073709551616 = (((2 * n + 18446744073709551616).toNat : Nat) : Int) := by omega
    have e2 : n / 9223372036854775808 % 18446744073709551616 = ((18446744073709551615 : Nat) : Int) := by omega
    rw [e1, e2, bits_xor_u64_nat _ _ (by omega) (by omega), if_neg h, xor_ones _ (by omega)]
    omega

set_option maxRecDepth 100000 in
set_option maxHeartbeats 800000 in
theorem toUnsigned_any (n : Int) (w : World) (h1 : -9223372036854775808 ≤ n) (h2 : n ≤ 9223372036854775807) :
    Calls Tryd.prog 100 #[.int .i64 n] w fun e w' => e = .returned (.int .u64 (zig n : Int)) ∧ w = w' := by
  go_enter Tryd.func100, Tryd.ntmps100
  go_wp2_with fail
  go_ret
  exact ⟨ret_int (zig_bits n h1 h2), rfl⟩

set_option maxRecDepth 100000 in
set_option maxHeartbeats 800000 in
theorem putInt_any (base : Nat) (v : Value) (l : List UInt8) (n : Int) (w : World) (ho : OwnB w base v l) (hb : base ≤ w.heap.size) (h1 : -9223372036854775808 ≤ n) (h2 : n ≤ 9223372036854775807) (hl : l.length ≤ 200000000) :
    Calls Tryd.prog 75 #[v, .int .i64 n] w (PutP base v (l ++ encU (zig n)) w) := by
  go_enter Tryd.func75, Tryd.ntmps75
  go_wp2_with (go_at_call 100; refine (toUnsigned_any n _ h1 h2).mono ?_; rintro e w1 ⟨rfl, rfl⟩)
  refine (putUint_any base v l (zig n) w ho hb (zig_lt h1 h2) hl).mono ?_
  rintro e w2 ⟨v2, rfl, ho2, hp2⟩
  go_wp2_with fail
  go_ret
  exact putP_mk ho2 hp2

set_option maxRecDepth 100000 in
set_option maxHeartbeats 800000 in
theorem appendInt_any (A : Option Addr) (l : List UInt8) (c : Nat) (n : Int) (w : World) (hl : Bys w w.heap.size A l) (hn : l.length ≤ 100000000) (hc : l.length ≤ c) (hm : c ≤ maxLen) (h1 : -9223372036854775808 ≤ n) (h2 : n ≤ 9223372036854775807) :
    Calls Tryd.prog 49 #[.slice A l.length c, .int .i64 n] w (NewB (l ++ encU (zig n)) w) := by
  go_enter Tryd.func49, Tryd.ntmps49
  go_wp2_with fail
  refine (copied_any A l c 10 w hl hn (by omega) hc hm).mono ?_
  rintro e w1 ⟨v1, rfl, ho1, hb1⟩
  go_wp2_with fail
  refine (putInt_any w.heap.size v1 l n w1 ho1 hb1.size h1 h2 (by omega)).mono ?_
  rintro e w2 ⟨v2, rfl, ho2, hp2⟩
  go_wp2_with fail
  go_ret
  exact newB_mk ho2 (hb1.trans (hp2.below ho1 hb1.size))

set_option maxRecDepth 100000 in
set_option maxHeartbeats 800000 in
theorem putString_any (base : Nat) (v : Value) (l : List UInt8) (s : ByteArray) (w : World) (ho : OwnB w base v l) (hb : base ≤ w.heap.size) (hl : l.length ≤ 100000000) (hs : s.size ≤ 100000000) :
    Calls Tryd.prog 74 #[v, .string s] w (PutP base v (l ++ encS s.data.toList) w) := by
  obtain ⟨i0, hi0, hz0, hz1, hz2⟩ := info_parts infoByte
  have hs64 : s.size < 18446744073709551616 := by omega
  have HL := Lib.hid (enc_len10 hs64)
  go_enter Tryd.func74, Tryd.ntmps74
  go_wp2_with fail
  refine (putUint_any base v l s.size w ho hb hs64 (by omega)).mono ?_
  rintro e w2 ⟨v2, rfl, ho2, hp2⟩
  go_wp2_with (at_builtin; refine wpList_pushS rfl _ _ 25 9 rfl base i0 Tryd.underlying25 Tryd.underlying9 hi0 hz0 hz1 hz2 v2 _ s rfl ho2 rfl (by rw [List.length_append]; have := HL.out; omega) (Nat.le_trans hb hp2.1.size) ?_; intro v3 w3 ho3 hp3)
  go_ret
  refine putP_mk (?_ : OwnB _ _ _ _) (hp2.trans hp3)
  unfold encS
  rw [← List.append_assoc]
  exact ho3

set_option maxRecDepth 100000 in
set_option maxHeartbeats 800000 in
theorem appendString_any (A : Option Addr) (l : List UInt8) (c : Nat) (s : ByteArray) (w : World) (hl : Bys w w.heap.size A l) (hn : l.length ≤ 100000000) (hc : l.length ≤ c) (hm : c ≤ maxLen) (hs : s.size ≤ 100000000) :
    Calls Tryd.prog 50 #[.slice A l.length c, .string s] w (NewB (l ++ encS s.data.toList) w) := by
  go_enter Tryd.func50, Tryd.ntmps50
  go_wp2_with fail
  refine (copied_any A l c (10 + s.size) w hl hn (by omega) hc hm).mono ?_
  rintro e w1 ⟨v1, rfl, ho1, hb1⟩
  go_wp2_with fail
  refine (putString_any w.heap.size v1 l s w1 ho1 hb1.size hn hs).mono ?_
  rintro e w2 ⟨v2, rfl, ho2, hp2⟩
  go_wp2_with fail
  go_ret
  exact newB_mk ho2 (hb1.trans (hp2.below ho1 hb1.size))
end
section
open Go.RowKit

/-- What Uint answers. -/
def uintV : Option (Nat × Nat) → Value
  | none => .tuple #[.int .u64 0, .int .i64 0, .int .i64 4]
  | some (n, k) => .tuple #[.int .u64 (n : Int), .int .i64 (k : Int), .int .i64 0]
def UintP (l : List UInt8) (w : World) (e : Ending) (w' : World) : Prop := e = .returned (uintV (decU l)) ∧ w = w'
theorem uintP_none {l : List UInt8} {w : World} (h : decU l = none) : UintP l w (.returned (.tuple #[.int .u64 0, .int .i64 0, .int .i64 4])) w := ⟨by rw [h]; rfl, rfl⟩
theorem uintP_some {l : List UInt8} {w : World} {n k : Nat} (h : decU l = some (n, k)) : UintP l w (.returned (.tuple #[.int .u64 (n : Int), .int .i64 (k : Int), .int .i64 0])) w := ⟨by rw [h]; rfl, rfl⟩

theorem decF_cons (k m x : Nat) (y : UInt8) (r : List UInt8) (h : x = y.toNat) : decF k m (y :: r) = if k = 9 ∧ 1 < x then none else if 128 ≤ x then decF (k + 1) (m + (x - 128) * 128 ^ k) r else if x = 0 ∧ 0 < k then none else some (m + x * 128 ^ k, k + 1) := by subst h; rfl
theorem pow128 (k : Nat) : (2 : Int) ^ (7 * k) = ((128 ^ k : Nat) : Int) := by
  rw [Int.pow_mul, Int.natCast_pow]
  rfl
theorem or_sh {m x k : Nat} (hk : k ≤ 9) (hm : m < 128 ^ k) (hx : x * 128 ^ k < 18446744073709551616) : bits .or .u64 (m : Int) (IntKind.u64.wrap ((x : Int) * 2 ^ (7 * k))) = ((m + x * 128 ^ k : Nat) : Int) := by
  have hp : (128 : Nat) ^ k = 2 ^ (7 * k) := by rw [Nat.pow_mul]
  have hmod : ((x * 128 ^ k : Nat) : Int) % 18446744073709551616 = ((x * 128 ^ k : Nat) : Int) := by omega
  have hle : m < 18446744073709551616 := by
    have : 128 ^ k ≤ 128 ^ 9 := Nat.pow_le_pow_right (by omega) hk
    omega
  rw [pow128, ← Int.natCast_mul, IntKind.wrap_u64, hmod, bits_or_u64_nat _ _ hle hx]
  congr 1
  rw [hp, Nat.or_comm, Nat.mul_comm, ← Nat.two_pow_add_eq_or_of_lt (by rw [← hp]; exact hm), Nat.add_comm]

set_option maxRecDepth 100000 in
set_option maxHeartbeats 1600000 in
theorem uint_any (A : Option Addr) (l : List UInt8) (c : Nat) (B : Nat) (w : World) (hl : Bys w B A l) (_hn : l.length ≤ 9223372036854775807) :
    Calls Tryd.prog 51 #[.slice A l.length c] w (UintP l w) := by
  go_enter Tryd.func51, Tryd.ntmps51
  go_wp2_with fail
  go_loop [5, 10] (fun n i => ∃ k m : Nat, k ≤ l.length ∧ k ≤ 9 ∧ i = .int .i64 (k : Int) ∧ n = .int .u64 (m : Int) ∧ Hid (m < 128 ^ k) ∧ Hid (decF k m (l.drop k) = decU l)) (fun _ i => l.length - (intOf i).toNat)
  case atStart => exact ⟨0, 0, Nat.zero_le _, by omega, rfl, rfl, Lib.hid (by decide), rfl⟩
  case round =>
    obtain ⟨k, m, hk, hk9, rfl, rfl, HM, HD⟩ := hrel
    by_cases hlt : k < l.length
    · obtain ⟨b, o, rfl, _, hcell⟩ := hl.at_ hlt
      have hdr := List.drop_eq_getElem_cons hlt
      have hx := (l[k]).toNat_lt
      generalize l[k] = y at *
      obtain ⟨x, hxy⟩ : ∃ x : Nat, x = y.toNat := ⟨_, rfl⟩
      rw [← hxy] at hcell hx
      have hd := HD.out
      rw [hdr, decF_cons k m x y _ hxy] at hd
      have HE := Lib.hid hd
      clear hd hxy hdr HD
      go_wp2_with fail
      · go_ret3
        have hd := HE.out
        rw [if_pos ⟨by omega, by omega⟩] at hd
        exact uintP_none hd.symm
      · go_ret3
        have hd := HE.out
        rw [if_neg (by omega), if_neg (by omega), if_pos ⟨by omega, by omega⟩] at hd
        exact uintP_none hd.symm
      · go_ret3
        have hd := HE.out
        rw [if_neg (by omega), if_neg (by omega), if_neg (by omega)] at hd
        have hk' : k = 9 := by omega
        subst hk'
        have ho := or_sh (m := m) (x := x) (k := 9) (by omega) HM.out (by omega)
        have e1 : bits .or .u64 (m : Int) ((x : Int) * 9223372036854775808) = ((m + x * 128 ^ 9 : Nat) : Int) := by
          rw [← ho, IntKind.wrap_u64]
          congr 1
          omega
        rw [e1]
        exact uintP_some hd.symm
      · have hd := HE.out
        rw [if_neg (by omega), if_pos (by omega)] at hd
        have hk8 : k ≤ 8 := by omega
        have hp8 : 128 ^ k ≤ 128 ^ 8 := Nat.pow_le_pow_right (by omega) hk8
        have hlt2 : (x - 128) * 128 ^ k < 128 * 128 ^ k := Nat.mul_lt_mul_of_pos_right (by omega) (Nat.pow_pos (by omega))
        have ho := or_sh (m := m) (x := x - 128) (k := k) (by omega) HM.out (by omega)
        have e0 : (((x - 128 : Nat)) : Int) = (x : Int) - 128 := by omega
        rw [e0] at ho
        refine ⟨⟨k + 1, m + (x - 128) * 128 ^ k, by omega, by omega, rfl, by rw [ho], Lib.hid ?_, Lib.hid hd⟩, by simp [intOf]; omega⟩
        have h1 := HM.out
        have h2 : 128 ^ (k + 1) = 128 ^ k * 128 := Nat.pow_succ ..
        have h3 : (x - 128) * 128 ^ k + 128 ^ k ≤ 128 * 128 ^ k := by
          rw [← Nat.succ_mul]
          exact Nat.mul_le_mul_right _ (by omega)
        omega
      · go_ret3
        have hd := HE.out
        rw [if_neg (by omega), if_neg (by omega), if_pos ⟨by omega, by omega⟩] at hd
        exact uintP_none hd.symm
      · go_ret3
        have hd := HE.out
        rw [if_neg (by omega), if_neg (by omega), if_neg (by omega)] at hd
        have hk' : k = 0 := by omega
        have hx0 : x = 0 := by omega
        subst hk' hx0
        have ho := or_sh (m := m) (x := 0) (k := 0) (by omega) HM.out (by omega)
        have e1 : bits .or .u64 (m : Int) 0 = ((m + 0 * 128 ^ 0 : Nat) : Int) := by rw [← ho]; rfl
        rw [e1]
        exact uintP_some hd.symm
      · go_ret3
        have hd := HE.out
        rw [if_neg (by omega), if_neg (by omega), if_neg (by omega)] at hd
        have hk8 : k ≤ 8 := by omega
        have hp8 : 128 ^ k ≤ 128 ^ 8 := Nat.pow_le_pow_right (by omega) hk8
        have hlt2 : x * 128 ^ k < 128 * 128 ^ k := Nat.mul_lt_mul_of_pos_right (by omega) (Nat.pow_pos (by omega))
        have ho := or_sh (m := m) (x := x) (k := k) (by omega) HM.out (by omega)
        rw [ho]
        exact uintP_some hd.symm
    · go_wp2_with fail
      go_ret3
      have hd := HD.out
      rw [List.drop_eq_nil_of_le (by omega)] at hd
      exact uintP_none hd.symm

theorem i64_xor_zero (a : Nat) (ha : a < 9223372036854775808) : bits .xor .i64 (a : Int) 0 = (a : Int) := by
  show IntKind.i64.wrap ((BitVec.ofInt 64 (a : Int) ^^^ BitVec.ofInt 64 0).toNat : Int) = _
  have h0 : BitVec.ofInt 64 0 = 0#64 := by decide
  rw [h0, BitVec.xor_zero, ofInt_u64 a (by omega)]
  simp [IntKind.wrap, IntKind.bits, IntKind.signed]
  omega
theorem zag_bits (n : Nat) (h : n < 18446744073709551616) : bits .xor .i64 ((n : Int) / 2) (wrap64 (-wrap64 (bits .and .u64 (n : Int) 1))) = zag n := by
  have h1 := bits_and_u64_nat n 1 h (by omega)
  rw [Nat.and_one_is_mod] at h1
  have e : bits .and .u64 (n : Int) 1 = ((n % 2 : Nat) : Int) := h1
  rw [e]
  have e2 : (n : Int) / 2 = ((n / 2 : Nat) : Int) := by omega
  rw [e2]
  unfold zag
  rcases Nat.mod_two_eq_zero_or_one n with h2 | h2
  · rw [h2, if_pos rfl, show wrap64 (-wrap64 ((0 : Nat) : Int)) = 0 by (unfold wrap64; omega)]
    exact i64_xor_zero _ (by omega)
  · rw [h2, if_neg (by omega)]
    have h3 : bits .xor .i64 ((n / 2 : Nat) : Int) (-1) = bits .xor .i64 (-1) ((n / 2 : Nat) : Int) := by
      show IntKind.i64.wrap ((BitVec.ofInt 64 ((n / 2 : Nat) : Int) ^^^ BitVec.ofInt 64 (-1)).toNat : Int) = IntKind.i64.wrap ((BitVec.ofInt 64 (-1) ^^^ BitVec.ofInt 64 ((n / 2 : Nat) : Int)).toNat : Int)
      rw [BitVec.xor_comm]
    rw [show wrap64 (-wrap64 ((1 : Nat) : Int)) = -1 by (unfold wrap64; omega), h3, i64_not _ (by omega)]
    omega

set_option maxRecDepth 100000 in
set_option maxHeartbeats 800000 in
theorem toSigned_any (n : Nat) (w : World) (h : n < 18446744073709551616) :
    Calls Tryd.prog 118 #[.int .u64 (n : Int)] w fun e w' => e = .returned (.int .i64 (zag n)) ∧ w = w' := by
  go_enter Tryd.func118, Tryd.ntmps118
  go_wp2_with fail
  go_ret
  exact ⟨ret_int (zag_bits n h), rfl⟩

/-- What Int answers. -/
def intV : Option (Nat × Nat) → Value
  | none => .tuple #[.int .i64 0, .int .i64 0, .int .i64 4]
  | some (n, k) => .tuple #[.int .i64 (zag n), .int .i64 (k : Int), .int .i64 0]
def IntP (l : List UInt8) (w : World) (e : Ending) (w' : World) : Prop := e = .returned (intV (decU l)) ∧ w = w'

set_option maxRecDepth 100000 in
set_option maxHeartbeats 1600000 in
theorem int_any (A : Option Addr) (l : List UInt8) (c : Nat) (B : Nat) (w : World) (hl : Bys w B A l) (hn : l.length ≤ 9223372036854775807) :
    Calls Tryd.prog 104 #[.slice A l.length c] w (IntP l w) := by
  have hu := Lib.hid (uint_any A l c B w hl hn)
  cases hd : decU l with
  | none =>
    have HD := Lib.hid hd
    clear hd
    go_enter Tryd.func104, Tryd.ntmps104
    go_wp2_with fail
    refine (hu.out).mono ?_
    rintro e w' ⟨he, rfl⟩
    rw [HD.out] at he
    obtain rfl : e = .returned (.tuple #[.int .u64 0, .int .i64 0, .int .i64 4]) := he
    go_wp2_with (go_at_call 118; refine (toSigned_any 0 _ (by omega)).mono ?_; rintro e w' ⟨rfl, rfl⟩)
    go_ret3
    exact ⟨by rw [HD.out]; rfl, rfl⟩
  | some p =>
    obtain ⟨n, k⟩ := p
    have HD := Lib.hid hd
    have hs := decU_some hd
    have hn64 := hs.1
    have hle := decU_le hd
    clear hd hs
    go_enter Tryd.func104, Tryd.ntmps104
    go_wp2_with fail
    refine (hu.out).mono ?_
    rintro e w' ⟨he, rfl⟩
    rw [HD.out] at he
    obtain rfl : e = .returned (.tuple #[.int .u64 (n : Int), .int .i64 (k : Int), .int .i64 0]) := he
    go_wp2_with (go_at_call 118; refine (toSigned_any n _ hn64).mono ?_; rintro e w' ⟨rfl, rfl⟩)
    go_ret3
    exact ⟨by rw [HD.out]; rfl, rfl⟩

/-- What String answers. -/
def strV : DecS → Value
  | .form => .tuple #[.string ⟨#[]⟩, .int .i64 0, .int .i64 4]
  | .limit => .tuple #[.string ⟨#[]⟩, .int .i64 0, .int .i64 3]
  | .got s k => .tuple #[.string ⟨s.toArray⟩, .int .i64 (k : Int), .int .i64 0]
def StrP (l : List UInt8) (limit : Int) (w : World) (e : Ending) (w' : World) : Prop := e = .returned (strV (decS l limit)) ∧ w = w'

theorem decS_none {l : List UInt8} {limit : Int} (h : decU l = none) : decS l limit = .form := by unfold decS; rw [h]
theorem decS_limit {l : List UInt8} {limit : Int} {n k : Nat} (h : decU l = some (n, k)) (h2 : limit < 0 ∨ limit < (n : Int)) : decS l limit = .limit := by unfold decS; rw [h]; simp only; rw [if_pos h2]
theorem decS_short {l : List UInt8} {limit : Int} {n k : Nat} (h : decU l = some (n, k)) (h2 : ¬ (limit < 0 ∨ limit < (n : Int))) (h3 : l.length - k < n) : decS l limit = .form := by unfold decS; rw [h]; simp only; rw [if_neg h2, if_pos h3]
theorem decS_got {l : List UInt8} {limit : Int} {n k : Nat} (h : decU l = some (n, k)) (h2 : ¬ (limit < 0 ∨ limit < (n : Int))) (h3 : ¬ l.length - k < n) : decS l limit = .got ((l.drop k).take n) (k + n) := by unfold decS; rw [h]; simp only; rw [if_neg h2, if_neg h3]

set_option maxRecDepth 100000 in
set_option maxHeartbeats 1600000 in
theorem string_any (A : Option Addr) (l : List UInt8) (c : Nat) (B : Nat) (w : World) (limit : Int) (hl : Bys w B A l) (hn : l.length ≤ 9223372036854775807) (hc : l.length ≤ c) (hm : c ≤ maxLen) (h1 : -9223372036854775808 ≤ limit) (h2 : limit ≤ 9223372036854775807) :
    Calls Tryd.prog 52 #[.slice A l.length c, .int .i64 limit] w (StrP l limit w) := by
  have hu := Lib.hid (uint_any A l c B w hl hn)
  unfold maxLen at hm
  cases hd : decU l with
  | none =>
    have HD := Lib.hid hd
    clear hd
    go_enter Tryd.func52, Tryd.ntmps52
    go_wp2_with fail
    refine (hu.out).mono ?_
    rintro e w' ⟨he, rfl⟩
    rw [HD.out] at he
    obtain rfl : e = .returned (.tuple #[.int .u64 0, .int .i64 0, .int .i64 4]) := he
    go_wp2_with fail
    go_ret3
    exact ⟨by rw [decS_none HD.out]; rfl, rfl⟩
  | some p =>
    obtain ⟨n, k⟩ := p
    have HD := Lib.hid hd
    have hs := decU_some hd
    have hn64 := hs.1
    have hle := decU_le hd
    clear hs
    have step : ∀ (e : Ending) (w' : World), UintP l w e w' → e = .returned (.tuple #[.int .u64 (n : Int), .int .i64 (k : Int), .int .i64 0]) ∧ w = w' := fun e w' ⟨he, hw⟩ => by rw [HD.out] at he; exact ⟨he, hw⟩
    have hstep := Lib.hid step
    clear step hd
    by_cases hlim : limit < 0 ∨ limit < (n : Int)
    · have HR := Lib.hid (decS_limit HD.out hlim)
      by_cases hneg : limit < 0
      all_goals
        go_enter Tryd.func52, Tryd.ntmps52
        go_wp2_with fail
        refine (hu.out).mono ?_
        rintro e w' hp
        obtain ⟨rfl, rfl⟩ := hstep.out _ _ hp
        clear hp
        go_wp2_with fail
        go_ret3
        exact ⟨by rw [HR.out]; rfl, rfl⟩
    · have hl0 : 0 ≤ limit := by omega
      have hl1 : (n : Int) ≤ limit := by omega
      by_cases hsh : l.length - k < n
      · have HR := Lib.hid (decS_short HD.out hlim hsh)
        clear hlim
        rcases Decidable.em (c = k) with rfl | hck
        all_goals
          go_enter Tryd.func52, Tryd.ntmps52
          go_wp2_with fail
          refine (hu.out).mono ?_
          rintro e w' hp
          obtain ⟨rfl, rfl⟩ := hstep.out _ _ hp
          clear hp
          go_wp2_with fail
          go_ret3
          exact ⟨by rw [HR.out]; rfl, rfl⟩
      · have HR := Lib.hid (decS_got HD.out hlim hsh)
        clear hlim
        have hcut := hl.cut (k := k) hc
        have hlen : ((l.drop k).take n).length = n := by rw [List.length_take, List.length_drop]; omega
        by_cases hck : c = k
        · subst hck
          have hn0 : n = 0 := by omega
          subst hn0
          have hcv := run_str (P := Tryd.prog) w B A [] 0 (Bys.nil A) 25 9 Tryd.underlying25 Tryd.underlying5 Tryd.underlying9
          simp only [List.length_nil] at hcv
          have hr0 := HR.out
          rw [List.take_zero, Nat.add_zero] at hr0
          have HR0 := Lib.hid hr0
          clear hcut hlen hr0 HR
          go_enter Tryd.func52, Tryd.ntmps52
          go_wp2_with fail
          refine (hu.out).mono ?_
          rintro e w' hp
          obtain ⟨rfl, rfl⟩ := hstep.out _ _ hp
          clear hp
          go_wp2_with fail
          go_ret3
          exact ⟨by rw [HR0.out]; rfl, rfl⟩
        · rw [if_neg hck] at hcut
          have hcv := run_str (P := Tryd.prog) w B (A.map (·.add k)) ((l.drop k).take n) (c - k) (hcut.take n) 25 9 Tryd.underlying25 Tryd.underlying5 Tryd.underlying9
          rw [hlen] at hcv
          obtain ⟨r, hr⟩ : ∃ r : ByteArray, r = ⟨((l.drop k).take n).toArray⟩ := ⟨_, rfl⟩
          rw [← hr] at hcv
          have HRR := Lib.hid hr
          replace hcv : (convert 25 9 (.slice (Option.map ((fun x => x) ∘ fun x : Addr => x.add k) A) n (c - k))).run Tryd.prog w = .ok (.string r) w := hcv
          clear hcut hlen hr
          go_enter Tryd.func52, Tryd.ntmps52
          go_wp2_with fail
          refine (hu.out).mono ?_
          rintro e w' hp
          obtain ⟨rfl, rfl⟩ := hstep.out _ _ hp
          clear hp
          go_wp2_with fail
          go_ret3
          exact ⟨by rw [HR.out, HRR.out]; rfl, rfl⟩
end
section
open Go.RowKit

set_option maxRecDepth 100000 in
set_option maxHeartbeats 800000 in
theorem appendUint_ref (A : Option Addr) (l : List UInt8) (c n : Nat) (w : World) (hl0 : Bys w w.heap.size A l) (hl : l.length ≤ 100000000) (hn : n < 18446744073709551616) :
    Calls Tryd.prog 39 #[.slice A l.length c, .int .u64 (n : Int)] w (NewB (l ++ encU n) w) := by
  obtain ⟨i0, hi0, hz0, hz1, hz2⟩ := info_parts infoByte
  go_enter Tryd.func39, Tryd.ntmps39
  go_wp2_with (at_builtin; refine wpList_pushL rfl _ _ 25 rfl w.heap.size i0 Tryd.underlying25 hi0 hz0 hz1 hz2 (.slice none 0 0) [] w.heap.size A l c rfl (OwnB.nil w _) rfl hl0 (by simp; omega) (Nat.le_refl _) ?_; intro v w2 ho hp)
  replace ho : OwnB w2 w.heap.size v l := ho
  have hb := hp.below (OwnB.nil w w.heap.size) (Nat.le_refl _)
  clear hp
  go_loopw [5, 1] (fun b i wr => ∃ (v1 : Value) (l1 : List UInt8) (m : Nat), v1 = b ∧ i = .int .u64 (m : Int) ∧ OwnB wr w.heap.size v1 l1 ∧ Below w.heap.size w wr ∧ Hid (l1 ++ encU m = l ++ encU n) ∧ m < 18446744073709551616 ∧ l1.length ≤ 200000010) (fun _ i _ => (intOf i).toNat)
  case atStart => exact ⟨v, l, n, rfl, rfl, ho, hb, rfl, hn, by omega⟩
  case round =>
    obtain ⟨v1, l1, m, rfl, rfl, ho1, hb1, HE, hm, hl1⟩ := hrel
    have hbs := hb1.size
    by_cases hlt : m < 128
    · go_wp2_with (at_builtin; refine wpList_push1 rfl _ _ 25 rfl w.heap.size i0 Tryd.underlying25 hi0 hz0 hz1 hz2 v1 l1 wr (UInt8.ofNat m) _ (by rw [toNat_ofNat8 (by omega)]) rfl ho1 rfl (by omega) hbs ?_; intro v2 w2 ho2 hp2)
      go_ret
      rw [← HE.out, encU_lt hlt]
      exact newB_mk ho2 (hb1.trans (hp2.below ho1 hbs))
    · have hr0 : (0 : Int) ≤ (m : Int) % 128 := by omega
      have hr1 : (m : Int) % 128 < 128 := by omega
      go_wp2_with (at_builtin; refine wpList_push1 rfl _ _ 25 rfl w.heap.size i0 Tryd.underlying25 hi0 hz0 hz1 hz2 v1 l1 wr (UInt8.ofNat (m % 128 + 128)) _ (by rw [toNat_ofNat8 (by omega)]; omega) rfl ho1 rfl (by omega) hbs ?_; intro v2 w2 ho2 hp2)
      go_roundw
      case rel => exact ⟨v2, _, m / 128, rfl, by go_num, ho2, hb1.trans (hp2.below ho1 hbs), Lib.hid (by rw [List.append_assoc, ← HE.out, encU_ge hlt]; rfl), by omega, by rw [List.length_append]; show _ + 1 ≤ _; have h1 := congrArg List.length HE.out; rw [List.length_append, List.length_append] at h1; have h2 := enc_len10 hn; have h3 := enc_len_pos m; omega⟩
      case measure => simp [intOf]; omega

set_option maxRecDepth 100000 in
set_option maxHeartbeats 800000 in
theorem appendInt_ref (A : Option Addr) (l : List UInt8) (c : Nat) (n : Int) (w : World) (hl0 : Bys w w.heap.size A l) (hl : l.length ≤ 100000000) (h1 : -9223372036854775808 ≤ n) (h2 : n ≤ 9223372036854775807) :
    Calls Tryd.prog 41 #[.slice A l.length c, .int .i64 n] w (NewB (l ++ encU (zig n)) w) := by
  have HZ := Lib.hid (zig_lt h1 h2)
  by_cases hn : n < 0
  · have hz : zig n = (-n - 1).toNat * 2 + 1 := by unfold zig; rw [if_neg (by omega)]; omega
    obtain ⟨z, hz2⟩ : ∃ z : Nat, z = zig n := ⟨_, rfl⟩
    rw [← hz2] at HZ ⊢
    rw [← hz2] at hz
    have hu := Lib.hid (appendUint_ref A l c z w hl0 hl HZ.out)
    have hzi : (z : Int) = (-n - 1) * 2 + 1 := by omega
    have HZI := Lib.hid hzi
    clear hz hz2 hzi
    go_enter Tryd.func41, Tryd.ntmps41
    go_wp2_with fail
    rw [show -(n + 1) * 2 + 1 = (z : Int) by have := HZI.out; omega]
    refine (hu.out).mono ?_
    rintro e w1 ⟨v, rfl, ho, hb⟩
    go_wp2_with fail
    go_ret
    exact newB_mk ho hb
  · have hz : zig n = n.toNat * 2 := by unfold zig; rw [if_pos (by omega)]; omega
    obtain ⟨z, hz2⟩ : ∃ z : Nat, z = zig n := ⟨_, rfl⟩
    rw [← hz2] at HZ ⊢
    rw [← hz2] at hz
    have hu := Lib.hid (appendUint_ref A l c z w hl0 hl HZ.out)
    have hzi : (z : Int) = n * 2 := by omega
    have HZI := Lib.hid hzi
    clear hz hz2 hzi
    go_enter Tryd.func41, Tryd.ntmps41
    go_wp2_with fail
    rw [show n * 2 = (z : Int) by have := HZI.out; omega]
    refine (hu.out).mono ?_
    rintro e w1 ⟨v, rfl, ho, hb⟩
    go_wp2_with fail
    go_ret
    exact newB_mk ho hb

set_option maxRecDepth 100000 in
set_option maxHeartbeats 800000 in
theorem appendString_ref (A : Option Addr) (l : List UInt8) (c : Nat) (s : ByteArray) (w : World) (hl0 : Bys w w.heap.size A l) (hl : l.length ≤ 100000000) (hs : s.size ≤ 100000000) :
    Calls Tryd.prog 40 #[.slice A l.length c, .string s] w (NewB (l ++ encS s.data.toList) w) := by
  obtain ⟨i0, hi0, hz0, hz1, hz2⟩ := info_parts infoByte
  have hs64 : s.size < 18446744073709551616 := by omega
  have HL := Lib.hid (enc_len10 hs64)
  go_enter Tryd.func40, Tryd.ntmps40
  go_wp2_with fail
  refine (appendUint_ref A l c s.size w hl0 hl hs64).mono ?_
  rintro e w2 ⟨v2, rfl, ho2, hb2⟩
  go_wp2_with (at_builtin; refine wpList_pushS rfl _ _ 25 9 rfl w.heap.size i0 Tryd.underlying25 Tryd.underlying9 hi0 hz0 hz1 hz2 v2 _ s rfl ho2 rfl (by rw [List.length_append]; have := HL.out; omega) hb2.size ?_; intro v3 w3 ho3 hp3)
  go_ret
  refine newB_mk (?_ : OwnB _ _ _ _) (hb2.trans (hp3.below ho2 hb2.size))
  unfold encS
  rw [← List.append_assoc]
  exact ho3

set_option maxRecDepth 100000 in
set_option maxHeartbeats 1600000 in
theorem uint_ref (A : Option Addr) (l : List UInt8) (c : Nat) (B : Nat) (w : World) (hl : Bys w B A l) (hn : l.length ≤ 9223372036854775807) :
    Calls Tryd.prog 101 #[.slice A l.length c] w (UintP l w) := by
  go_enter Tryd.func101, Tryd.ntmps101
  go_wp2_with fail
  go_loop [5, 6] (fun n i => ∃ k m : Nat, k ≤ l.length ∧ k ≤ 10 ∧ i = .int .i64 (k : Int) ∧ n = .int .u64 (m : Int) ∧ Hid (k ≤ 9 → m < 128 ^ k ∧ decF k m (l.drop k) = decU l) ∧ Hid (k = 10 → decU l = none)) (fun _ i => l.length - (intOf i).toNat)
  case atStart => exact ⟨0, 0, Nat.zero_le _, by omega, rfl, rfl, Lib.hid (fun _ => ⟨by decide, rfl⟩), Lib.hid (fun h => by omega)⟩
  case round =>
    obtain ⟨k, m, hk, hk10, rfl, rfl, HD, HT⟩ := hrel
    by_cases hlt : k < l.length
    · by_cases hk9 : k ≤ 9
      · obtain ⟨b, o, rfl, _, hcell⟩ := hl.at_ hlt
        have hdr := List.drop_eq_getElem_cons hlt
        have hx := (l[k]).toNat_lt
        generalize l[k] = y at *
        obtain ⟨x, hxy⟩ : ∃ x : Nat, x = y.toNat := ⟨_, rfl⟩
        rw [← hxy] at hcell hx
        obtain ⟨hm, hd⟩ := HD.out hk9
        rw [hdr, decF_cons k m x y _ hxy] at hd
        have HE := Lib.hid hd
        have HM := Lib.hid hm
        clear hd hxy hdr HD HT hm
        have r0 : (0 : Int) ≤ (x : Int) % 128 := by omega
        have r1 : (x : Int) % 128 < 128 := by omega
        rcases Nat.lt_or_ge k 9 with h9 | h9
        · have hk8 : k ≤ 8 := by omega
          have HP := Lib.hid (Nat.pow_le_pow_right (n := 128) (by omega) hk8)
          have HQ := Lib.hid (Nat.mul_lt_mul_of_pos_right (show x % 128 < 128 by omega) (Nat.pow_pos (n := k) (show 0 < 128 by omega)))
          have e0 : ((x % 128 : Nat) : Int) = (x : Int) % 128 := by omega
          have ho := or_sh (m := m) (x := x % 128) (k := k) (by omega) HM.out (by have := HP.out; have := HQ.out; omega)
          rw [e0] at ho
          have HO := Lib.hid ho
          clear ho e0
          go_wp2_with fail
          · go_ret3
            have hd := HE.out
            rw [if_neg (by omega), if_neg (by omega), if_pos ⟨by omega, by omega⟩] at hd
            exact uintP_none hd.symm
          · go_ret3
            have hd := HE.out
            rw [if_neg (by omega), if_neg (by omega), if_neg (by omega)] at hd
            have hk' : k = 0 := by omega
            have hx0 : x = 0 := by omega
            subst hk' hx0
            have e1 : bits .or .u64 (m : Int) (IntKind.u64.wrap 0) = ((m + 0 * 128 ^ 0 : Nat) : Int) := HO.out
            rw [e1]
            exact uintP_some hd.symm
          · go_ret3
            have hd := HE.out
            rw [if_neg (by omega), if_neg (by omega), if_neg (by omega)] at hd
            rw [HO.out, Nat.mod_eq_of_lt (by omega)]
            exact uintP_some hd.symm
          · have hd := HE.out
            rw [if_neg (by omega), if_pos (by omega)] at hd
            refine ⟨⟨k + 1, m + (x - 128) * 128 ^ k, by omega, by omega, rfl, by rw [HO.out, show x % 128 = x - 128 by omega], Lib.hid (fun _ => ⟨?_, hd⟩), Lib.hid (fun h => by omega)⟩, by simp [intOf]; omega⟩
            have h1 := HM.out
            have h2 : 128 ^ (k + 1) = 128 ^ k * 128 := Nat.pow_succ ..
            have h3 : (x - 128) * 128 ^ k + 128 ^ k ≤ 128 * 128 ^ k := by
              rw [← Nat.succ_mul]
              exact Nat.mul_le_mul_right _ (by omega)
            omega
        · obtain rfl : k = 9 := by omega
          have e0 : ((x % 128 : Nat) : Int) = (x : Int) % 128 := by omega
          by_cases hx1 : 1 < x % 128
          · have hx2 : ¬ (x : Int) % 128 ≤ 1 := by omega
            clear e0
            go_wp2_with fail
            go_ret3
            have hd := HE.out
            rw [if_pos ⟨by omega, by omega⟩] at hd
            exact uintP_none hd.symm
          · have ho := or_sh (m := m) (x := x % 128) (k := 9) (by omega) HM.out (by omega)
            rw [e0] at ho
            have HO := Lib.hid ho
            have hx2 : (x : Int) % 128 ≤ 1 := by omega
            clear ho e0
            go_wp2_with fail
            · go_ret3
              have hd := HE.out
              rw [if_neg (by omega), if_neg (by omega), if_pos ⟨by omega, by omega⟩] at hd
              exact uintP_none hd.symm
            · go_ret3
              have hd := HE.out
              rw [if_neg (by omega), if_neg (by omega), if_neg (by omega)] at hd
              have e1 : bits .or .u64 (m : Int) ((x : Int) % 128 * 9223372036854775808) = ((m + x * 128 ^ 9 : Nat) : Int) := by
                have ho := HO.out
                rw [Nat.mod_eq_of_lt (by omega : x < 128)] at ho
                rw [← ho, IntKind.wrap_u64]
                congr 1
                omega
              rw [e1]
              exact uintP_some hd.symm
            · have hd := HE.out
              rw [if_pos ⟨rfl, by omega⟩] at hd
              have e1 : bits .or .u64 (m : Int) ((x : Int) % 128 * 9223372036854775808) = ((m + x % 128 * 128 ^ 9 : Nat) : Int) := by
                have ho := HO.out
                rw [← ho, IntKind.wrap_u64]
                congr 1
                omega
              exact ⟨⟨10, m + x % 128 * 128 ^ 9, by omega, by omega, rfl, by rw [e1], Lib.hid (fun h => by omega), Lib.hid (fun _ => hd.symm)⟩, by simp [intOf]; omega⟩
      · go_wp2_with fail
        go_ret3
        exact uintP_none (HT.out (by omega))
    · go_wp2_with fail
      go_ret3
      rcases Nat.lt_or_ge k 10 with h | h
      · have hd := (HD.out (by omega)).2
        rw [List.drop_eq_nil_of_le (by omega)] at hd
        exact uintP_none hd.symm
      · exact uintP_none (HT.out (by omega))

set_option maxRecDepth 100000 in
set_option maxHeartbeats 1600000 in
theorem int_ref (A : Option Addr) (l : List UInt8) (c : Nat) (B : Nat) (w : World) (hl : Bys w B A l) (hn : l.length ≤ 9223372036854775807) :
    Calls Tryd.prog 102 #[.slice A l.length c] w (IntP l w) := by
  have hu := Lib.hid (uint_ref A l c B w hl hn)
  cases hd : decU l with
  | none =>
    have HD := Lib.hid hd
    clear hd
    go_enter Tryd.func102, Tryd.ntmps102
    go_wp2_with fail
    refine (hu.out).mono ?_
    rintro e w' ⟨he, rfl⟩
    rw [HD.out] at he
    obtain rfl : e = .returned (.tuple #[.int .u64 0, .int .i64 0, .int .i64 4]) := he
    go_wp2_with fail
    go_ret3
    exact ⟨by rw [HD.out]; rfl, rfl⟩
  | some p =>
    obtain ⟨n, k⟩ := p
    have HD := Lib.hid hd
    have hs := decU_some hd
    have hn64 := hs.1
    have hle := decU_le hd
    have step : ∀ (e : Ending) (w' : World), UintP l w e w' → e = .returned (.tuple #[.int .u64 (n : Int), .int .i64 (k : Int), .int .i64 0]) ∧ w = w' := fun e w' ⟨he, hw⟩ => by rw [HD.out] at he; exact ⟨he, hw⟩
    have hstep := Lib.hid step
    clear hd hs step
    by_cases hodd : n % 2 = 1
    · have hz : zag n = -((n / 2 : Nat) : Int) - 1 := by unfold zag; rw [if_neg (by omega)]
      have HZ := Lib.hid hz
      have ht : ((n : Int) % 2 == 1) = true := by simp; omega
      clear hz
      go_enter Tryd.func102, Tryd.ntmps102
      go_wp2_with fail
      refine (hu.out).mono ?_
      rintro e w' hp
      obtain ⟨rfl, rfl⟩ := hstep.out _ _ hp
      clear hp
      go_wp2_with fail
      go_ret3
      exact ⟨by rw [HD.out]; show _ = Ending.returned (.tuple #[.int .i64 (zag n), .int .i64 (k : Int), .int .i64 0]); rw [HZ.out]; rfl, rfl⟩
    · have hz : zag n = ((n / 2 : Nat) : Int) := by unfold zag; rw [if_pos (by omega)]
      have HZ := Lib.hid hz
      have ht : ((n : Int) % 2 == 1) = false := by simp; omega
      clear hz
      go_enter Tryd.func102, Tryd.ntmps102
      go_wp2_with fail
      refine (hu.out).mono ?_
      rintro e w' hp
      obtain ⟨rfl, rfl⟩ := hstep.out _ _ hp
      clear hp
      go_wp2_with fail
      go_ret3
      exact ⟨by rw [HD.out]; show _ = Ending.returned (.tuple #[.int .i64 (zag n), .int .i64 (k : Int), .int .i64 0]); rw [HZ.out]; rfl, rfl⟩

set_option maxRecDepth 100000 in
set_option maxHeartbeats 1600000 in
theorem string_ref (A : Option Addr) (l : List UInt8) (c : Nat) (B : Nat) (w : World) (limit : Int) (hl : Bys w B A l) (hn : l.length ≤ 9223372036854775807) (hc : l.length ≤ c) (hm : c ≤ maxLen) (h1 : -9223372036854775808 ≤ limit) (h2 : limit ≤ 9223372036854775807) :
    Calls Tryd.prog 103 #[.slice A l.length c, .int .i64 limit] w (StrP l limit w) := by
  have hu := Lib.hid (uint_ref A l c B w hl hn)
  unfold maxLen at hm
  cases hd : decU l with
  | none =>
    have HD := Lib.hid hd
    clear hd
    go_enter Tryd.func103, Tryd.ntmps103
    go_wp2_with fail
    refine (hu.out).mono ?_
    rintro e w' ⟨he, rfl⟩
    rw [HD.out] at he
    obtain rfl : e = .returned (.tuple #[.int .u64 0, .int .i64 0, .int .i64 4]) := he
    go_wp2_with fail
    go_ret3
    exact ⟨by rw [decS_none HD.out]; rfl, rfl⟩
  | some p =>
    obtain ⟨n, k⟩ := p
    have HD := Lib.hid hd
    have hs := decU_some hd
    have hn64 := hs.1
    have hle := decU_le hd
    clear hs
    have step : ∀ (e : Ending) (w' : World), UintP l w e w' → e = .returned (.tuple #[.int .u64 (n : Int), .int .i64 (k : Int), .int .i64 0]) ∧ w = w' := fun e w' ⟨he, hw⟩ => by rw [HD.out] at he; exact ⟨he, hw⟩
    have hstep := Lib.hid step
    clear step hd
    by_cases hlim : limit < 0 ∨ limit < (n : Int)
    · have HR := Lib.hid (decS_limit HD.out hlim)
      by_cases hneg : limit < 0
      all_goals
        go_enter Tryd.func103, Tryd.ntmps103
        go_wp2_with fail
        refine (hu.out).mono ?_
        rintro e w' hp
        obtain ⟨rfl, rfl⟩ := hstep.out _ _ hp
        clear hp
        go_wp2_with fail
        go_ret3
        exact ⟨by rw [HR.out]; rfl, rfl⟩
    · have hl0 : 0 ≤ limit := by omega
      have hl1 : (n : Int) ≤ limit := by omega
      have hks : ((l.length : Int) - (k : Int)) = ((l.length - k : Nat) : Int) := by omega
      by_cases hsh : l.length - k < n
      · have HR := Lib.hid (decS_short HD.out hlim hsh)
        have hb1 : (l.length : Int) - (k : Int) < (n : Int) := by omega
        have hb0 : 0 ≤ (l.length : Int) - (k : Int) := by omega
        clear hlim hks
        go_enter Tryd.func103, Tryd.ntmps103
        go_wp2_with fail
        refine (hu.out).mono ?_
        rintro e w' hp
        obtain ⟨rfl, rfl⟩ := hstep.out _ _ hp
        clear hp
        go_wp2_with fail
        go_ret3
        exact ⟨by rw [HR.out]; rfl, rfl⟩
      · have HR := Lib.hid (decS_got HD.out hlim hsh)
        have hb1 : (n : Int) ≤ (l.length : Int) - (k : Int) := by omega
        have hkn : (k : Int) + (n : Int) ≤ (c : Int) := by omega
        have hcut := hl.cut (k := k) hc
        have hlen : ((l.drop k).take n).length = n := by rw [List.length_take, List.length_drop]; omega
        clear hlim hks
        rcases Decidable.em (c = k) with rfl | hck
        · have hn0 : n = 0 := by omega
          subst hn0
          have hcv := run_str (P := Tryd.prog) w B A [] 0 (Bys.nil A) 25 9 Tryd.underlying25 Tryd.underlying5 Tryd.underlying9
          simp only [List.length_nil] at hcv
          have hr0 := HR.out
          rw [List.take_zero, Nat.add_zero] at hr0
          have HR0 := Lib.hid hr0
          clear hcut hlen hr0 HR
          go_enter Tryd.func103, Tryd.ntmps103
          go_wp2_with fail
          refine (hu.out).mono ?_
          rintro e w' hp
          obtain ⟨rfl, rfl⟩ := hstep.out _ _ hp
          clear hp
          go_wp2_with fail
          go_ret3
          exact ⟨by rw [HR0.out]; rfl, rfl⟩
        · rw [if_neg hck] at hcut
          have hcv := run_str (P := Tryd.prog) w B (A.map (·.add k)) ((l.drop k).take n) (c - k) (hcut.take n) 25 9 Tryd.underlying25 Tryd.underlying5 Tryd.underlying9
          rw [hlen] at hcv
          obtain ⟨r, hr⟩ : ∃ r : ByteArray, r = ⟨((l.drop k).take n).toArray⟩ := ⟨_, rfl⟩
          rw [← hr] at hcv
          have HRR := Lib.hid hr
          clear hcut hlen hr
          go_enter Tryd.func103, Tryd.ntmps103
          go_wp2_with fail
          refine (hu.out).mono ?_
          rintro e w' hp
          obtain ⟨rfl, rfl⟩ := hstep.out _ _ hp
          clear hp
          go_wp2_with fail
          go_ret3
          exact ⟨by rw [HR.out, HRR.out]; rfl, rfl⟩
theorem wrap_i (n : Int) : IntKind.i64.wrap n = wrap64 n := by rw [IntKind.wrap_i64]; unfold wrap64; omega
theorem wrap64_in (n : Int) : -9223372036854775808 ≤ wrap64 n ∧ wrap64 n ≤ 9223372036854775807 := by unfold wrap64; omega
/-- A row of the call's own, and its string. -/
def NewM (l : List UInt8) (R : ByteArray) (w : World) (e : Ending) (w' : World) : Prop := ∃ (A : Option Addr) (N c : Nat), e = .returned (.slice A N c) ∧ (∀ W, Below w'.heap.size w' W → (convert 25 9 (.slice A N c)).run Tryd.prog W = .ok (.string R) W) ∧ Hid (l.length = N) ∧ Below w.heap.size w w'
theorem newM_of {l : List UInt8} {R : ByteArray} {w : World} {e : Ending} {w' : World} (hR : R = ⟨l.toArray⟩) (h : NewB l w e w') : NewM l R w e w' := by
  obtain ⟨v, rfl, ho, hb⟩ := h
  obtain ⟨A, c, rfl, h1, _, h3⟩ := ho.read
  subst hR
  exact ⟨A, _, c, rfl, fun W hW => run_str (P := Tryd.prog) W _ A l c (h3.below hW) 25 9 Tryd.underlying25 Tryd.underlying5 Tryd.underlying9, rfl, hb⟩
end
section
open Go.RowKit

theorem encU_300 : encU 300 = [172, 2] := by rw [encU_ge (by decide), encU_lt (by decide)]; rfl
theorem encU_1 : encU (zig (-1)) = [1] := by rw [show zig (-1) = 1 from rfl, encU_lt (by decide)]; rfl
theorem encS_ab : encS [97, 98] = [2, 97, 98] := by unfold encS; rw [show ([97, 98] : List UInt8).length = 2 from rfl, encU_lt (by decide)]; rfl
theorem decU_128 : decU [128, 0] = none := by decide
theorem decS_2 : decS [2, 97, 98, 99] 5 = .got [97, 98] 3 := by
  unfold decS
  rw [show decU [2, 97, 98, 99] = some (2, 1) by decide]
  rfl
/-- What was appended, as it is read later. -/
theorem OwnB.later {w w' : World} {base : Nat} {v : Value} {l : List UInt8} (h : OwnB w base v l) (k : Below w.heap.size w w') : ∃ A c, v = .slice A l.length c ∧ l.length ≤ c ∧ c ≤ maxLen ∧ Bys w' w.heap.size A l := by
  obtain ⟨A, c, e, h1, h2, h3⟩ := h.read
  exact ⟨A, c, e, h1, h2, h3.below k⟩

theorem bys_new (w : World) (l : List UInt8) : Bys (w.alloc (.cells (bv l).toArray 5)) (w.heap.size + 1) (some ⟨w.heap.size, 0, none⟩) l := fun _ => by
  refine ⟨_, 0, rfl, Nat.lt_succ_self _, fun i hi => ?_⟩
  rw [Nat.zero_add, (Has.new w 5 (bv l).toArray).cell]
  simpa using bv_get hi

set_option maxRecDepth 100000 in
set_option maxHeartbeats 3200000 in
theorem sane_any (w : World) : Calls Tryd.prog 18 #[] w (LawP w) := by
  go_enter Tryd.func18, Tryd.ntmps18
  go_wp2_with fail
  refine (appendUint_any none [] 0 300 w (Bys.nil _) (by simp) (Nat.le_refl _) (by unfold maxLen; omega) (by omega)).mono ?_
  rintro e w1 ⟨v1, rfl, ho1, hb1⟩
  go_wp2_with fail
  refine (appendInt_any none [] 0 (-1) w1 (Bys.nil _) (by simp) (Nat.le_refl _) (by unfold maxLen; omega) (by omega) (by omega)).mono ?_
  rintro e w2 ⟨v2, rfl, ho2, hb2⟩
  go_wp2_with fail
  refine (appendString_any none [] 0 ⟨#[97, 98]⟩ w2 (Bys.nil _) (by simp) (Nat.le_refl _) (by unfold maxLen; omega) (by decide)).mono ?_
  rintro e w3 ⟨v3, rfl, ho3, hb3⟩
  rw [List.nil_append, encU_300] at ho1
  rw [List.nil_append, encU_1] at ho2
  rw [List.nil_append, show (ByteArray.mk #[97, 98]).data.toList = [97, 98] from rfl, encS_ab] at ho3
  have hb4 := (Below.refl w3.heap.size w3).alloc (Nat.le_refl _) (.cells #[.int .u8 128, .int .u8 0] 5)
  have hu := Lib.hid (uint_any (some ⟨w3.heap.size, 0, none⟩) [128, 0] 2 (w3.heap.size + 1) (w3.alloc (.cells #[.int .u8 128, .int .u8 0] 5)) (bys_new w3 [128, 0]) (by simp))
  go_wp2_with fail
  refine hu.out.mono ?_
  rintro e w4 ⟨he, rfl⟩
  rw [decU_128] at he
  obtain rfl : e = .returned (.tuple #[.int .u64 0, .int .i64 0, .int .i64 4]) := he
  have hs := Lib.hid (string_any (some ⟨w3.heap.size + 1, 0, none⟩) [2, 97, 98, 99] 4 (w3.heap.size + 1 + 1) ((w3.alloc (.cells #[.int .u8 128, .int .u8 0] 5)).alloc (.cells #[.int .u8 2, .int .u8 97, .int .u8 98, .int .u8 99] 5)) 5
    (by have h := bys_new (w3.alloc (.cells #[.int .u8 128, .int .u8 0] 5)) [2, 97, 98, 99]; rw [World.size_alloc] at h; exact h) (by simp) (by simp) (by unfold maxLen; omega) (by omega) (by omega))
  have hb5 := hb4.alloc (by simp) (.cells #[.int .u8 2, .int .u8 97, .int .u8 98, .int .u8 99] 5)
  go_wp2_with fail
  refine hs.out.mono ?_
  rintro e w4 ⟨he, rfl⟩
  rw [decS_2] at he
  obtain rfl : e = .returned (.tuple #[.string ⟨#[97, 98]⟩, .int .i64 3, .int .i64 0]) := he
  obtain ⟨A3, c3, rfl, _, _, r3⟩ := ho3.later hb5
  obtain ⟨A2, c2, rfl, _, _, r2⟩ := ho2.later (hb3.trans (hb5.mono hb3.size))
  obtain ⟨A1, c1, rfl, _, _, r1⟩ := ho1.later (hb2.trans ((hb3.trans (hb5.mono hb3.size)).mono hb2.size))
  have k1 := run_str (P := Tryd.prog) _ _ A1 _ c1 r1 25 9 Tryd.underlying25 Tryd.underlying5 Tryd.underlying9
  have k2 := run_str (P := Tryd.prog) _ _ A2 _ c2 r2 25 9 Tryd.underlying25 Tryd.underlying5 Tryd.underlying9
  have k3 := run_str (P := Tryd.prog) _ _ A3 _ c3 r3 25 9 Tryd.underlying25 Tryd.underlying5 Tryd.underlying9
  simp only [List.length_cons, List.length_nil] at k1 k2 k3
  have HB := Lib.hid (hb1.trans ((hb2.trans ((hb3.trans (hb5.mono hb3.size)).mono hb2.size)).mono hb1.size))
  clear r1 r2 r3 hb1 hb2 hb3 hb4 hb5 ho1 ho2 ho3
  go_wp2_with fail
  go_ret
  exact ⟨rfl, HB.out⟩
end
end Go.Proofs.YtmhimkojegkalaaDoor
