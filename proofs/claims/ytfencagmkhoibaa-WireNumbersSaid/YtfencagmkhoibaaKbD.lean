/-
  The calls of package wire that read numbers and strings from bytes: what they answer, in every world; they change nothing. Conditions: the argument can be read.
-/
import Derived.Test.YtfencagmkhoibaaKbA
import Derived.Test.YtfencagmkhoibaaKbP
import Derived.Laws.DeepNot64
namespace Go.Proofs.Ytfencagmkhoibaa
open Go.RowKit

/-- What Uint answers. -/
def uintV : Option (Nat × Nat) → Value
  | none => .tuple #[.int .u64 0, .int .i64 0, .int .i64 4]
  | some (n, k) => .tuple #[.int .u64 (n : Int), .int .i64 (k : Int), .int .i64 0]
def UintP (l : List UInt8) (w : World) (e : Ending) (w' : World) : Prop := e = .returned (uintV (decU l)) ∧ w = w'
theorem uintP_none {l : List UInt8} {w : World} (h : decU l = none) : UintP l w (.returned (.tuple #[.int .u64 0, .int .i64 0, .int .i64 4])) w := ⟨by rw [h]; rfl, rfl⟩
theorem uintP_some {l : List UInt8} {w : World} {n k : Nat} (h : decU l = some (n, k)) : UintP l w (.returned (.tuple #[.int .u64 (n : Int), .int .i64 (k : Int), .int .i64 0])) w := ⟨by rw [h]; rfl, rfl⟩

theorem decF_cons (k m x : Nat) (y : UInt8) (r : List UInt8) (h : x = y.toNat) : decF k m (y :: r) = if k = 9 ∧ 1 < x then none else if 128 ≤ x then decF (k + 1) (m + (x - 128) * 128 ^ k) r else if x = 0 ∧ 0 < k then none else some (m + x * 128 ^ k, k + 1) := by subst h; rfl
theorem pow128 (k : Nat) : (2 : Int) ^ (7 * k) = ((128 ^ k : Nat) : Int) := by
  rw [Int.pow_mul, Int.natCast_pow]
  rfl
theorem or_sh {m x k : Nat} (hk : k ≤ 9) (hm : m < 128 ^ k) (hx : x * 128 ^ k < 18446744073709551616) : bits .or .u64 (m : Int) (IntKind.u64.wrap ((x : Int) * 2 ^ (7 * k))) = ((m + x * 128 ^ k : Nat) : Int) := by
  have hp : (128 : Nat) ^ k = 2 ^ (7 * k) := by rw [Nat.pow_mul]
  have hmod : ((x * 128 ^ k : Nat) : Int) % 18446744073709551616 = ((x * 128 ^ k : Nat) : Int) := by omega
  have hle : m < 18446744073709551616 := by
    have : 128 ^ k ≤ 128 ^ 9 := Nat.pow_le_pow_right (by omega) hk
    omega
  rw [pow128, ← Int.natCast_mul, IntKind.wrap_u64, hmod, bits_or_u64_nat _ _ hle hx]
  congr 1
  rw [hp, Nat.or_comm, Nat.mul_comm, ← Nat.two_pow_add_eq_or_of_lt (by rw [← hp]; exact hm), Nat.add_comm]

set_option maxRecDepth 100000 in
set_option maxHeartbeats 1600000 in
theorem uint_any (A : Option Addr) (l : List UInt8) (c : Nat) (B : Nat) (w : World) (hl : Bys w B A l) (_hn : l.length ≤ 1000000000) :
    Calls Try.prog 17 #[.slice A l.length c] w (UintP l w) := by
  go_enter Try.func17, Try.ntmps17
  go_wp2_with fail
  go_loop [5, 10] (fun n i => ∃ k m : Nat, k ≤ l.length ∧ k ≤ 9 ∧ i = .int .i64 (k : Int) ∧ n = .int .u64 (m : Int) ∧ Hid (m < 128 ^ k) ∧ Hid (decF k m (l.drop k) = decU l)) (fun _ i => l.length - (intOf i).toNat)
  case atStart => exact ⟨0, 0, Nat.zero_le _, by omega, rfl, rfl, Lib.hid (by decide), rfl⟩
  case round =>
    obtain ⟨k, m, hk, hk9, rfl, rfl, HM, HD⟩ := hrel
    by_cases hlt : k < l.length
    · obtain ⟨b, o, rfl, _, hcell⟩ := hl.at_ hlt
      have hdr := List.drop_eq_getElem_cons hlt
      have hx := (l[k]).toNat_lt
      generalize l[k] = y at *
      obtain ⟨x, hxy⟩ : ∃ x : Nat, x = y.toNat := ⟨_, rfl⟩
      rw [← hxy] at hcell hx
      have hd := HD.out
      rw [hdr, decF_cons k m x y _ hxy] at hd
      have HE := Lib.hid hd
      clear hd hxy hdr HD
      go_wp2_with fail
      · go_ret3
        have hd := HE.out
        rw [if_pos ⟨by omega, by omega⟩] at hd
        exact uintP_none hd.symm
      · go_ret3
        have hd := HE.out
        rw [if_neg (by omega), if_neg (by omega), if_pos ⟨by omega, by omega⟩] at hd
        exact uintP_none hd.symm
      · go_ret3
        have hd := HE.out
        rw [if_neg (by omega), if_neg (by omega), if_neg (by omega)] at hd
        have hk' : k = 9 := by omega
        subst hk'
        have ho := or_sh (m := m) (x := x) (k := 9) (by omega) HM.out (by omega)
        have e1 : bits .or .u64 (m : Int) ((x : Int) * 9223372036854775808) = ((m + x * 128 ^ 9 : Nat) : Int) := by
          rw [← ho, IntKind.wrap_u64]
          congr 1
          omega
        rw [e1]
        exact uintP_some hd.symm
      · have hd := HE.out
        rw [if_neg (by omega), if_pos (by omega)] at hd
        have hk8 : k ≤ 8 := by omega
        have hp8 : 128 ^ k ≤ 128 ^ 8 := Nat.pow_le_pow_right (by omega) hk8
        have hlt2 : (x - 128) * 128 ^ k < 128 * 128 ^ k := Nat.mul_lt_mul_of_pos_right (by omega) (Nat.pow_pos (by omega))
        have ho := or_sh (m := m) (x := x - 128) (k := k) (by omega) HM.out (by omega)
        have e0 : (((x - 128 : Nat)) : Int) = (x : Int) - 128 := by omega
        rw [e0] at ho
        refine ⟨⟨k + 1, m + (x - 128) * 128 ^ k, by omega, by omega, rfl, by rw [ho], Lib.hid ?_, Lib.hid hd⟩, by simp [intOf]; omega⟩
        have h1 := HM.out
        have h2 : 128 ^ (k + 1) = 128 ^ k * 128 := Nat.pow_succ ..
        have h3 : (x - 128) * 128 ^ k + 128 ^ k ≤ 128 * 128 ^ k := by
          rw [← Nat.succ_mul]
          exact Nat.mul_le_mul_right _ (by omega)
        omega
      · go_ret3
        have hd := HE.out
        rw [if_neg (by omega), if_neg (by omega), if_pos ⟨by omega, by omega⟩] at hd
        exact uintP_none hd.symm
      · go_ret3
        have hd := HE.out
        rw [if_neg (by omega), if_neg (by omega), if_neg (by omega)] at hd
        have hk' : k = 0 := by omega
        have hx0 : x = 0 := by omega
        subst hk' hx0
        have ho := or_sh (m := m) (x := 0) (k := 0) (by omega) HM.out (by omega)
        have e1 : bits .or .u64 (m : Int) 0 = ((m + 0 * 128 ^ 0 : Nat) : Int) := by rw [← ho]; rfl
        rw [e1]
        exact uintP_some hd.symm
      · go_ret3
        have hd := HE.out
        rw [if_neg (by omega), if_neg (by omega), if_neg (by omega)] at hd
        have hk8 : k ≤ 8 := by omega
        have hp8 : 128 ^ k ≤ 128 ^ 8 := Nat.pow_le_pow_right (by omega) hk8
        have hlt2 : x * 128 ^ k < 128 * 128 ^ k := Nat.mul_lt_mul_of_pos_right (by omega) (Nat.pow_pos (by omega))
        have ho := or_sh (m := m) (x := x) (k := k) (by omega) HM.out (by omega)
        rw [ho]
        exact uintP_some hd.symm
    · go_wp2_with fail
      go_ret3
      have hd := HD.out
      rw [List.drop_eq_nil_of_le (by omega)] at hd
      exact uintP_none hd.symm

theorem i64_xor_zero (a : Nat) (ha : a < 9223372036854775808) : bits .xor .i64 (a : Int) 0 = (a : Int) := by
  show IntKind.i64.wrap ((BitVec.ofInt 64 (a : Int) ^^^ BitVec.ofInt 64 0).toNat : Int) = _
  have h0 : BitVec.ofInt 64 0 = 0#64 := by decide
  rw [h0, BitVec.xor_zero, ofInt_u64 a (by omega)]
  simp [IntKind.wrap, IntKind.bits, IntKind.signed]
  omega
theorem zag_bits (n : Nat) (h : n < 18446744073709551616) : bits .xor .i64 ((n : Int) / 2) (wrap64 (-wrap64 (bits .and .u64 (n : Int) 1))) = zag n := by
  have h1 := bits_and_u64_nat n 1 h (by omega)
  rw [Nat.and_one_is_mod] at h1
  have e : bits .and .u64 (n : Int) 1 = ((n % 2 : Nat) : Int) := h1
  rw [e]
  have e2 : (n : Int) / 2 = ((n / 2 : Nat) : Int) := by omega
  rw [e2]
  unfold zag
  rcases Nat.mod_two_eq_zero_or_one n with h2 | h2
  · rw [h2, if_pos rfl, show wrap64 (-wrap64 ((0 : Nat) : Int)) = 0 by (unfold wrap64; omega)]
    exact i64_xor_zero _ (by omega)
  · rw [h2, if_neg (by omega)]
    have h3 : bits .xor .i64 ((n / 2 : Nat) : Int) (-1) = bits .xor .i64 (-1) ((n / 2 : Nat) : Int) := by
      show IntKind.i64.wrap ((BitVec.ofInt 64 ((n / 2 : Nat) : Int) ^^^ BitVec.ofInt 64 (-1)).toNat : Int) = IntKind.i64.wrap ((BitVec.ofInt 64 (-1) ^^^ BitVec.ofInt 64 ((n / 2 : Nat) : Int)).toNat : Int)
      rw [BitVec.xor_comm]
    rw [show wrap64 (-wrap64 ((1 : Nat) : Int)) = -1 by (unfold wrap64; omega), h3, i64_not _ (by omega)]
    omega

set_option maxRecDepth 100000 in
set_option maxHeartbeats 800000 in
theorem toSigned_any (n : Nat) (w : World) (h : n < 18446744073709551616) :
    Calls Try.prog 29 #[.int .u64 (n : Int)] w fun e w' => e = .returned (.int .i64 (zag n)) ∧ w = w' := by
  go_enter Try.func29, Try.ntmps29
  go_wp2_with fail
  go_ret
  exact ⟨ret_int (zag_bits n h), rfl⟩

/-- What Int answers. -/
def intV : Option (Nat × Nat) → Value
  | none => .tuple #[.int .i64 0, .int .i64 0, .int .i64 4]
  | some (n, k) => .tuple #[.int .i64 (zag n), .int .i64 (k : Int), .int .i64 0]
def IntP (l : List UInt8) (w : World) (e : Ending) (w' : World) : Prop := e = .returned (intV (decU l)) ∧ w = w'

set_option maxRecDepth 100000 in
set_option maxHeartbeats 1600000 in
theorem int_any (A : Option Addr) (l : List UInt8) (c : Nat) (B : Nat) (w : World) (hl : Bys w B A l) (hn : l.length ≤ 1000000000) :
    Calls Try.prog 18 #[.slice A l.length c] w (IntP l w) := by
  have hu := Lib.hid (uint_any A l c B w hl hn)
  cases hd : decU l with
  | none =>
    have HD := Lib.hid hd
    clear hd
    go_enter Try.func18, Try.ntmps18
    go_wp2_with fail
    refine (hu.out).mono ?_
    rintro e w' ⟨he, rfl⟩
    rw [HD.out] at he
    obtain rfl : e = .returned (.tuple #[.int .u64 0, .int .i64 0, .int .i64 4]) := he
    go_wp2_with (go_at_call 29; refine (toSigned_any 0 _ (by omega)).mono ?_; rintro e w' ⟨rfl, rfl⟩)
    go_ret3
    exact ⟨by rw [HD.out]; rfl, rfl⟩
  | some p =>
    obtain ⟨n, k⟩ := p
    have HD := Lib.hid hd
    have hs := decU_some hd
    have hn64 := hs.1
    have hle := decU_le hd
    clear hd hs
    go_enter Try.func18, Try.ntmps18
    go_wp2_with fail
    refine (hu.out).mono ?_
    rintro e w' ⟨he, rfl⟩
    rw [HD.out] at he
    obtain rfl : e = .returned (.tuple #[.int .u64 (n : Int), .int .i64 (k : Int), .int .i64 0]) := he
    go_wp2_with (go_at_call 29; refine (toSigned_any n _ hn64).mono ?_; rintro e w' ⟨rfl, rfl⟩)
    go_ret3
    exact ⟨by rw [HD.out]; rfl, rfl⟩

/-- What String answers. -/
def strV : DecS → Value
  | .form => .tuple #[.string ⟨#[]⟩, .int .i64 0, .int .i64 4]
  | .limit => .tuple #[.string ⟨#[]⟩, .int .i64 0, .int .i64 3]
  | .got s k => .tuple #[.string ⟨s.toArray⟩, .int .i64 (k : Int), .int .i64 0]
def StrP (l : List UInt8) (limit : Int) (w : World) (e : Ending) (w' : World) : Prop := e = .returned (strV (decS l limit)) ∧ w = w'

theorem decS_none {l : List UInt8} {limit : Int} (h : decU l = none) : decS l limit = .form := by unfold decS; rw [h]
theorem decS_limit {l : List UInt8} {limit : Int} {n k : Nat} (h : decU l = some (n, k)) (h2 : limit < 0 ∨ limit < (n : Int)) : decS l limit = .limit := by unfold decS; rw [h]; simp only; rw [if_pos h2]
theorem decS_short {l : List UInt8} {limit : Int} {n k : Nat} (h : decU l = some (n, k)) (h2 : ¬ (limit < 0 ∨ limit < (n : Int))) (h3 : l.length - k < n) : decS l limit = .form := by unfold decS; rw [h]; simp only; rw [if_neg h2, if_pos h3]
theorem decS_got {l : List UInt8} {limit : Int} {n k : Nat} (h : decU l = some (n, k)) (h2 : ¬ (limit < 0 ∨ limit < (n : Int))) (h3 : ¬ l.length - k < n) : decS l limit = .got ((l.drop k).take n) (k + n) := by unfold decS; rw [h]; simp only; rw [if_neg h2, if_neg h3]

set_option maxRecDepth 100000 in
set_option maxHeartbeats 1600000 in
theorem string_any (A : Option Addr) (l : List UInt8) (c : Nat) (B : Nat) (w : World) (limit : Int) (hl : Bys w B A l) (hn : l.length ≤ 1000000000) (hc : l.length ≤ c) (hm : c ≤ maxLen) (h1 : -9223372036854775808 ≤ limit) (h2 : limit ≤ 9223372036854775807) :
    Calls Try.prog 19 #[.slice A l.length c, .int .i64 limit] w (StrP l limit w) := by
  have hu := Lib.hid (uint_any A l c B w hl hn)
  unfold maxLen at hm
  cases hd : decU l with
  | none =>
    have HD := Lib.hid hd
    clear hd
    go_enter Try.func19, Try.ntmps19
    go_wp2_with fail
    refine (hu.out).mono ?_
    rintro e w' ⟨he, rfl⟩
    rw [HD.out] at he
    obtain rfl : e = .returned (.tuple #[.int .u64 0, .int .i64 0, .int .i64 4]) := he
    go_wp2_with fail
    go_ret3
    exact ⟨by rw [decS_none HD.out]; rfl, rfl⟩
  | some p =>
    obtain ⟨n, k⟩ := p
    have HD := Lib.hid hd
    have hs := decU_some hd
    have hn64 := hs.1
    have hle := decU_le hd
    clear hs
    have step : ∀ (e : Ending) (w' : World), UintP l w e w' → e = .returned (.tuple #[.int .u64 (n : Int), .int .i64 (k : Int), .int .i64 0]) ∧ w = w' := fun e w' ⟨he, hw⟩ => by rw [HD.out] at he; exact ⟨he, hw⟩
    have hstep := Lib.hid step
    clear step hd
    by_cases hlim : limit < 0 ∨ limit < (n : Int)
    · have HR := Lib.hid (decS_limit HD.out hlim)
      by_cases hneg : limit < 0
      all_goals
        go_enter Try.func19, Try.ntmps19
        go_wp2_with fail
        refine (hu.out).mono ?_
        rintro e w' hp
        obtain ⟨rfl, rfl⟩ := hstep.out _ _ hp
        clear hp
        go_wp2_with fail
        go_ret3
        exact ⟨by rw [HR.out]; rfl, rfl⟩
    · have hl0 : 0 ≤ limit := by omega
      have hl1 : (n : Int) ≤ limit := by omega
      by_cases hsh : l.length - k < n
      · have HR := Lib.hid (decS_short HD.out hlim hsh)
        clear hlim
        rcases Decidable.em (c = k) with rfl | hck
        all_goals
          go_enter Try.func19, Try.ntmps19
          go_wp2_with fail
          refine (hu.out).mono ?_
          rintro e w' hp
          obtain ⟨rfl, rfl⟩ := hstep.out _ _ hp
          clear hp
          go_wp2_with fail
          go_ret3
          exact ⟨by rw [HR.out]; rfl, rfl⟩
      · have HR := Lib.hid (decS_got HD.out hlim hsh)
        clear hlim
        have hcut := hl.cut (k := k) hc
        have hlen : ((l.drop k).take n).length = n := by rw [List.length_take, List.length_drop]; omega
        by_cases hck : c = k
        · subst hck
          have hn0 : n = 0 := by omega
          subst hn0
          have hcv := run_str (P := Try.prog) w B A [] 0 (Bys.nil A) 23 9 Try.underlying23 Try.underlying5 Try.underlying9
          simp only [List.length_nil] at hcv
          have hr0 := HR.out
          rw [List.take_zero, Nat.add_zero] at hr0
          have HR0 := Lib.hid hr0
          clear hcut hlen hr0 HR
          go_enter Try.func19, Try.ntmps19
          go_wp2_with fail
          refine (hu.out).mono ?_
          rintro e w' hp
          obtain ⟨rfl, rfl⟩ := hstep.out _ _ hp
          clear hp
          go_wp2_with fail
          go_ret3
          exact ⟨by rw [HR0.out]; rfl, rfl⟩
        · rw [if_neg hck] at hcut
          have hcv := run_str (P := Try.prog) w B (A.map (·.add k)) ((l.drop k).take n) (c - k) (hcut.take n) 23 9 Try.underlying23 Try.underlying5 Try.underlying9
          rw [hlen] at hcv
          obtain ⟨r, hr⟩ : ∃ r : ByteArray, r = ⟨((l.drop k).take n).toArray⟩ := ⟨_, rfl⟩
          rw [← hr] at hcv
          have HRR := Lib.hid hr
          replace hcv : (convert 23 9 (.slice (Option.map ((fun x => x) ∘ fun x : Addr => x.add k) A) n (c - k))).run Try.prog w = .ok (.string r) w := hcv
          clear hcut hlen hr
          go_enter Try.func19, Try.ntmps19
          go_wp2_with fail
          refine (hu.out).mono ?_
          rintro e w' hp
          obtain ⟨rfl, rfl⟩ := hstep.out _ _ hp
          clear hp
          go_wp2_with fail
          go_ret3
          exact ⟨by rw [HR.out, HRR.out]; rfl, rfl⟩
end Go.Proofs.Ytfencagmkhoibaa
