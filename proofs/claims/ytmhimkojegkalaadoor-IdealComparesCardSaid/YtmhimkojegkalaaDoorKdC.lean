/-
  The calls of package word on single words, and those of its reference: what they answer, in every world; the world stays as it was. Condition: the library's table of trailing zeros is as its initialiser lays it.
-/
import Derived.Test.YtmhimkojegkalaaDoorKdW
import Derived.Test.YtmhimkojegkalaaDoorLsP
import Derived.Test.YtmhimkojegkalaaDoorRows
import Derived.Outline
import Derived.Lib.Hide
import Derived.Deep.QuietTactic
import Derived.BigQuiet
import Derived.IntWalk
import Derived.Shelf.Lay
import Derived.Shelf.Spec.TrailingZeros
namespace Go.Proofs.YtmhimkojegkalaaDoor
open Go.RowKit Go.Shelf

theorem xor32 (a b : Nat) (ha : a < 4294967296) (hb : b < 4294967296) : bits .xor .u32 (a : Int) (b : Int) = ((a ^^^ b : Nat) : Int) := by
  have hx : a ^^^ b < 2 ^ 32 := Nat.xor_lt_two_pow (by omega) (by omega)
  have h1 : (BitVec.ofInt 32 (a : Int)).toNat = a := by
    rw [BitVec.ofInt_natCast, BitVec.toNat_ofNat]; exact Nat.mod_eq_of_lt (by omega)
  have h2 : (BitVec.ofInt 32 (b : Int)).toNat = b := by
    rw [BitVec.ofInt_natCast, BitVec.toNat_ofNat]; exact Nat.mod_eq_of_lt (by omega)
  show IntKind.u32.wrap ((BitVec.ofInt 32 (a : Int) ^^^ BitVec.ofInt 32 (b : Int)).toNat : Int) = _
  rw [BitVec.toNat_xor, h1, h2, wrap_u32']
  omega

theorem bit_val (x : Nat) (i : Int) (hx : x < 4294967296) (h1 : 0 ≤ i) (h2 : i < 16) : wrap64 (bits BinOp.and IntKind.u32 ((x : Int) / 2 ^ i.toNat) 1) = wbit x i := by
  obtain ⟨k, rfl⟩ := Int.eq_ofNat_of_zero_le h1
  have hk : k < 16 := by omega
  rw [wbit_in hk]
  have e1 : ((x : Int) / 2 ^ (Int.toNat (k : Int))) = ((x / 2 ^ k : Nat) : Int) := by simp
  have hlt : x / 2 ^ k < 4294967296 := Nat.lt_of_le_of_lt (Nat.div_le_self _ _) hx
  have e2 := bits_and_u32_nat (x / 2 ^ k) 1 hlt (by decide)
  rw [e1, show (1 : Int) = ((1 : Nat) : Int) from rfl, e2, and_one, shr_bit]
  cases x.testBit k <;> simp [wrap64]
set_option maxHeartbeats 400000 in
theorem valid_any4 (x : Nat) (w : World) (hx : x < 4294967296) :
    Calls Tryd.prog 120 #[.int .u32 (x : Int)] w fun e w' => e = .returned (.bool (decide (x < 65536))) ∧ w = w' := by
  go_enter Tryd.func120, Tryd.ntmps120
  go_wp2_with fail
  go_ret
  exact ⟨ret_bool (by simp; omega), rfl⟩
set_option maxHeartbeats 400000 in
theorem rbit_in (x : Nat) (i : Int) (w : World) (hx : x < 4294967296) (h1 : 0 ≤ i) (h2 : i < 16) :
    Calls Tryd.prog 139 #[.int .u32 (x : Int), .int .i64 i] w fun e w' => e = .returned (.int .i64 (wbit x i)) ∧ w = w' := by
  have HV := Lib.hid (bit_val x i hx h1 h2)
  go_enter Tryd.func139, Tryd.ntmps139
  go_wp2_with fail
  go_ret
  exact ⟨ret_int HV.out, rfl⟩
set_option maxHeartbeats 400000 in
theorem rbit_out (x : Nat) (i : Int) (w : World) (h : i < 0 ∨ 16 ≤ i) :
    Calls Tryd.prog 139 #[.int .u32 (x : Int), .int .i64 i] w fun e w' => e = .returned (.int .i64 (wbit x i)) ∧ w = w' := by
  have HV := Lib.hid (wbit_out (x := x) h)
  rcases Int.lt_or_le i 0 with h0 | h0
  · clear h
    go_enter Tryd.func139, Tryd.ntmps139
    go_wp2_with fail
    go_ret
    exact ⟨ret_int HV.out.symm, rfl⟩
  · have h16 : 16 ≤ i := by omega
    clear h
    go_enter Tryd.func139, Tryd.ntmps139
    go_wp2_with fail
    go_ret
    exact ⟨ret_int HV.out.symm, rfl⟩
theorem rbit_any (x : Nat) (i : Int) (w : World) (hx : x < 4294967296) :
    Calls Tryd.prog 139 #[.int .u32 (x : Int), .int .i64 i] w fun e w' => e = .returned (.int .i64 (wbit x i)) ∧ w = w' := by
  by_cases h : i < 0 ∨ 16 ≤ i
  · exact rbit_out x i w h
  · exact rbit_in x i w hx (by omega) (by omega)
set_option maxHeartbeats 400000 in
theorem rvalid_any4 (x : Nat) (w : World) (hx : x < 4294967296) :
    Calls Tryd.prog 97 #[.int .u32 (x : Int)] w fun e w' => e = .returned (.bool (decide (x < 65536))) ∧ w = w' := by
  go_enter Tryd.func97, Tryd.ntmps97
  go_wp2_with fail
  go_ret
  exact ⟨ret_bool (by simp; omega), rfl⟩
set_option maxHeartbeats 400000 in
theorem lowest_16 (x : Int) (w : World) :
    Calls Tryd.prog 114 #[.int .u32 x, .int .i64 16] w fun e w' => e = .returned (.int .u32 (bits .and .u32 x 65535)) ∧ w = w' := by
  go_enter Tryd.func114, Tryd.ntmps114
  go_wp2_with fail
  go_ret
  exact ⟨rfl, rfl⟩
/-- The numbers of splitmix64, as both programs take them. -/
def dr1 (s n : Int) : Int := IntKind.u64.wrap (s + IntKind.u64.wrap (IntKind.u64.wrap (IntKind.u64.wrap n + 1) * 11400714819323198485))
def dr2 (x : Int) : Int := IntKind.u64.wrap (bits .xor .u64 x (x / 1073741824) * 13787848793156543929)
def dr3 (x : Int) : Int := IntKind.u64.wrap (bits .xor .u64 x (x / 134217728) * 10723151780598845931)
def dr4 (y : Int) : Int := bits .xor .u64 y (y / 2147483648)
def drW (s n : Int) : Int := dr4 (dr3 (dr2 (dr1 s n))) % 65536
theorem dr4_nn (y : Int) : 0 ≤ dr4 y := by
  show 0 ≤ IntKind.u64.wrap _
  rw [IntKind.wrap_u64]
  omega
theorem drw_k (y : Int) : bits .and .u32 (dr4 y % 4294967296) 65535 = dr4 y % 65536 := by
  have h := dr4_nn y
  generalize dr4 y = z at *
  obtain ⟨k, rfl⟩ := Int.eq_ofNat_of_zero_le h
  have e2 := bits_and_u32_nat (k % 4294967296) 65535 (by omega) (by decide)
  have e3 : ((k : Int) % 4294967296) = ((k % 4294967296 : Nat) : Int) := by omega
  rw [e3, show (65535 : Int) = ((65535 : Nat) : Int) from rfl, e2, show 65535 = 2 ^ 16 - 1 from rfl, and_low]
  omega
theorem drw_r (y : Int) : (dr4 y).tmod 65536 % 4294967296 = dr4 y % 65536 := by
  have h := dr4_nn y
  generalize dr4 y = z at *
  rw [Int.tmod_eq_emod_of_nonneg h]
  omega
theorem drW_bd (s n : Int) : 0 ≤ drW s n ∧ drW s n < 65536 := by unfold drW; omega
theorem agr_step {a b k : Nat} (h : Agr a b k) (e : a.testBit k = b.testBit k) : Agr a b (k + 1) := fun i hi => by
  rcases Nat.lt_or_ge i k with h1 | h1
  · exact h i h1
  · obtain rfl : i = k := by omega
    exact e
set_option maxHeartbeats 800000 in
theorem rcommon_any (a b : Nat) (w : World) (ha : a < 4294967296) (hb : b < 4294967296) :
    Calls Tryd.prog 127 #[.int .u32 (a : Int), .int .u32 (b : Int)] w fun e w' => e = .returned (.int .i64 (cm a b : Int)) ∧ w = w' := by
  go_enter Tryd.func127, Tryd.ntmps127
  go_wp2_with fail
  go_loop [5] (fun n => ∃ k : Nat, n = .int .i64 (k : Int) ∧ k ≤ 16 ∧ Hid (Agr a b k)) (fun n => 16 - (intOf n).toNat)
  case atStart => exact ⟨0, rfl, by omega, Lib.hid (fun i hi => absurd hi (by omega))⟩
  case round =>
    obtain ⟨k, rfl, hk, HA⟩ := hrel
    by_cases hlt : k < 16
    · have e1 := Lib.hid (wbit_in (x := a) hlt)
      have e2 := Lib.hid (wbit_in (x := b) hlt)
      have hk0 : (0 : Int) ≤ (k : Int) := by omega
      have hk1 : (k : Int) < 16 := by omega
      by_cases hbit : a.testBit k = b.testBit k
      · have HS := Lib.hid (agr_step HA.out hbit)
        have hd : ((((b.testBit k).toNat : Nat) : Int) == (((b.testBit k).toNat : Nat) : Int)) = true := by simp
        rw [hbit] at e1
        clear hbit
        generalize (b.testBit k).toNat = z at *
        go_wp2_with fail
        refine (rbit_any a k w ha).mono ?_
        rintro e w' ⟨he, rfl⟩
        rw [e1.out] at he
        subst he
        go_wp2_with fail
        refine (rbit_any b k w hb).mono ?_
        rintro e w' ⟨he, rfl⟩
        rw [e2.out] at he
        subst he
        go_wp2_with fail
        go_round
        case rel => exact ⟨k + 1, by go_num, hlt, HS⟩
        case measure => simp [intOf]; omega
      · have HC := Lib.hid (cm_uniq ha hb hk HA.out (fun _ => hbit))
        have hd : ((((a.testBit k).toNat : Nat) : Int) == (((b.testBit k).toNat : Nat) : Int)) = false := by
          cases h1 : a.testBit k <;> cases h2 : b.testBit k <;> simp [h1, h2] at hbit ⊢
        clear hbit
        generalize (b.testBit k).toNat = z at *
        generalize (a.testBit k).toNat = y at *
        go_wp2_with fail
        refine (rbit_any a k w ha).mono ?_
        rintro e w' ⟨he, rfl⟩
        rw [e1.out] at he
        subst he
        go_wp2_with fail
        refine (rbit_any b k w hb).mono ?_
        rintro e w' ⟨he, rfl⟩
        rw [e2.out] at he
        subst he
        go_wp2_with fail
        go_ret
        exact ⟨ret_int (by rw [HC.out]), rfl⟩
    · have HC := Lib.hid (cm_uniq ha hb hk HA.out (fun h => absurd h hlt))
      go_wp2_with fail
      go_ret
      exact ⟨ret_int (by rw [HC.out]), rfl⟩
set_option maxHeartbeats 400000 in
theorem rsame_any (a b : Nat) (h : Int) (w : World) (ha : a < 4294967296) (hb : b < 4294967296) :
    Calls Tryd.prog 117 #[.int .u32 (a : Int), .int .u32 (b : Int), .int .i64 h] w fun e w' => e = .returned (.bool (decide (h ≤ (cm a b : Int)))) ∧ w = w' := by
  go_enter Tryd.func117, Tryd.ntmps117
  go_wp2_with fail
  refine (rcommon_any a b w ha hb).mono ?_
  rintro e w' ⟨rfl, rfl⟩
  go_wp2_with fail
  go_ret
  exact ⟨rfl, rfl⟩
end Go.Proofs.YtmhimkojegkalaaDoor
