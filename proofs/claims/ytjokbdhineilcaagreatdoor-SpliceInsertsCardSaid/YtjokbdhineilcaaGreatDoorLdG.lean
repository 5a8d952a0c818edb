/-
  Plain facts on membership words: in how many bits, from the lowest one on, two words agree. No condition.
  The calls of package word on single words, and those of its reference: what they answer, in every world; the world stays as it was. Condition: the library's table of trailing zeros is as its initialiser lays it.
  Group of package word: the nodes whose words agree with a word up to a level. Condition: the nodes can be read; the library's table of trailing zeros is as its initialiser lays it.
  SameNodes and Group of the references, as package word's statements use them. Conditions: the lists can be read.
  Group of the reference of chapter 4: the nodes whose words agree with a word up to a level. Condition: the nodes can be read.
-/
import Derived.Test.YtjokbdhineilcaaGreatDoorLsP
import Derived.Lib.TrailingZeros
import Derived.Test.YtjokbdhineilcaaGreatDoorRows
import Derived.Outline
import Derived.Lib.Hide
import Derived.Deep.QuietTactic
import Derived.BigQuiet
import Derived.IntWalk
import Derived.Shelf.Lay
import Derived.Shelf.Spec.TrailingZeros
import Derived.Test.YtjokbdhineilcaaGreatDoorKdN
import Derived.StillTailTactics
namespace Go.Proofs.YtjokbdhineilcaaGreatDoor
section
open Go.RowKit

/-- In how many bits, up to 16, two words agree. -/
def cm (a b : Nat) : Nat := min (Lib.ctz 32 (a ^^^ b)) 16
/-- They agree in the first n bits. -/
def Agr (a b n : Nat) : Prop := ∀ i, i < n → a.testBit i = b.testBit i

theorem ctz_bits {x : Nat} (h0 : x ≠ 0) (h : x < 4294967296) : (∀ i, i < Lib.ctz 32 x → x.testBit i = false) ∧ x.testBit (Lib.ctz 32 x) = true ∧ Lib.ctz 32 x < 32 := by
  obtain ⟨m, hm, hk⟩ := Lib.ctzFrom_spec 32 x (by omega) (by omega)
  have e : Lib.ctz 32 x = Lib.ctzFrom 32 x := by unfold Lib.ctz; rw [if_neg h0]
  rw [e]
  generalize Lib.ctzFrom 32 x = k at *
  subst hm
  refine ⟨fun i hi => ?_, ?_, hk⟩
  · rw [Nat.mul_comm, Nat.testBit_mul_two_pow]
    simp [show ¬ k ≤ i by omega]
  · rw [Nat.mul_comm, Nat.testBit_mul_two_pow]
    simp
theorem cm_spec {a b : Nat} (ha : a < 4294967296) (hb : b < 4294967296) : cm a b ≤ 16 ∧ Agr a b (cm a b) ∧ (cm a b < 16 → a.testBit (cm a b) ≠ b.testBit (cm a b)) := by
  unfold cm
  by_cases h0 : a ^^^ b = 0
  · have e : a = b := by
      apply Nat.eq_of_testBit_eq
      intro i
      have := congrArg (·.testBit i) h0
      simp at this
      exact this
    subst e
    have h2 : Lib.ctz 32 (a ^^^ a) = 32 := by rw [h0]; rfl
    rw [h2]
    exact ⟨by decide, fun i _ => rfl, fun h => absurd h (by decide)⟩
  · have hx : a ^^^ b < 4294967296 := Nat.xor_lt_two_pow (n := 32) ha hb
    obtain ⟨h1, h2, h3⟩ := ctz_bits h0 hx
    generalize Lib.ctz 32 (a ^^^ b) = k at *
    refine ⟨Nat.min_le_right _ _, fun i hi => ?_, fun h => ?_⟩
    · have := h1 i (by omega)
      rw [Nat.testBit_xor] at this
      simpa using this
    · have e : min k 16 = k := by omega
      rw [e]
      rw [Nat.testBit_xor] at h2
      simpa using h2
theorem cm_uniq {a b n : Nat} (ha : a < 4294967296) (hb : b < 4294967296) (h1 : n ≤ 16) (h2 : Agr a b n) (h3 : n < 16 → a.testBit n ≠ b.testBit n) : n = cm a b := by
  obtain ⟨k1, k2, k3⟩ := cm_spec ha hb
  rcases Nat.lt_trichotomy n (cm a b) with h | h | h
  · exact absurd (k2 n h) (h3 (by omega))
  · exact h
  · exact absurd (h2 _ h) (k3 (by omega))
theorem le_cm {a b n : Nat} (ha : a < 4294967296) (hb : b < 4294967296) : n ≤ cm a b ↔ n ≤ 16 ∧ Agr a b n := by
  obtain ⟨k1, k2, k3⟩ := cm_spec ha hb
  constructor
  · intro h
    exact ⟨by omega, fun i hi => k2 i (by omega)⟩
  · rintro ⟨h1, h2⟩
    rcases Nat.lt_or_ge (cm a b) n with h | h
    · exact absurd (h2 _ h) (k3 (by omega))
    · exact h
theorem cm_comm (a b : Nat) : cm a b = cm b a := by unfold cm; rw [Nat.xor_comm]
theorem cm_self (a : Nat) : cm a a = 16 := by
  unfold cm
  have h2 : Lib.ctz 32 (a ^^^ a) = 32 := by rw [Nat.xor_self]; rfl
  rw [h2]; rfl
theorem cm_tri {a b c : Nat} (ha : a < 4294967296) (hb : b < 4294967296) (hc : c < 4294967296) : min (cm a b) (cm b c) ≤ cm a c := by
  obtain ⟨k1, k2, _⟩ := cm_spec ha hb
  obtain ⟨l1, l2, _⟩ := cm_spec hb hc
  refine (le_cm ha hc).2 ⟨by omega, fun i hi => (k2 i (by omega)).trans (l2 i (by omega))⟩
theorem cm_le (a b : Nat) : cm a b ≤ 16 := Nat.min_le_right _ _

/-- Bit i of a word. -/
def wbit (x : Nat) (i : Int) : Int := if i < 0 ∨ 16 ≤ i then 0 else ((x.testBit i.toNat).toNat : Int)
theorem wbit_in {x : Nat} {i : Nat} (h : i < 16) : wbit x (i : Int) = ((x.testBit i).toNat : Int) := by
  unfold wbit
  rw [if_neg (by omega)]
  rfl
theorem wbit_out {x : Nat} {i : Int} (h : i < 0 ∨ 16 ≤ i) : wbit x i = 0 := if_pos h
theorem bit_toNat (b : Bool) : (b.toNat = 1 ↔ b = true) := by cases b <;> simp
theorem shr_bit (x i : Nat) : (x / 2 ^ i) % 2 = (x.testBit i).toNat := by
  rw [Nat.testBit_eq_decide_div_mod_eq]
  rcases Nat.mod_two_eq_zero_or_one (x / 2 ^ i) with h | h <;> rw [h] <;> rfl
theorem and_one (x : Nat) : x &&& 1 = x % 2 := by rw [Nat.and_one_is_mod]
theorem and_low (x k : Nat) : x &&& (2 ^ k - 1) = x % 2 ^ k := Nat.and_two_pow_sub_one_eq_mod x k
/-- The lowest bits of two words are equal exactly if they agree there. -/
theorem low_eq (a b k : Nat) : a % 2 ^ k = b % 2 ^ k ↔ Agr a b k := by
  constructor
  · intro h i hi
    have := congrArg (·.testBit i) h
    simp only [Nat.testBit_mod_two_pow, hi, decide_true, Bool.true_and] at this
    exact this
  · intro h
    apply Nat.eq_of_testBit_eq
    intro i
    rw [Nat.testBit_mod_two_pow, Nat.testBit_mod_two_pow]
    by_cases hi : i < k
    · rw [h i hi]
    · simp [hi]
end
section
open Go.RowKit Go.Shelf

theorem xor32 (a b : Nat) (ha : a < 4294967296) (hb : b < 4294967296) : bits .xor .u32 (a : Int) (b : Int) = ((a ^^^ b : Nat) : Int) := by
  have hx : a ^^^ b < 2 ^ 32 := Nat.xor_lt_two_pow (by omega) (by omega)
  have h1 : (BitVec.ofInt 32 (a : Int)).toNat = a := by
    rw [BitVec.ofInt_natCast, BitVec.toNat_ofNat]; exact Nat.mod_eq_of_lt (by omega)
  have h2 : (BitVec.ofInt 32 (b : Int)).toNat = b := by
    rw [BitVec.ofInt_natCast, BitVec.toNat_ofNat]; exact Nat.mod_eq_of_lt (by omega)
  show IntKind.u32.wrap ((BitVec.ofInt 32 (a : Int) ^^^ BitVec.ofInt 32 (b : Int)).toNat : Int) = _
  rw [BitVec.toNat_xor, h1, h2, wrap_u32']
  omega

theorem bit_val (x : Nat) (i : Int) (hx : x < 4294967296) (h1 : 0 ≤ i) (h2 : i < 16) : wrap64 (bits BinOp.and IntKind.u32 ((x : Int) / 2 ^ i.toNat) 1) = wbit x i := by
  obtain ⟨k, rfl⟩ := Int.eq_ofNat_of_zero_le h1
  have hk : k < 16 := by omega
  rw [wbit_in hk]
  have e1 : ((x : Int) / 2 ^ (Int.toNat (k : Int))) = ((x / 2 ^ k : Nat) : Int) := by simp
  have hlt : x / 2 ^ k < 4294967296 := Nat.lt_of_le_of_lt (Nat.div_le_self _ _) hx
  have e2 := bits_and_u32_nat (x / 2 ^ k) 1 hlt (by decide)
  rw [e1, show (1 : Int) = ((1 : Nat) : Int) from rfl, e2, and_one, shr_bit]
  cases x.testBit k <;> simp [wrap64]
set_option maxHeartbeats 400000 in
theorem bit_in (x : Nat) (i : Int) (w : World) (hx : x < 4294967296) (h1 : 0 ≤ i) (h2 : i < 16) :
    Calls Tryz.prog 85 #[.int .u32 (x : Int), .int .i64 i] w fun e w' => e = .returned (.int .i64 (wbit x i)) ∧ w = w' := by
  have HV := Lib.hid (bit_val x i hx h1 h2)
  go_enter Tryz.func85, Tryz.ntmps85
  go_wp2_with fail
  go_ret
  exact ⟨ret_int HV.out, rfl⟩
set_option maxHeartbeats 400000 in
theorem bit_out (x : Nat) (i : Int) (w : World) (h : i < 0 ∨ 16 ≤ i) :
    Calls Tryz.prog 85 #[.int .u32 (x : Int), .int .i64 i] w fun e w' => e = .returned (.int .i64 (wbit x i)) ∧ w = w' := by
  have HV := Lib.hid (wbit_out (x := x) h)
  rcases Int.lt_or_le i 0 with h0 | h0
  · clear h
    go_enter Tryz.func85, Tryz.ntmps85
    go_wp2_with fail
    go_ret
    exact ⟨ret_int HV.out.symm, rfl⟩
  · have h16 : 16 ≤ i := by omega
    clear h
    go_enter Tryz.func85, Tryz.ntmps85
    go_wp2_with fail
    go_ret
    exact ⟨ret_int HV.out.symm, rfl⟩
theorem bit_any (x : Nat) (i : Int) (w : World) (hx : x < 4294967296) :
    Calls Tryz.prog 85 #[.int .u32 (x : Int), .int .i64 i] w fun e w' => e = .returned (.int .i64 (wbit x i)) ∧ w = w' := by
  by_cases h : i < 0 ∨ 16 ≤ i
  · exact bit_out x i w h
  · exact bit_in x i w hx (by omega) (by omega)
set_option maxHeartbeats 400000 in
theorem valid_any4 (x : Nat) (w : World) (hx : x < 4294967296) :
    Calls Tryz.prog 75 #[.int .u32 (x : Int)] w fun e w' => e = .returned (.bool (decide (x < 65536))) ∧ w = w' := by
  go_enter Tryz.func75, Tryz.ntmps75
  go_wp2_with fail
  go_ret
  exact ⟨ret_bool (by simp; omega), rfl⟩
set_option maxHeartbeats 400000 in
theorem rbit_in (x : Nat) (i : Int) (w : World) (hx : x < 4294967296) (h1 : 0 ≤ i) (h2 : i < 16) :
    Calls Tryz.prog 67 #[.int .u32 (x : Int), .int .i64 i] w fun e w' => e = .returned (.int .i64 (wbit x i)) ∧ w = w' := by
  have HV := Lib.hid (bit_val x i hx h1 h2)
  go_enter Tryz.func67, Tryz.ntmps67
  go_wp2_with fail
  go_ret
  exact ⟨ret_int HV.out, rfl⟩
set_option maxHeartbeats 400000 in
theorem rbit_out (x : Nat) (i : Int) (w : World) (h : i < 0 ∨ 16 ≤ i) :
    Calls Tryz.prog 67 #[.int .u32 (x : Int), .int .i64 i] w fun e w' => e = .returned (.int .i64 (wbit x i)) ∧ w = w' := by
  have HV := Lib.hid (wbit_out (x := x) h)
  rcases Int.lt_or_le i 0 with h0 | h0
  · clear h
    go_enter Tryz.func67, Tryz.ntmps67
    go_wp2_with fail
    go_ret
    exact ⟨ret_int HV.out.symm, rfl⟩
  · have h16 : 16 ≤ i := by omega
    clear h
    go_enter Tryz.func67, Tryz.ntmps67
    go_wp2_with fail
    go_ret
    exact ⟨ret_int HV.out.symm, rfl⟩
theorem rbit_any (x : Nat) (i : Int) (w : World) (hx : x < 4294967296) :
    Calls Tryz.prog 67 #[.int .u32 (x : Int), .int .i64 i] w fun e w' => e = .returned (.int .i64 (wbit x i)) ∧ w = w' := by
  by_cases h : i < 0 ∨ 16 ≤ i
  · exact rbit_out x i w h
  · exact rbit_in x i w hx (by omega) (by omega)
set_option maxHeartbeats 400000 in
theorem rvalid_any4 (x : Nat) (w : World) (hx : x < 4294967296) :
    Calls Tryz.prog 63 #[.int .u32 (x : Int)] w fun e w' => e = .returned (.bool (decide (x < 65536))) ∧ w = w' := by
  go_enter Tryz.func63, Tryz.ntmps63
  go_wp2_with fail
  go_ret
  exact ⟨ret_bool (by simp; omega), rfl⟩
set_option maxHeartbeats 400000 in
theorem lowest_16 (x : Int) (w : World) :
    Calls Tryz.prog 97 #[.int .u32 x, .int .i64 16] w fun e w' => e = .returned (.int .u32 (bits .and .u32 x 65535)) ∧ w = w' := by
  go_enter Tryz.func97, Tryz.ntmps97
  go_wp2_with fail
  go_ret
  exact ⟨rfl, rfl⟩
/-- The numbers of splitmix64, as both programs take them. -/
def dr1 (s n : Int) : Int := IntKind.u64.wrap (s + IntKind.u64.wrap (IntKind.u64.wrap (IntKind.u64.wrap n + 1) * 11400714819323198485))
def dr2 (x : Int) : Int := IntKind.u64.wrap (bits .xor .u64 x (x / 1073741824) * 13787848793156543929)
def dr3 (x : Int) : Int := IntKind.u64.wrap (bits .xor .u64 x (x / 134217728) * 10723151780598845931)
def dr4 (y : Int) : Int := bits .xor .u64 y (y / 2147483648)
def drW (s n : Int) : Int := dr4 (dr3 (dr2 (dr1 s n))) % 65536
theorem dr4_nn (y : Int) : 0 ≤ dr4 y := by
  show 0 ≤ IntKind.u64.wrap _
  rw [IntKind.wrap_u64]
  omega
theorem drw_k (y : Int) : bits .and .u32 (dr4 y % 4294967296) 65535 = dr4 y % 65536 := by
  have h := dr4_nn y
  generalize dr4 y = z at *
  obtain ⟨k, rfl⟩ := Int.eq_ofNat_of_zero_le h
  have e2 := bits_and_u32_nat (k % 4294967296) 65535 (by omega) (by decide)
  have e3 : ((k : Int) % 4294967296) = ((k % 4294967296 : Nat) : Int) := by omega
  rw [e3, show (65535 : Int) = ((65535 : Nat) : Int) from rfl, e2, show 65535 = 2 ^ 16 - 1 from rfl, and_low]
  omega
theorem drw_r (y : Int) : (dr4 y).tmod 65536 % 4294967296 = dr4 y % 65536 := by
  have h := dr4_nn y
  generalize dr4 y = z at *
  rw [Int.tmod_eq_emod_of_nonneg h]
  omega
theorem drW_bd (s n : Int) : 0 ≤ drW s n ∧ drW s n < 65536 := by unfold drW; omega
theorem agr_step {a b k : Nat} (h : Agr a b k) (e : a.testBit k = b.testBit k) : Agr a b (k + 1) := fun i hi => by
  rcases Nat.lt_or_ge i k with h1 | h1
  · exact h i h1
  · obtain rfl : i = k := by omega
    exact e
set_option maxHeartbeats 800000 in
theorem rcommon_any (a b : Nat) (w : World) (ha : a < 4294967296) (hb : b < 4294967296) :
    Calls Tryz.prog 109 #[.int .u32 (a : Int), .int .u32 (b : Int)] w fun e w' => e = .returned (.int .i64 (cm a b : Int)) ∧ w = w' := by
  go_enter Tryz.func109, Tryz.ntmps109
  go_wp2_with fail
  go_loop [5] (fun n => ∃ k : Nat, n = .int .i64 (k : Int) ∧ k ≤ 16 ∧ Hid (Agr a b k)) (fun n => 16 - (intOf n).toNat)
  case atStart => exact ⟨0, rfl, by omega, Lib.hid (fun i hi => absurd hi (by omega))⟩
  case round =>
    obtain ⟨k, rfl, hk, HA⟩ := hrel
    by_cases hlt : k < 16
    · have e1 := Lib.hid (wbit_in (x := a) hlt)
      have e2 := Lib.hid (wbit_in (x := b) hlt)
      have hk0 : (0 : Int) ≤ (k : Int) := by omega
      have hk1 : (k : Int) < 16 := by omega
      by_cases hbit : a.testBit k = b.testBit k
      · have HS := Lib.hid (agr_step HA.out hbit)
        have hd : ((((b.testBit k).toNat : Nat) : Int) == (((b.testBit k).toNat : Nat) : Int)) = true := by simp
        rw [hbit] at e1
        clear hbit
        generalize (b.testBit k).toNat = z at *
        go_wp2_with fail
        refine (rbit_any a k w ha).mono ?_
        rintro e w' ⟨he, rfl⟩
        rw [e1.out] at he
        subst he
        go_wp2_with fail
        refine (rbit_any b k w hb).mono ?_
        rintro e w' ⟨he, rfl⟩
        rw [e2.out] at he
        subst he
        go_wp2_with fail
        go_round
        case rel => exact ⟨k + 1, by go_num, hlt, HS⟩
        case measure => simp [intOf]; omega
      · have HC := Lib.hid (cm_uniq ha hb hk HA.out (fun _ => hbit))
        have hd : ((((a.testBit k).toNat : Nat) : Int) == (((b.testBit k).toNat : Nat) : Int)) = false := by
          cases h1 : a.testBit k <;> cases h2 : b.testBit k <;> simp [h1, h2] at hbit ⊢
        clear hbit
        generalize (b.testBit k).toNat = z at *
        generalize (a.testBit k).toNat = y at *
        go_wp2_with fail
        refine (rbit_any a k w ha).mono ?_
        rintro e w' ⟨he, rfl⟩
        rw [e1.out] at he
        subst he
        go_wp2_with fail
        refine (rbit_any b k w hb).mono ?_
        rintro e w' ⟨he, rfl⟩
        rw [e2.out] at he
        subst he
        go_wp2_with fail
        go_ret
        exact ⟨ret_int (by rw [HC.out]), rfl⟩
    · have HC := Lib.hid (cm_uniq ha hb hk HA.out (fun h => absurd h hlt))
      go_wp2_with fail
      go_ret
      exact ⟨ret_int (by rw [HC.out]), rfl⟩
set_option maxHeartbeats 400000 in
theorem rsame_any (a b : Nat) (h : Int) (w : World) (ha : a < 4294967296) (hb : b < 4294967296) :
    Calls Tryz.prog 96 #[.int .u32 (a : Int), .int .u32 (b : Int), .int .i64 h] w fun e w' => e = .returned (.bool (decide (h ≤ (cm a b : Int)))) ∧ w = w' := by
  go_enter Tryz.func96, Tryz.ntmps96
  go_wp2_with fail
  refine (rcommon_any a b w ha hb).mono ?_
  rintro e w' ⟨rfl, rfl⟩
  go_wp2_with fail
  go_ret
  exact ⟨rfl, rfl⟩
end
section
open Go.RowKit

/-- The nodes of a group. -/
def grp (l : List Nd) (h : Int) (v : Nat) : List Nd := l.filter fun x => decide (h ≤ (cm x.word v : Int))
theorem grp_yes {l : List Nd} {h : Int} {v k : Nat} (hk : k < l.length) (hy : h ≤ (cm l[k].word v : Int)) : grp (l.take (k + 1)) h v = grp (l.take k) h v ++ [l[k]] := by
  unfold grp; rw [List.take_succ_eq_append_getElem hk, List.filter_append]; congr 1; simp [hy]
theorem grp_no {l : List Nd} {h : Int} {v k : Nat} (hk : k < l.length) (hy : ¬ h ≤ (cm l[k].word v : Int)) : grp (l.take (k + 1)) h v = grp (l.take k) h v := by
  unfold grp; rw [List.take_succ_eq_append_getElem hk, List.filter_append]; simp [hy]
theorem grp_len (l : List Nd) (h : Int) (v : Nat) : (grp l h v).length ≤ l.length := List.length_filter_le _ _

/-- What Group gives: a row of the call's own. -/
def NdsP (l : List Nd) (w : World) (e : Ending) (w' : World) : Prop := ∃ A c, e = .returned (.slice A l.length c) ∧ OwnN w' w.heap.size (.slice A l.length c) l ∧ Below w.heap.size w w'

theorem two_nodes (w : World) (a b : Nd) : Nds (w.alloc (.cells #[.int .i64 a.id, .string a.key, .int .u32 (a.word : Int), .int .i64 b.id, .string b.key, .int .u32 (b.word : Int)] 25)) (w.heap.size + 1) (some ⟨w.heap.size, 0, none⟩) [a, b] := fun _ => by
  have hN := Has.new w 25 #[.int .i64 a.id, .string a.key, .int .u32 (a.word : Int), .int .i64 b.id, .string b.key, .int .u32 (b.word : Int)]
  refine ⟨_, 0, rfl, by omega, fun i hi => ?_⟩
  have h2 : i = 0 ∨ i = 1 := by simp at hi; omega
  rcases h2 with rfl | rfl
  · exact ⟨hN.cell 0, hN.cell 1, hN.cell 2⟩
  · exact ⟨hN.cell 3, hN.cell 4, hN.cell 5⟩
theorem cm_51 : cm 5 1 = 2 := by decide +kernel
theorem cm_13 : cm 1 3 = 1 := by decide +kernel
theorem cm_23 : cm 2 3 = 0 := by decide +kernel
theorem grp_13 : grp [⟨0, ⟨#[]⟩, 1⟩, ⟨0, ⟨#[]⟩, 2⟩] 1 3 = [⟨0, ⟨#[]⟩, 1⟩] := by
  unfold grp
  simp [cm_13, cm_23]
end
section
open Go.RowKit

def BoolN (b : Bool) (w : World) (e : Ending) (w' : World) : Prop := e = .returned (.bool b) ∧ Below w.heap.size w w'
/-- Two nodes are the same. -/
def Nd.same (a b : Nd) : Bool := a.id == b.id && a.key.toList == b.key.toList && a.word == b.word
theorem Nd.same_iff (a b : Nd) : a.same b = true ↔ a = b := by
  unfold Nd.same
  rw [Bool.and_eq_true, Bool.and_eq_true, beq_iff_eq, beq_iff_eq, beq_iff_eq]
  constructor
  · rintro ⟨⟨h1, h2⟩, h3⟩
    obtain ⟨k, n, t⟩ := a
    obtain ⟨k', n', t'⟩ := b
    simp only at h1 h2 h3
    rw [h1, toList_inj h2, h3]
  · rintro rfl
    exact ⟨⟨rfl, rfl⟩, rfl⟩
/-- Two lists are the same. -/
def sameN : List Nd → List Nd → Bool
  | [], [] => true
  | a :: x, b :: y => a.same b && sameN x y
  | _, _ => false
theorem sameN_iff : ∀ a b : List Nd, sameN a b = true ↔ a = b
  | [], [] => by simp [sameN]
  | [], _ :: _ => by simp [sameN]
  | _ :: _, [] => by simp [sameN]
  | a :: x, b :: y => by
    show (a.same b && sameN x y) = true ↔ _
    rw [Bool.and_eq_true, Nd.same_iff, sameN_iff x y]
    simp
theorem sameN_self (a : List Nd) : sameN a a = true := (sameN_iff a a).2 rfl
theorem sameN_len {a b : List Nd} (h : a.length ≠ b.length) : sameN a b = false := by
  rw [← Bool.not_eq_true, sameN_iff]
  rintro rfl
  exact h rfl
theorem sameN_drop {a b : List Nd} {k : Nat} (h1 : k < a.length) (h2 : k < b.length) : sameN (a.drop k) (b.drop k) = (a[k].same b[k] && sameN (a.drop (k + 1)) (b.drop (k + 1))) := by
  rw [List.drop_eq_getElem_cons h1, List.drop_eq_getElem_cons h2]; rfl

theorem fieldsN : (Tryz.prog.fieldsOf 25).toList.map (fun f => (f.name, f.type, f.offset)) = [("ID", 3, 0), ("Key", 9, 1), ("Word", 23, 2)] := by kernel_rfl
theorem eq_nd (a b : Nd) (w : World) : (Op.equalIn 10000 25 (.agg #[.int .i64 a.id, .string a.key, .int .u32 (a.word : Int)]) (.agg #[.int .i64 b.id, .string b.key, .int .u32 (b.word : Int)])).run Tryz.prog w = .ok (a.same b) w := by
  rw [run_equalIn_agg w 9999 25 _ _ (by kernel_rfl) (by kernel_rfl)]
  unfold Nd.same
  by_cases h1 : a.id = b.id <;> by_cases h2 : a.key.toList = b.key.toList <;> by_cases h3 : a.word = b.word <;> simp [go_sem, Tryz.underlying25, Tryz.underlying3, Tryz.underlying9, Tryz.underlying23, h1, h2, h3, Int.ofNat_inj]
theorem neq_nd (a b : Nd) (w : World) : (binOp .neq 25 (.agg #[.int .i64 a.id, .string a.key, .int .u32 (a.word : Int)]) (.agg #[.int .i64 b.id, .string b.key, .int .u32 (b.word : Int)])).run Tryz.prog w = .ok (.bool (!a.same b)) w := by
  rw [run_neq_struct, eq_nd]
  rfl
end
section
open Go.RowKit

theorem grp_deep (l : List Nd) {h : Int} (v : Nat) (hh : 16 < h) : grp l h v = [] := by
  unfold grp
  rw [List.filter_eq_nil_iff]
  intro x _
  have := cm_le x.word v
  simp
  omega

set_option maxRecDepth 100000 in
set_option maxHeartbeats 3200000 in
theorem rgroup_any (A : Option Addr) (l : List Nd) (c : Nat) (h : Int) (v : Nat) (w : World) (hl : Nds w w.heap.size A l) (hn : l.length ≤ 1000) (hwd : ∀ x ∈ l, x.word < 4294967296) (hv : v < 4294967296) :
    Calls Tryz.prog 86 #[.slice A l.length c, .int .i64 h, .int .u32 (v : Int)] w (NdsP (grp l h v) w) := by
  obtain ⟨inf, hif, hif1, hif2, hif3⟩ := infoN_parts
  by_cases hh : 16 < h
  · rw [grp_deep l v hh]
    clear hl hwd
    go_enter Tryz.func86, Tryz.ntmps86
    by_cases h0 : 0 < l.length
    · have h0' : (0 : Int) < (l.length : Int) := by omega
      go_wp2_with fail
      go_loopw [7, 8] (fun b i wr => b = .slice none 0 0 ∧ i = .int .i64 0 ∧ wr = w) (fun _ _ _ => 0)
      case atStart => exact ⟨rfl, rfl, rfl⟩
      case round =>
        obtain ⟨rfl, rfl, rfl⟩ := hrel
        go_wp2_with fail
        go_ret
        exact ⟨none, 0, rfl, OwnN.nil _ _, Below.refl _ _⟩
    · have h0' : ¬ (0 : Int) < (l.length : Int) := by omega
      go_wp2_with fail
      go_loopw [7, 8] (fun b i wr => b = .slice none 0 0 ∧ i = .int .i64 0 ∧ wr = w) (fun _ _ _ => 0)
      case atStart => exact ⟨rfl, rfl, rfl⟩
      case round =>
        obtain ⟨rfl, rfl, rfl⟩ := hrel
        go_wp2_with fail
        go_ret
        exact ⟨none, 0, rfl, OwnN.nil _ _, Below.refl _ _⟩
  have hh2 : h ≤ 16 := by omega
  go_enter Tryz.func86, Tryz.ntmps86
  go_wp2_with fail
  go_loopw [7, 8] (fun b i wr => ∃ (v1 : Value) (k : Nat) (l1 : List Nd), v1 = b ∧ k ≤ l.length ∧ i = .int .i64 (k : Int) ∧ OwnN wr w.heap.size v1 l1 ∧ Below w.heap.size w wr ∧ Hid (l1 = grp (l.take k) h v) ∧ l1.length ≤ k) (fun _ i _ => l.length - (intOf i).toNat)
  case atStart => exact ⟨_, 0, [], rfl, by omega, rfl, OwnN.nil _ _, Below.refl _ _, Lib.hid (by simp [grp]), by simp⟩
  case round =>
    obtain ⟨v1, k, l1, rfl, hk, rfl, ho1, hB, HL, hlen⟩ := hrel
    by_cases hlt : k < l.length
    · obtain ⟨b, o, hA2, hb, f1, f2, f3⟩ := hl.at_ hlt
      subst hA2
      have hxw := hwd _ (List.getElem_mem hlt)
      have HY := Lib.hid (fun (hy : h ≤ (cm l[k].word v : Int)) => grp_yes hlt hy)
      have HNo := Lib.hid (fun (hy : ¬ h ≤ (cm l[k].word v : Int)) => grp_no hlt hy)
      replace f1 := (hB.cell (p := ⟨b, o + k * 3, none⟩) hb).trans f1
      replace f2 := (hB.cell (p := ⟨b, o + k * 3 + 1, none⟩) hb).trans f2
      replace f3 := (hB.cell (p := ⟨b, o + k * 3 + 2, none⟩) hb).trans f3
      generalize l[k] = y at *
      obtain ⟨yi, yk, yw⟩ := y
      have i0 : (0 : Int) ≤ (k : Int) := by omega
      have i1 : (k : Int) < (l.length : Int) := by omega
      obtain ⟨A3, c3, hv3, hnd⟩ := ho1.read
      clear hnd
      subst hv3
      go_wp2_with fail
      refine (rsame_any yw v h _ hxw hv).mono ?_
      rintro e w' ⟨he, rfl⟩
      by_cases hy : h ≤ (cm yw v : Int)
      · have hd : decide (h ≤ (cm yw v : Int)) = true := by simpa using hy
        have HF := Lib.hid (HY.out hy)
        rw [hd] at he
        subst he
        clear hd hy HY HNo
        have hbs := hB.size
        go_wp2_with (at_builtin; refine wpList_pushN rfl _ _ 28 rfl w.heap.size inf Tryz.underlying28 hif hif1 hif2 hif3 (.slice A3 l1.length c3) l1 _ ⟨yi, yk, yw⟩ rfl ho1 rfl (by omega) hbs ?_; intro v2 w6 ho6 hb6; obtain ⟨l2, hl2⟩ : ∃ l2, l2 = l1 ++ [(⟨yi, yk, yw⟩ : Nd)] := ⟨_, rfl⟩; rw [← hl2] at ho6; have hln2 : l2.length = l1.length + 1 := (by rw [hl2]; simp); have HL2 := Lib.hid hl2; have HLN := Lib.hid hln2; clear hl2 hln2; obtain ⟨A4, c4, rfl, -⟩ := ho6.read)
        exact ⟨⟨_, k + 1, l2, rfl, hlt, by go_num, ho6, hB.trans hb6, Lib.hid (by rw [HL2.out, HL.out, HF.out]), by have := HLN.out; omega⟩, by simp [intOf]; omega⟩
      · have hd : decide (h ≤ (cm yw v : Int)) = false := by simpa using hy
        have HF := Lib.hid (HNo.out (by omega))
        rw [hd] at he
        subst he
        clear hd hy HY HNo
        go_wp2_with fail
        exact ⟨⟨_, k + 1, l1, rfl, hlt, by go_num, ho1, hB, Lib.hid (by rw [HL.out, HF.out]), by omega⟩, by simp [intOf]; omega⟩
    · have hL2 : l1 = grp l h v := by rw [HL.out, List.take_of_length_le (by omega)]
      obtain ⟨A3, c3, rfl, -⟩ := ho1.read
      have HL2 := Lib.hid hL2
      clear hL2 HL
      go_wp2_with fail
      go_ret
      rw [← HL2.out]
      exact ⟨A3, c3, rfl, ho1, hB⟩
end
end Go.Proofs.YtjokbdhineilcaaGreatDoor
