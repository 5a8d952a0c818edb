/-
  Plain facts on membership words: in how many bits, from the lowest one on, two words agree. No condition.
-/
import Derived.Test.YtmhimkojegkalaaDoorLsP
import Derived.Lib.TrailingZeros
namespace Go.Proofs.YtmhimkojegkalaaDoor
open Go.RowKit

/-- In how many bits, up to 16, two words agree. -/
def cm (a b : Nat) : Nat := min (Lib.ctz 32 (a ^^^ b)) 16
/-- They agree in the first n bits. -/
def Agr (a b n : Nat) : Prop := ∀ i, i < n → a.testBit i = b.testBit i

theorem ctz_bits {x : Nat} (h0 : x ≠ 0) (h : x < 4294967296) : (∀ i, i < Lib.ctz 32 x → x.testBit i = false) ∧ x.testBit (Lib.ctz 32 x) = true ∧ Lib.ctz 32 x < 32 := by
  obtain ⟨m, hm, hk⟩ := Lib.ctzFrom_spec 32 x (by omega) (by omega)
  have e : Lib.ctz 32 x = Lib.ctzFrom 32 x := by unfold Lib.ctz; rw [if_neg h0]
  rw [e]
  generalize Lib.ctzFrom 32 x = k at *
  subst hm
  refine ⟨fun i hi => ?_, ?_, hk⟩
  · rw [Nat.mul_comm, Nat.testBit_mul_two_pow]
    simp [show ¬ k ≤ i by omega]
  · rw [Nat.mul_comm, Nat.testBit_mul_two_pow]
    simp
theorem cm_spec {a b : Nat} (ha : a < 4294967296) (hb : b < 4294967296) : cm a b ≤ 16 ∧ Agr a b (cm a b) ∧ (cm a b < 16 → a.testBit (cm a b) ≠ b.testBit (cm a b)) := by
  unfold cm
  by_cases h0 : a ^^^ b = 0
  · have e : a = b := by
      apply Nat.eq_of_testBit_eq
      intro i
      have := congrArg (·.testBit i) h0
      simp at this
      exact this
    subst e
    have h2 : Lib.ctz 32 (a ^^^ a) = 32 := by rw [h0]; rfl
    rw [h2]
    exact ⟨by decide, fun i _ => rfl, fun h => absurd h (by decide)⟩
  · have hx : a ^^^ b < 4294967296 := Nat.xor_lt_two_pow (n := 32) ha hb
    obtain ⟨h1, h2, h3⟩ := ctz_bits h0 hx
    generalize Lib.ctz 32 (a ^^^ b) = k at *
    refine ⟨Nat.min_le_right _ _, fun i hi => ?_, fun h => ?_⟩
    · have := h1 i (by omega)
      rw [Nat.testBit_xor] at this
      simpa using this
    · have e : min k 16 = k := by omega
      rw [e]
      rw [Nat.testBit_xor] at h2
      simpa using h2
theorem cm_uniq {a b n : Nat} (ha : a < 4294967296) (hb : b < 4294967296) (h1 : n ≤ 16) (h2 : Agr a b n) (h3 : n < 16 → a.testBit n ≠ b.testBit n) : n = cm a b := by
  obtain ⟨k1, k2, k3⟩ := cm_spec ha hb
  rcases Nat.lt_trichotomy n (cm a b) with h | h | h
  · exact absurd (k2 n h) (h3 (by omega))
  · exact h
  · exact absurd (h2 _ h) (k3 (by omega))
theorem le_cm {a b n : Nat} (ha : a < 4294967296) (hb : b < 4294967296) : n ≤ cm a b ↔ n ≤ 16 ∧ Agr a b n := by
  obtain ⟨k1, k2, k3⟩ := cm_spec ha hb
  constructor
  · intro h
    exact ⟨by omega, fun i hi => k2 i (by omega)⟩
  · rintro ⟨h1, h2⟩
    rcases Nat.lt_or_ge (cm a b) n with h | h
    · exact absurd (h2 _ h) (k3 (by omega))
    · exact h
theorem cm_comm (a b : Nat) : cm a b = cm b a := by unfold cm; rw [Nat.xor_comm]
theorem cm_self (a : Nat) : cm a a = 16 := by
  unfold cm
  have h2 : Lib.ctz 32 (a ^^^ a) = 32 := by rw [Nat.xor_self]; rfl
  rw [h2]; rfl
theorem cm_tri {a b c : Nat} (ha : a < 4294967296) (hb : b < 4294967296) (hc : c < 4294967296) : min (cm a b) (cm b c) ≤ cm a c := by
  obtain ⟨k1, k2, _⟩ := cm_spec ha hb
  obtain ⟨l1, l2, _⟩ := cm_spec hb hc
  refine (le_cm ha hc).2 ⟨by omega, fun i hi => (k2 i (by omega)).trans (l2 i (by omega))⟩
theorem cm_le (a b : Nat) : cm a b ≤ 16 := Nat.min_le_right _ _

/-- Bit i of a word. -/
def wbit (x : Nat) (i : Int) : Int := if i < 0 ∨ 16 ≤ i then 0 else ((x.testBit i.toNat).toNat : Int)
theorem wbit_in {x : Nat} {i : Nat} (h : i < 16) : wbit x (i : Int) = ((x.testBit i).toNat : Int) := by
  unfold wbit
  rw [if_neg (by omega)]
  rfl
theorem wbit_out {x : Nat} {i : Int} (h : i < 0 ∨ 16 ≤ i) : wbit x i = 0 := if_pos h
theorem bit_toNat (b : Bool) : (b.toNat = 1 ↔ b = true) := by cases b <;> simp
theorem shr_bit (x i : Nat) : (x / 2 ^ i) % 2 = (x.testBit i).toNat := by
  rw [Nat.testBit_eq_decide_div_mod_eq]
  rcases Nat.mod_two_eq_zero_or_one (x / 2 ^ i) with h | h <;> rw [h] <;> rfl
theorem and_one (x : Nat) : x &&& 1 = x % 2 := by rw [Nat.and_one_is_mod]
theorem and_low (x k : Nat) : x &&& (2 ^ k - 1) = x % 2 ^ k := Nat.and_two_pow_sub_one_eq_mod x k
/-- The lowest bits of two words are equal exactly if they agree there. -/
theorem low_eq (a b k : Nat) : a % 2 ^ k = b % 2 ^ k ↔ Agr a b k := by
  constructor
  · intro h i hi
    have := congrArg (·.testBit i) h
    simp only [Nat.testBit_mod_two_pow, hi, decide_true, Bool.true_and] at this
    exact this
  · intro h
    apply Nat.eq_of_testBit_eq
    intro i
    rw [Nat.testBit_mod_two_pow, Nat.testBit_mod_two_pow]
    by_cases hi : i < k
    · rw [h i hi]
    · simp [hi]
end Go.Proofs.YtmhimkojegkalaaDoor
