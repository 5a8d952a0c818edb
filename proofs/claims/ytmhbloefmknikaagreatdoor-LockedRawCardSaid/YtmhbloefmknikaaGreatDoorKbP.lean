/-
  Plain facts on numbers and strings as bytes: groups of seven bits, the lowest first; what is encoded is decoded, and what is decoded is an encoding. No condition.
-/
import Derived.WalkKit
namespace Go.Proofs.YtmhbloefmknikaaGreatDoor

/-- The encoding of a number. -/
def encU (n : Nat) : List UInt8 := if n < 128 then [UInt8.ofNat n] else UInt8.ofNat (n % 128 + 128) :: encU (n / 128)
termination_by n
decreasing_by omega

theorem encU_lt {n : Nat} (h : n < 128) : encU n = [UInt8.ofNat n] := by rw [encU, if_pos h]
theorem encU_ge {n : Nat} (h : ¬ n < 128) : encU n = UInt8.ofNat (n % 128 + 128) :: encU (n / 128) := by rw [encU, if_neg h]
theorem toNat_ofNat8 {n : Nat} (h : n < 256) : (UInt8.ofNat n).toNat = n := by rw [UInt8.toNat_ofNat']; exact Nat.mod_eq_of_lt h

/-- What is read from place i on, with n read before. -/
def decF (i n : Nat) : List UInt8 → Option (Nat × Nat)
  | [] => none
  | c :: r => if i = 9 ∧ 1 < c.toNat then none else if 128 ≤ c.toNat then decF (i + 1) (n + (c.toNat - 128) * 128 ^ i) r else if c.toNat = 0 ∧ 0 < i then none else some (n + c.toNat * 128 ^ i, i + 1)
def decU (l : List UInt8) : Option (Nat × Nat) := decF 0 0 l

theorem enc_len_pos (m : Nat) : 0 < (encU m).length := by
  by_cases h : m < 128
  · rw [encU_lt h]; simp
  · rw [encU_ge h]; simp
theorem enc_len : ∀ (k m : Nat), m < 128 ^ (k + 1) → (encU m).length ≤ k + 1
  | 0, m, h => by rw [encU_lt (by simpa using h)]; simp
  | k + 1, m, h => by
    by_cases h1 : m < 128
    · rw [encU_lt h1]; simp
    · rw [encU_ge h1, List.length_cons]
      have := enc_len k (m / 128) (by rw [Nat.pow_succ] at h; omega)
      omega
theorem enc_len10 {m : Nat} (h : m < 18446744073709551616) : (encU m).length ≤ 10 := enc_len 9 m (by omega)

theorem dec_enc : ∀ (m i n : Nat) (r : List UInt8), i ≤ 9 → m * 128 ^ i < 18446744073709551616 → (0 < i → 0 < m) → decF i n (encU m ++ r) = some (n + m * 128 ^ i, i + (encU m).length) := by
  intro m
  induction m using Nat.strongRecOn with
  | _ m ih =>
    intro i n r hi hm h0
    by_cases h : m < 128
    · rw [encU_lt h]
      have hc : (UInt8.ofNat m).toNat = m := toNat_ofNat8 (by omega)
      have h9 : ¬ (i = 9 ∧ 1 < m) := fun ⟨h1, h2⟩ => by
        subst h1
        omega
      simp only [List.cons_append, List.nil_append, decF, hc, List.length_cons, List.length_nil]
      rw [if_neg h9, if_neg (by omega), if_neg (by omega)]
    · rw [encU_ge h]
      have hc : (UInt8.ofNat (m % 128 + 128)).toNat = m % 128 + 128 := toNat_ofNat8 (by omega)
      have h9 : i ≠ 9 := fun h1 => by subst h1; omega
      simp only [List.cons_append, decF, hc, List.length_cons]
      rw [if_neg (fun h1 => h9 h1.1), if_pos (by omega)]
      have hp : 128 ^ (i + 1) = 128 ^ i * 128 := Nat.pow_succ ..
      have hdiv : m / 128 * 128 + m % 128 = m := by omega
      have e1 : m * 128 ^ i = m / 128 * 128 ^ (i + 1) + m % 128 * 128 ^ i := by
        conv => lhs; rw [← hdiv]
        rw [Nat.add_mul, hp, Nat.mul_assoc, Nat.mul_comm 128]
      rw [ih (m / 128) (by omega) (i + 1) _ r (by omega) (by omega) (fun _ => by omega)]
      rw [show m % 128 + 128 - 128 = m % 128 by omega, e1]
      congr 2 <;> omega

theorem enc_dec : ∀ (l : List UInt8) (i n x k : Nat), i ≤ 9 → decF i n l = some (x, k) → ∃ m, x = n + m * 128 ^ i ∧ k = i + (encU m).length ∧ (∃ r, l = encU m ++ r) ∧ (0 < i → 0 < m) ∧ m * 128 ^ i < 18446744073709551616
  | [], i, n, x, k, hi, h => by cases h
  | c :: r, i, n, x, k, hi, h => by
    simp only [decF] at h
    split at h
    · cases h
    · rename_i h9
      split at h
      · rename_i hc
        have hi9 : i ≠ 9 := fun e => h9 ⟨e, by omega⟩
        obtain ⟨m, h1, h2, ⟨r', h3⟩, h4, h5⟩ := enc_dec r (i + 1) _ x k (by omega) h
        have hlt := c.toNat_lt
        have hp : 128 ^ (i + 1) = 128 ^ i * 128 := Nat.pow_succ ..
        have hq : m * 128 ^ (i + 1) = 128 * (m * 128 ^ i) := by rw [hp, ← Nat.mul_assoc, Nat.mul_comm]
        have hm := h4 (by omega)
        have e1 : (m * 128 + (c.toNat - 128)) * 128 ^ i = m * 128 ^ (i + 1) + (c.toNat - 128) * 128 ^ i := by
          rw [Nat.add_mul, Nat.mul_assoc, Nat.mul_comm 128, hp]
        have hge : ¬ m * 128 + (c.toNat - 128) < 128 := by omega
        have he : encU (m * 128 + (c.toNat - 128)) = c :: encU m := by
          rw [encU_ge hge]
          have h6 : (m * 128 + (c.toNat - 128)) % 128 + 128 = c.toNat := by omega
          have h7 : (m * 128 + (c.toNat - 128)) / 128 = m := by omega
          rw [h6, h7]
          congr 1
          exact UInt8.toNat_inj.1 (toNat_ofNat8 hlt)
        refine ⟨m * 128 + (c.toNat - 128), by rw [e1]; omega, by rw [he, List.length_cons]; omega, ⟨r', by rw [he, h3]; rfl⟩, fun _ => by omega, ?_⟩
        rw [e1]
        have hb : (c.toNat - 128) * 128 ^ i < 128 * 128 ^ i := by
          refine Nat.mul_lt_mul_of_pos_right (by omega) (Nat.pow_pos (by omega))
        have hk : m * 128 ^ (i + 1) + 128 ^ (i + 1) ≤ 18446744073709551616 := by
          have hdvd : (18446744073709551616 : Nat) = 2 ^ (64 - 7 * (i + 1)) * 128 ^ (i + 1) := by
            rw [show (128 : Nat) = 2 ^ 7 from rfl, ← Nat.pow_mul, ← Nat.pow_add, show 64 - 7 * (i + 1) + 7 * (i + 1) = 64 by omega]
          rw [hdvd] at h5 ⊢
          have : m < 2 ^ (64 - 7 * (i + 1)) := Nat.lt_of_mul_lt_mul_right h5
          calc m * 128 ^ (i + 1) + 128 ^ (i + 1) = (m + 1) * 128 ^ (i + 1) := by rw [Nat.add_mul, Nat.one_mul]
            _ ≤ _ := Nat.mul_le_mul_right _ this
        omega
      · rename_i hc
        split at h
        · cases h
        · rename_i h0
          injection h with h
          injection h with h1 h2
          have hlt : c.toNat < 128 := by omega
          have he : encU c.toNat = [c] := by
            rw [encU_lt hlt]
            congr 1
            exact UInt8.toNat_inj.1 (toNat_ofNat8 (by omega))
          refine ⟨c.toNat, h1.symm, by rw [he, ← h2]; rfl, ⟨r, by rw [he]; rfl⟩, fun hp => by omega, ?_⟩
          have h8 : 128 ^ i ≤ 128 ^ 9 := Nat.pow_le_pow_right (by omega) hi
          by_cases e : i = 9
          · subst e
            have : c.toNat ≤ 1 := by omega
            omega
          · have h8 : 128 ^ i ≤ 128 ^ 8 := Nat.pow_le_pow_right (by omega) (by omega)
            calc c.toNat * 128 ^ i ≤ 128 * 128 ^ 8 := Nat.mul_le_mul (by omega) h8
              _ < _ := by omega

theorem decU_enc {m : Nat} (h : m < 18446744073709551616) (r : List UInt8) : decU (encU m ++ r) = some (m, (encU m).length) := by
  unfold decU
  rw [dec_enc m 0 0 r (by omega) (by simpa using h) (fun h => by omega)]
  simp
theorem decU_some {l : List UInt8} {x k : Nat} (h : decU l = some (x, k)) : x < 18446744073709551616 ∧ k = (encU x).length ∧ ∃ r, l = encU x ++ r := by
  obtain ⟨m, h1, h2, h3, _, h5⟩ := enc_dec l 0 0 x k (by omega) h
  have e : x = m := by simpa using h1
  subst e
  exact ⟨by simpa using h5, by omega, h3⟩
theorem decU_le {l : List UInt8} {x k : Nat} (h : decU l = some (x, k)) : 1 ≤ k ∧ k ≤ 10 ∧ k ≤ l.length := by
  obtain ⟨h1, h2, r, h3⟩ := decU_some h
  have := enc_len10 h1
  have h4 := enc_len_pos x
  rw [h3, List.length_append]
  omega
/-- No encoding of a number begins another one. -/
theorem encU_free {a b : Nat} (ha : a < 18446744073709551616) (hb : b < 18446744073709551616) {r s : List UInt8} (h : encU a ++ r = encU b ++ s) : a = b := by
  have h1 := decU_enc ha r
  rw [h, decU_enc hb s] at h1
  injection h1 with h1
  injection h1 with h1 _
  exact h1.symm

/-- Signed numbers as unsigned ones. -/
def zig (n : Int) : Nat := if 0 ≤ n then (2 * n).toNat else (-(2 * n) - 1).toNat
def zag (m : Nat) : Int := if m % 2 = 0 then ((m / 2 : Nat) : Int) else -((m / 2 : Nat) : Int) - 1
theorem zag_zig (n : Int) : zag (zig n) = n := by
  unfold zag zig
  by_cases h : 0 ≤ n
  · rw [if_pos h, if_pos (by omega)]; omega
  · rw [if_neg h, if_neg (by omega)]; omega
theorem zig_zag (m : Nat) : zig (zag m) = m := by
  unfold zag zig
  by_cases h : m % 2 = 0
  · rw [if_pos h, if_pos (by omega)]; omega
  · rw [if_neg h, if_neg (by omega)]; omega
theorem zig_lt {n : Int} (h1 : -9223372036854775808 ≤ n) (h2 : n ≤ 9223372036854775807) : zig n < 18446744073709551616 := by
  unfold zig
  split <;> omega
theorem zag_bd {m : Nat} (h : m < 18446744073709551616) : -9223372036854775808 ≤ zag m ∧ zag m ≤ 9223372036854775807 := by
  unfold zag
  split <;> omega
theorem zig_inj {a b : Int} (h : zig a = zig b) : a = b := by rw [← zag_zig a, h, zag_zig]

/-- The encoding of a string. -/
def encS (s : List UInt8) : List UInt8 := encU s.length ++ s
/-- What String reads: the string, its encoding's length, and the error (0, 3 or 4 stand for none, form and limit). -/
inductive DecS where
  | form
  | limit
  | got (s : List UInt8) (k : Nat)
def decS (l : List UInt8) (limit : Int) : DecS :=
  match decU l with
  | none => .form
  | some (n, k) => if limit < 0 ∨ limit < (n : Int) then .limit else if l.length - k < n then .form else .got ((l.drop k).take n) (k + n)
theorem encS_free {a b : List UInt8} (ha : a.length < 18446744073709551616) (hb : b.length < 18446744073709551616) {r s : List UInt8} (h : encS a ++ r = encS b ++ s) : a = b := by
  unfold encS at h
  rw [List.append_assoc, List.append_assoc] at h
  have e := encU_free ha hb h
  rw [e] at h
  have h2 := List.append_cancel_left h
  exact (List.append_inj h2 e).1
theorem decS_enc {s : List UInt8} (h : s.length < 18446744073709551616) (limit : Int) (hl : (s.length : Int) ≤ limit) (r : List UInt8) : decS (encS s ++ r) limit = .got s (encS s).length := by
  unfold decS encS
  rw [List.append_assoc, decU_enc h]
  simp only
  rw [if_neg (by omega), if_neg (by simp), List.drop_left, List.take_left]
  rw [List.length_append]
end Go.Proofs.YtmhbloefmknikaaGreatDoor
