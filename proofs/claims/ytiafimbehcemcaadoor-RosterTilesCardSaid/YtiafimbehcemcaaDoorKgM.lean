/-
  The boundaries of a sorted roster: intervals, what is left of them when a node leaves, that they tile the key space. No condition.
-/
import Derived.Test.YtiafimbehcemcaaDoorKgI
import Derived.Test.YtiafimbehcemcaaDoorKsE
import Derived.Test.YtiafimbehcemcaaDoorKsG
namespace Go.Proofs.YtiafimbehcemcaaDoor
open Go.RowKit

/-- The j-th boundary: the beginning of the key space, the key of a node, its end. -/
def bnd (s : List Nd) (j : Nat) : Bd := if j = 0 then ⟨ByteArray.empty, false⟩ else if j < s.length then ⟨keyAt s j, false⟩ else ⟨ByteArray.empty, true⟩
theorem ivl_bnd {s : List Nd} {k : Nat} (h : k < s.length) : ivlAt s k = ⟨bnd s k, bnd s (k + 1)⟩ := by
  unfold ivlAt bnd
  by_cases h0 : k = 0
  · subst h0
    by_cases h1 : 0 + 1 < s.length
    · simp [show 1 < s.length by omega]
    · simp [show ¬ 1 < s.length by omega]
  · by_cases h1 : k + 1 < s.length
    · simp [h0, h1, h]
    · simp [h0, h1, h]
theorem kl_pos {z y : ByteArray} (h : kl z y = true) : kl ByteArray.empty y = true := by
  cases k : kl ByteArray.empty y
  · exfalso
    rw [kl_iff] at h
    rw [kl_false] at k
    have e : ByteArray.empty.toList = [] := by rw [toList_data]; rfl
    rw [e] at k
    rcases hy : y.toList with _ | ⟨a, t⟩
    · rw [hy] at h
      exact List.not_lt_nil _ h
    · rw [hy] at k
      exact k (List.nil_lt_cons a t)
  · rfl
theorem bnd_lt {s : List Nd} (hs : Asc s) {j k : Nat} (h : j < k) (hk : k ≤ s.length) : (bnd s j).cmp (bnd s k) = -1 ∧ (bnd s k).cmp (bnd s j) = 1 := by
  unfold bnd
  rw [if_neg (show ¬ k = 0 by omega)]
  by_cases h1 : k < s.length
  · rw [if_pos h1]
    by_cases h0 : j = 0
    · subst h0
      rw [if_pos rfl, keyAt_lt h1]
      have := kl_pos (asc_at hs h h1)
      simp [Bd.cmp, this, kl_asymm this]
    · rw [if_neg h0, if_pos (show j < s.length by omega), keyAt_lt h1, keyAt_lt (show j < s.length by omega)]
      have := asc_at hs h h1
      simp [Bd.cmp, this, kl_asymm this]
  · rw [if_neg h1]
    by_cases h0 : j = 0
    · subst h0
      simp [Bd.cmp]
    · rw [if_neg h0, if_pos (show j < s.length by omega)]
      simp [Bd.cmp]
theorem cmp_self (a : Bd) : a.cmp a = 0 := by
  unfold Bd.cmp
  rw [kl_irrefl]
  cases a.top <;> rfl
theorem bnd_ok {s : List Nd} (ho : ∀ x ∈ s, Nd.ok x = true) (j : Nat) : (bnd s j).ok = true := by
  have he : ByteArray.empty.toList = [] := by rw [toList_data]; rfl
  unfold bnd
  by_cases h0 : j = 0
  · rw [if_pos h0]
    simp [Bd.ok, vk]
  · rw [if_neg h0]
    by_cases h1 : j < s.length
    · rw [if_pos h1, keyAt_lt h1]
      have := Nd.ok_vk (ho _ (List.getElem_mem h1))
      simp [Bd.ok, vk]
      omega
    · rw [if_neg h1]
      simp [Bd.ok, he]
theorem bnd_full {s : List Nd} (hs : Asc s) (ho : ∀ x ∈ s, Nd.ok x = true) {j k : Nat} (h : j < k) (hk : k ≤ s.length) : Rg.ok ⟨bnd s j, bnd s k⟩ = true ∧ Rg.emp ⟨bnd s j, bnd s k⟩ = false := by
  have h1 := (bnd_lt hs h hk).1
  have h2 : Rg.ok ⟨bnd s j, bnd s k⟩ = true := by
    unfold Rg.ok
    simp only [bnd_ok ho, h1]
    decide
  refine ⟨h2, ?_⟩
  unfold Rg.emp
  simp only [h2, h1]
  decide

/-- The boundary that goes when the node at p goes, and the node that inherits. -/
def gap (p : Nat) : Nat := if p = 0 then 1 else p
def heir (p : Nat) : Nat := if p = 0 then 1 else p - 1
theorem keyAt_erase (s : List Nd) (p j : Nat) : keyAt (s.eraseIdx p) j = keyAt s (if j < p then j else j + 1) := by
  unfold keyAt
  rw [List.getElem?_eraseIdx]
  split <;> rfl
theorem erase_len {s : List Nd} {p : Nat} (h : p < s.length) : (s.eraseIdx p).length = s.length - 1 := by rw [List.length_eraseIdx, if_pos h]
theorem bnd_erase {s : List Nd} {p : Nat} (hp : p < s.length) (h2 : 2 ≤ s.length) (j : Nat) : bnd (s.eraseIdx p) j = bnd s (if j < gap p then j else j + 1) := by
  unfold bnd gap
  rw [erase_len hp, keyAt_erase]
  by_cases hj : j = 0
  · subst hj
    rw [if_pos rfl, if_pos (show 0 < (if p = 0 then 1 else p) by split <;> omega), if_pos rfl]
  · rw [if_neg hj]
    by_cases hp0 : p = 0
    · subst hp0
      rw [if_pos rfl, if_neg (show ¬ j < 1 by omega), if_neg (show ¬ j < 0 by omega), if_neg (show ¬ j + 1 = 0 by omega)]
      by_cases h : j < s.length - 1
      · rw [if_pos h, if_pos (by omega)]
      · rw [if_neg h, if_neg (by omega)]
    · rw [if_neg hp0]
      by_cases hjp : j < p
      · rw [if_pos hjp, if_neg hj, if_pos (show j < s.length - 1 by omega), if_pos (show j < s.length by omega)]
      · rw [if_neg hjp, if_neg (show ¬ j + 1 = 0 by omega)]
        by_cases h : j < s.length - 1
        · rw [if_pos h, if_pos (by omega)]
        · rw [if_neg h, if_neg (by omega)]
/-- Where the node at i stands when the one at p is gone. -/
def pos (p i : Nat) : Nat := if i < p then i else i - 1
theorem hull_bnd {s : List Nd} (hs : Asc s) (ho : ∀ x ∈ s, Nd.ok x = true) {p : Nat} (hp : p < s.length) (h2 : 2 ≤ s.length) :
    Rg.hulK (ivlAt s (heir p)) (ivlAt s p) = ivlAt (s.eraseIdx p) (pos p (heir p)) := by
  have hl := erase_len hp
  by_cases hp0 : p = 0
  · subst hp0
    have e1 : heir 0 = 1 := rfl
    have e2 : pos 0 1 = 0 := rfl
    rw [e1, e2, ivl_bnd (show 0 < (s.eraseIdx 0).length by omega), ivl_bnd (show 1 < s.length by omega), ivl_bnd (show 0 < s.length by omega), bnd_erase hp h2, bnd_erase hp h2]
    have e3 : (if 0 < gap 0 then 0 else 0 + 1) = 0 := rfl
    have e4 : (if 0 + 1 < gap 0 then 0 + 1 else 0 + 1 + 1) = 2 := rfl
    rw [e3, e4]
    unfold Rg.hulK
    rw [(bnd_full hs ho (show 1 < 1 + 1 by omega) (by omega)).2, (bnd_full hs ho (show 0 < 0 + 1 by omega) (by omega)).2]
    simp only [Bool.false_eq_true, if_false]
    unfold Bd.loK Bd.hiK
    rw [(bnd_lt hs (show 0 < 1 by omega) (by omega)).1, (bnd_lt hs (show 0 + 1 < 1 + 1 by omega) (by omega)).1]
    rfl
  · have e1 : heir p = p - 1 := if_neg hp0
    have e2 : pos p (p - 1) = p - 1 := if_pos (by omega)
    rw [e1, e2, ivl_bnd (show p - 1 < (s.eraseIdx p).length by omega), ivl_bnd (show p - 1 < s.length by omega), ivl_bnd hp, bnd_erase hp h2, bnd_erase hp h2]
    have eg : gap p = p := if_neg hp0
    rw [eg, if_pos (show p - 1 < p by omega), if_neg (show ¬ p - 1 + 1 < p by omega), show p - 1 + 1 = p by omega]
    unfold Rg.hulK
    rw [(bnd_full hs ho (show p - 1 < p by omega) (by omega)).2, (bnd_full hs ho (show p < p + 1 by omega) (by omega)).2]
    simp only [Bool.false_eq_true, if_false]
    unfold Bd.loK Bd.hiK
    rw [(bnd_lt hs (show p - 1 < p by omega) (by omega)).2, (bnd_lt hs (show p < p + 1 by omega) (by omega)).2]
    rfl
theorem same_bnd {s : List Nd} {p i : Nat} (hp : p < s.length) (h2 : 2 ≤ s.length) (hi : i < s.length) (h1 : i ≠ p) (h3 : i ≠ heir p) : ivlAt (s.eraseIdx p) (pos p i) = ivlAt s i := by
  have hl := erase_len hp
  unfold heir at h3
  unfold pos
  by_cases hip : i < p
  · rw [if_pos hip, ivl_bnd (by omega), ivl_bnd hi, bnd_erase hp h2, bnd_erase hp h2]
    unfold gap
    rw [if_neg (show ¬ p = 0 by omega)] at h3 ⊢
    rw [if_pos (by omega), if_pos (by omega)]
  · rw [if_neg hip, ivl_bnd (by omega), ivl_bnd hi, bnd_erase hp h2, bnd_erase hp h2]
    unfold gap
    by_cases hp0 : p = 0
    · rw [if_pos hp0] at h3 ⊢
      rw [if_neg (by omega), if_neg (by omega), show i - 1 + 1 = i by omega]
    · rw [if_neg hp0]
      rw [if_neg (by omega), if_neg (by omega), show i - 1 + 1 = i by omega]
/-- Two intervals of a roster have no key in common. -/
theorem orz_emp (r : Rg) : (Rg.orZ r).emp = r.emp := by
  unfold Rg.orZ
  cases h : r.emp
  · simp [h]
  · simp [Rg.zero, Rg.emp, cmp_self]
theorem apart_bnd {s : List Nd} (hs : Asc s) (ho : ∀ x ∈ s, Nd.ok x = true) {p : Nat} (hp : p < s.length) (h2 : 2 ≤ s.length) : (Rg.intK (ivlAt s (heir p)) (ivlAt s p)).emp = true := by
  have two : ∀ {i j : Nat}, i < s.length → j < s.length → (∃ q, q ≤ s.length ∧ (Rg.intK (ivlAt s i) (ivlAt s j)) = Rg.orZ ⟨bnd s q, bnd s q⟩) → (Rg.intK (ivlAt s i) (ivlAt s j)).emp = true := fun _ _ ⟨q, _, e⟩ => by
    rw [e, orz_emp]
    simp [Rg.emp, cmp_self]
  by_cases hp0 : p = 0
  · subst hp0
    have e1 : heir 0 = 1 := rfl
    rw [e1]
    refine two (by omega) (by omega) ⟨1, by omega, ?_⟩
    rw [ivl_bnd (show 1 < s.length by omega), ivl_bnd (show 0 < s.length by omega)]
    unfold Rg.intK
    rw [(bnd_full hs ho (show 1 < 1 + 1 by omega) (by omega)).2, (bnd_full hs ho (show 0 < 0 + 1 by omega) (by omega)).2]
    simp only [Bool.or_self, Bool.false_eq_true, if_false]
    unfold Bd.loK Bd.hiK
    rw [(bnd_lt hs (show 0 < 1 by omega) (by omega)).1, (bnd_lt hs (show 0 + 1 < 1 + 1 by omega) (by omega)).1]
    rfl
  · have e1 : heir p = p - 1 := if_neg hp0
    rw [e1]
    refine two (by omega) (by omega) ⟨p, by omega, ?_⟩
    rw [ivl_bnd (show p - 1 < s.length by omega), ivl_bnd hp]
    unfold Rg.intK
    rw [(bnd_full hs ho (show p - 1 < p - 1 + 1 by omega) (by omega)).2, (bnd_full hs ho (show p < p + 1 by omega) (by omega)).2]
    simp only [Bool.or_self, Bool.false_eq_true, if_false]
    unfold Bd.loK Bd.hiK
    rw [(bnd_lt hs (show p - 1 < p by omega) (by omega)).2, show p - 1 + 1 = p by omega, (bnd_lt hs (show p < p + 1 by omega) (by omega)).2]
    rfl
/-- The intervals tile the key space. -/
def wholeR : Rg := ⟨⟨ByteArray.empty, false⟩, ⟨ByteArray.empty, true⟩⟩
def tilesOf (s : List Nd) : List Rg := (List.range s.length).map (ivlAt s)
theorem tilesOf_len (s : List Nd) : (tilesOf s).length = s.length := by simp [tilesOf]
theorem tilesOf_at {s : List Nd} {i : Nat} (h : i < (tilesOf s).length) : (tilesOf s)[i] = ivlAt s i := by simp [tilesOf]
theorem bnd_zero (s : List Nd) : bnd s 0 = ⟨ByteArray.empty, false⟩ := rfl
theorem bnd_end {s : List Nd} (h0 : s ≠ []) : bnd s s.length = ⟨ByteArray.empty, true⟩ := by
  have : s.length ≠ 0 := fun e => h0 (List.eq_nil_of_length_eq_zero e)
  unfold bnd
  rw [if_neg this, if_neg (Nat.lt_irrefl _)]
theorem tile_bnd {s : List Nd} (hs : Asc s) (ho : ∀ x ∈ s, Nd.ok x = true) {k : Nat} (h : k < s.length) : tileK (ivlAt s k) (bnd s k) (bnd s s.length) = 0 := by
  have hc : (bnd s (k + 1)).cmp (bnd s s.length) ≤ 0 := by
    rcases Nat.lt_or_ge (k + 1) s.length with h1 | h1
    · rw [(bnd_lt hs h1 (Nat.le_refl _)).1]; decide
    · rw [show k + 1 = s.length by omega, cmp_self]; decide
  rw [ivl_bnd h]
  unfold tileK
  rw [(bnd_full hs ho (show k < k + 1 by omega) (by omega)).2]
  simp only [cmp_self]
  have hc' : ¬ 0 < (bnd s (k + 1)).cmp (bnd s s.length) := by omega
  simp [hc']
theorem tilesF_bnd {s : List Nd} (hs : Asc s) (ho : ∀ x ∈ s, Nd.ok x = true) : ∀ (m k : Nat), k + m = s.length → tilesF ((tilesOf s).drop k) k (bnd s k) (bnd s s.length) = (s.length, 0)
  | 0, k, h => by
    rw [tilesF_end (by rw [tilesOf_len]; omega), show k = s.length by omega, cmp_self]
    rfl
  | m + 1, k, h => by
    have hk : k < (tilesOf s).length := by rw [tilesOf_len]; omega
    rw [tilesF_at hk, tilesOf_at hk, tile_bnd hs ho (by omega), if_pos rfl]
    rw [show (ivlAt s k).hi = bnd s (k + 1) by rw [ivl_bnd (by omega)]]
    exact tilesF_bnd hs ho m (k + 1) (by omega)
theorem tiles_whole {s : List Nd} (hs : Asc s) (ho : ∀ x ∈ s, Nd.ok x = true) (h0 : s ≠ []) : tilesK (tilesOf s) wholeR = (s.length, 0) := by
  have hl : s.length ≠ 0 := fun e => h0 (List.eq_nil_of_length_eq_zero e)
  have h1 : wholeR = ⟨bnd s 0, bnd s s.length⟩ := by rw [bnd_zero, bnd_end h0]; rfl
  unfold tilesK
  rw [h1, if_pos (bnd_full hs ho (show 0 < s.length by omega) (Nat.le_refl _)).1]
  exact tilesF_bnd hs ho s.length 0 (by omega)
theorem cmp_le_iff (a b : ByteArray) : Bd.cmp ⟨a, false⟩ ⟨b, false⟩ ≤ 0 ↔ kl b a = false := by
  simp only [Bd.cmp]
  cases h : kl a b
  · cases k : kl b a <;> simp
  · simp [kl_asymm h]
theorem cmp_lt_iff (a b : ByteArray) : Bd.cmp ⟨a, false⟩ ⟨b, false⟩ < 0 ↔ kl a b = true := by
  simp only [Bd.cmp]
  cases h : kl a b
  · cases k : kl b a <;> simp
  · simp
/-- A key is in the interval of its owner and in no other one. -/
theorem has_bnd {s : List Nd} (hs : Asc s) (ho : ∀ x ∈ s, Nd.ok x = true) {key : ByteArray} (hk : vk key = true) {i : Nat} (hi : i < s.length) : (ivlAt s i).has key = decide (i = abv s key - 1) := by
  rw [ivl_bnd hi]
  unfold Rg.has
  rw [(bnd_full hs ho (show i < i + 1 by omega) (by omega)).2, hk]
  have hal := abv_le s key
  have h1 : (bnd s i).cmp ⟨key, false⟩ ≤ 0 ↔ (i = 0 ∨ i < abv s key) := by
    unfold bnd
    by_cases h0 : i = 0
    · subst h0
      rw [if_pos rfl, cmp_le_iff, kl_false, toList_data]
      exact ⟨fun _ => .inl rfl, fun _ => List.nil_le _⟩
    · rw [if_neg h0, if_pos hi, keyAt_lt hi, cmp_le_iff]
      constructor
      · intro h
        refine .inr ?_
        rcases Nat.lt_or_ge i (abv s key) with h2 | h2
        · exact h2
        · rw [abv_hi hs hi h2] at h; cases h
      · rintro (h | h)
        · exact absurd h h0
        · exact abv_lo h
  have h2 : Bd.cmp ⟨key, false⟩ (bnd s (i + 1)) < 0 ↔ abv s key ≤ i + 1 := by
    unfold bnd
    rw [if_neg (show ¬ i + 1 = 0 by omega)]
    by_cases h3 : i + 1 < s.length
    · rw [if_pos h3, keyAt_lt h3, cmp_lt_iff]
      constructor
      · intro h
        rcases Nat.lt_or_ge (i + 1) (abv s key) with h2 | h2
        · rw [abv_lo h2] at h; cases h
        · exact h2
      · exact fun h => abv_hi hs h3 h
    · rw [if_neg h3]
      exact ⟨fun _ => by omega, fun _ => by simp [Bd.cmp]⟩
  simp only [h1, h2]
  rw [Bool.eq_iff_iff]
  simp
  omega
end Go.Proofs.YtiafimbehcemcaaDoor
