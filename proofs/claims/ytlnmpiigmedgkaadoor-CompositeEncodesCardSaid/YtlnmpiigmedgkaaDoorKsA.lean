/-
  Plain facts: the least string above all strings that begin with p, and which strings lie from p up to there. No condition.
-/
import Derived.Test.YtlnmpiigmedgkaaDoorKsQ
namespace Go.Proofs.YtlnmpiigmedgkaaDoor
open Go.RowKit

/-- The least list above all lists that begin with p; none if p is of bytes 255 alone. -/
def aft : List UInt8 → Option (List UInt8)
  | [] => none
  | c :: l => match aft l with
    | some t => some (c :: t)
    | none => if c = 255 then none else some [c + 1]

theorem aft_none {p : List UInt8} (h : aft p = none) : ∀ x : List UInt8, p ≤ x ↔ p <+: x := by
  induction p with
  | nil => intro x; simp
  | cons c l ih =>
    intro x
    unfold aft at h
    cases h1 : aft l with
    | some t => rw [h1] at h; cases h
    | none =>
      rw [h1] at h
      have hc : c = 255 := by
        by_cases hc : c = 255
        · exact hc
        · simp [hc] at h
      cases x with
      | nil => simp
      | cons d y =>
        rw [List.cons_prefix_cons, ← ih h1 y, List.cons_le_cons_iff]
        have : ¬ c < d := by
          subst hc
          intro k
          have k1 : (255 : UInt8).toNat < d.toNat := UInt8.lt_iff_toNat_lt.1 k
          have k2 := d.toNat_lt
          have k3 : (255 : UInt8).toNat = 255 := rfl
          omega
        simp [this]

theorem aft_some {p u : List UInt8} (h : aft p = some u) : ∀ x : List UInt8, (p ≤ x ∧ x < u) ↔ p <+: x := by
  induction p generalizing u with
  | nil => cases h
  | cons c l ih =>
    intro x
    unfold aft at h
    cases h1 : aft l with
    | some t =>
      rw [h1] at h
      injection h with h
      subst h
      cases x with
      | nil => simp
      | cons d y =>
        rw [List.cons_prefix_cons, ← ih h1 y, List.cons_le_cons_iff, List.cons_lt_cons_iff]
        constructor
        · rintro ⟨k1 | ⟨rfl, k1⟩, k2 | ⟨k2, k3⟩⟩
          · exact absurd (UInt8.lt_trans k1 k2) (UInt8.lt_irrefl _)
          · subst k2; exact absurd k1 (UInt8.lt_irrefl _)
          · exact absurd k2 (UInt8.lt_irrefl _)
          · exact ⟨rfl, k1, k3⟩
        · rintro ⟨rfl, k1, k2⟩
          exact ⟨.inr ⟨rfl, k1⟩, .inr ⟨rfl, k2⟩⟩
    | none =>
      rw [h1] at h
      by_cases hc : c = 255
      · simp [hc] at h
      · simp [hc] at h
        subst h
        have hn : (c + 1).toNat = c.toNat + 1 := by
          have h1 : c.toNat ≠ 255 := fun e => hc (UInt8.toNat_inj.1 (by rw [e]; rfl))
          have h2 := c.toNat_lt
          rw [UInt8.toNat_add]
          have : (1 : UInt8).toNat = 1 := rfl
          omega
        cases x with
        | nil => simp
        | cons d y =>
          rw [List.cons_prefix_cons, ← aft_none h1 y, List.cons_le_cons_iff, List.cons_lt_cons_iff]
          constructor
          · rintro ⟨k1 | ⟨rfl, k1⟩, k2 | ⟨k2, k3⟩⟩
            · have k1' := UInt8.lt_iff_toNat_lt.1 k1
              have k2' := UInt8.lt_iff_toNat_lt.1 k2
              omega
            · exact absurd k3 (List.not_lt_nil _)
            · exact ⟨rfl, k1⟩
            · exact ⟨rfl, k1⟩
          · rintro ⟨rfl, k1⟩
            exact ⟨.inr ⟨rfl, k1⟩, .inl (UInt8.lt_iff_toNat_lt.2 (by omega))⟩

theorem aft_all {l : List UInt8} (h : aft l = none) : aft (255 :: l) = none := by unfold aft; rw [h]; rfl
theorem aft_last {l1 l2 : List UInt8} {c : UInt8} (h : aft l2 = none) (hc : c ≠ 255) : aft (l1 ++ c :: l2) = some (l1 ++ [c + 1]) := by
  induction l1 with
  | nil =>
    show (match aft l2 with | some t => some (c :: t) | none => if c = 255 then none else some [c + 1]) = _
    rw [h]
    simp [hc]
  | cons d l1 ih =>
    show aft (d :: (l1 ++ c :: l2)) = _
    unfold aft
    rw [ih]
    rfl
theorem aft_len {p u : List UInt8} (h : aft p = some u) : u.length ≤ p.length := by
  induction p generalizing u with
  | nil => cases h
  | cons c l ih =>
    unfold aft at h
    cases h1 : aft l with
    | some t => rw [h1] at h; injection h with h; subst h; have := ih h1; simp; omega
    | none =>
      rw [h1] at h
      by_cases hc : c = 255
      · simp [hc] at h
      · simp [hc] at h; subst h; simp

/-- The bound above all strings that begin with p, and the range of these. -/
def aftB (p : ByteArray) : Bd := match aft p.data.toList with
  | none => ⟨ByteArray.empty, true⟩
  | some u => ⟨⟨u.toArray⟩, false⟩
def Rg.pre (p : ByteArray) : Rg := if vk p then ⟨⟨p, false⟩, aftB p⟩ else Rg.zero

theorem aftB_ok {p : ByteArray} (h : vk p = true) : (aftB p).ok = true := by
  unfold aftB
  cases h1 : aft p.data.toList with
  | none => simp [Bd.ok, toList_data]
  | some u =>
    have h2 := aft_len h1
    unfold vk at h
    have h3 : p.size ≤ 64 := of_decide_eq_true h
    have h4 : p.data.toList.length = p.size := rfl
    simp [Bd.ok, vk, ByteArray.size]
    omega

/-- Which keys the range of a string has. -/
theorem pre_has {p x : ByteArray} (h : vk p = true) : (Rg.pre p).has x = (vk x && decide (p.data.toList <+: x.data.toList)) := by
  unfold Rg.pre
  rw [if_pos h]
  have hcmp : ∀ a b : ByteArray, Bd.cmp ⟨a, false⟩ ⟨b, false⟩ ≤ 0 ↔ a.data.toList ≤ b.data.toList := fun a b => by
    have hk : kl b a = true ↔ b.data.toList < a.data.toList := by rw [kl_iff, toList_data, toList_data]
    have hk2 : kl a b = true ↔ a.data.toList < b.data.toList := by rw [kl_iff, toList_data, toList_data]
    rw [← List.not_lt, ← hk]
    simp only [Bd.cmp, Bool.false_eq_true, if_false]
    cases h1 : kl a b <;> cases h2 : kl b a <;> simp
    have := kl_asymm h1
    rw [h2] at this
    cases this
  have hlt : ∀ a b : ByteArray, Bd.cmp ⟨a, false⟩ ⟨b, false⟩ < 0 ↔ a.data.toList < b.data.toList := fun a b => by
    have := hcmp b a
    have hs := cmp_swap ⟨a, false⟩ ⟨b, false⟩
    rw [← List.not_le, ← this]
    omega
  have key : ∀ x : ByteArray, (Bd.cmp ⟨p, false⟩ ⟨x, false⟩ ≤ 0 ∧ Bd.cmp ⟨x, false⟩ (aftB p) < 0) ↔ p.data.toList <+: x.data.toList := fun x => by
    rw [hcmp]
    unfold aftB
    cases h1 : aft p.data.toList with
    | none =>
      rw [← aft_none h1]
      have : Bd.cmp ⟨x, false⟩ ⟨ByteArray.empty, true⟩ = -1 := rfl
      simp [this]
    | some u =>
      rw [← aft_some h1, hlt]
  have hemp : Rg.emp ⟨⟨p, false⟩, aftB p⟩ = false := by
    unfold Rg.emp Rg.ok
    have h2 := (key p).2 (List.prefix_refl _)
    have h3 : Bd.ok ⟨p, false⟩ = true := h
    rw [aftB_ok h, h3]
    have : Bd.cmp ⟨p, false⟩ (aftB p) < 0 := h2.2
    simp
    omega
  unfold Rg.has
  rw [hemp]
  have k := key x
  rw [Bool.eq_iff_iff]
  simp
  constructor
  · rintro ⟨⟨k1, k2⟩, k3⟩
    exact ⟨k1, k.1 ⟨k2, k3⟩⟩
  · rintro ⟨k1, k2⟩
    have := k.2 k2
    exact ⟨⟨k1, this.1⟩, this.2⟩
end Go.Proofs.YtlnmpiigmedgkaaDoor
