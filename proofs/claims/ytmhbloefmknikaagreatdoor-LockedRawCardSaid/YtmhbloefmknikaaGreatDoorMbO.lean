/-
  Check of the reference of chapter 11, plain: what its loops ask.
-/
import Derived.Test.YtmhbloefmknikaaGreatDoorLzQ
namespace Go.Proofs.YtmhbloefmknikaaGreatDoor
open Go.RowKit Go.Maps
namespace Lk
def rcA (l : Ls) (ch : List Nat) (i : Nat) : Prop := ((l.at_ i).gone = false → i ∈ ch) ∧ ((l.at_ i).gone = true → i ∈ ch → unlB l i = true)
def rcOk (l : Ls) (ch : List Nat) (i : Nat) : Prop := rcA l ch i ∧ ∀ p, p < l.ps.length → lhOk l i p
theorem vldB_as (l : Ls) : vldB l = true ↔ Vld l := by
  constructor
  · intro q
    by_cases v : Vld l
    · exact v
    · rw [vldB_no v] at q; cases q
  · exact vldB_yes
theorem rc_bool (l : Ls) (ch : List Nat) (i : Nat) : ((if (l.at_ i).gone then !ch.contains i || unlB l i else ch.contains i) = true) ↔ rcA l ch i := by
  unfold rcA
  cases (l.at_ i).gone <;> simp
  by_cases h : i ∈ ch <;> simp [h]
theorem lh_bool (l : Ls) (i p : Nat) : ((holdB (l.pr p) i == decide ((l.at_ i).lock = (p : Int) + 1)) = true) ↔ lhOk l i p := by
  unfold lhOk
  cases holdB (l.pr p) i <;> simp
theorem rchk_iff (l : Ls) : chkB l = true ↔ Vld l ∧ (l.at_ 0).gone = false ∧ (l.at_ 1).gone = false ∧ ∃ ch, chnV l l.cs.length 0 = some ch ∧ (∀ i, i < l.cs.length → rcOk l ch i) ∧ ((∃ i, i < l.cs.length ∧ (l.at_ i).lock ≠ 0) ∨ bckB l ch = true) := by
  unfold chkB
  cases hc : chnV l l.cs.length 0 with
  | none =>
    simp
  | some ch =>
    simp only [Bool.and_eq_true, Bool.or_eq_true, List.all_eq_true, List.mem_range, vldB_as, rc_bool, lh_bool, Bool.not_eq_true']
    have hl : ((l.cs.all fun c => decide (c.lock = 0)) = false) ↔ ∃ i, i < l.cs.length ∧ (l.at_ i).lock ≠ 0 := by
      rw [List.all_eq_false]
      constructor
      · rintro ⟨x, hx, h⟩
        obtain ⟨i, hi, rfl⟩ := List.mem_iff_getElem.1 hx
        exact ⟨i, hi, by rw [← l.at_lt hi]; simpa using h⟩
      · rintro ⟨i, hi, h⟩
        exact ⟨l.at_ i, by rw [← l.at_lt hi]; exact List.getElem_mem _, by simpa using h⟩
    rw [hl]
    constructor
    · rintro ⟨⟨⟨v, g0⟩, g1⟩, h1, h2⟩
      exact ⟨v, g0, g1, ch, rfl, h1, h2⟩
    · rintro ⟨v, g0, g1, ch', e, h1, h2⟩
      obtain rfl := Option.some.inj e
      exact ⟨⟨⟨v, g0⟩, g1⟩, h1, h2⟩
end Lk
end Go.Proofs.YtmhbloefmknikaaGreatDoor
