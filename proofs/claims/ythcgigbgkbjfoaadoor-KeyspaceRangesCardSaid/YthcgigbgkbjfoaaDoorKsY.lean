/-
  Plain facts: both packages' differences are the same. No condition.
-/
import Derived.Test.YthcgigbgkbjfoaaDoorKsX
namespace Go.Proofs.YthcgigbgkbjfoaaDoor
open Go.RowKit

/-- What the reference's Subtract gives. -/
def Rg.subR (a b : Rg) : List Rg := if a.emp then [] else if (a.intK b).emp then [a] else keep [⟨a.lo, (a.intK b).lo⟩, ⟨(a.intK b).hi, a.hi⟩]

theorem keep_cons (r : Rg) (l : List Rg) : keep (r :: l) = (if r.emp then [] else [r]) ++ keep l := by
  unfold keep
  cases h : r.emp <;> simp [h]
theorem keep_nil : keep [] = [] := rfl

theorem subR_eq (a b : Rg) : a.subR b = a.subK b := by
  cases ha : a.emp
  · cases hb : b.emp
    · have h1 := emp_false.1 ha
      have h2 := emp_false.1 hb
      have hS : ∀ y ∈ [a.lo, a.hi, b.lo, b.hi], y.ok = true := by simp [h1.1, h1.2.1, h2.1, h2.2.1]
      generalize hSS : [a.lo, a.hi, b.lo, b.hi] = S at hS
      have m1 : a.lo ∈ S := by rw [← hSS]; simp
      have m2 : a.hi ∈ S := by rw [← hSS]; simp
      have m3 : b.lo ∈ S := by rw [← hSS]; simp
      have m4 : b.hi ∈ S := by rw [← hSS]; simp
      have Ia : In S a := ⟨m1, m2, (emp_rank hS m1 m2).1 ha⟩
      have Ib : In S b := ⟨m3, m4, (emp_rank hS m3 m4).1 hb⟩
      have la := Ia.2.2
      have lb := Ib.2.2
      obtain ⟨p1, p2⟩ := loK_mem hS m2 m3
      obtain ⟨p3, p4⟩ := hiK_mem hS m1 m4
      have hsub : a.subK b = keep [⟨a.lo, a.hi.loK b.lo⟩, ⟨a.lo.hiK b.hi, a.hi⟩] := by unfold Rg.subK; rw [ha, hb]; rfl
      have emp_of : ∀ x y : Bd, x ∈ S → y ∈ S → rank S y ≤ rank S x → Rg.emp ⟨x, y⟩ = true := fun x y hx hy h => by
        cases he : Rg.emp ⟨x, y⟩
        · have := (emp_rank hS (r := ⟨x, y⟩) hx hy).1 he
          simp only at this
          omega
        · rfl
      rw [hsub, keep_cons, keep_cons, keep_nil, List.append_nil]
      unfold Rg.subR
      rw [ha]
      simp only [Bool.false_eq_true, if_false]
      rcases int_spec hS Ia Ib with ⟨k1, k2, k3, k4⟩ | ⟨k1, k2⟩
      · rw [k2.emp hS]
        simp only [Bool.false_eq_true, if_false]
        rw [keep_cons, keep_cons, keep_nil, List.append_nil]
        congr 1
        · by_cases q : rank S a.lo < rank S b.lo
          · have e1 : (a.intK b).lo = b.lo := rank_inj hS k2.1 m3 (by omega)
            have e2 : a.hi.loK b.lo = b.lo := rank_inj hS p1 m3 (by omega)
            rw [e1, e2]
          · rw [emp_of _ _ m1 k2.1 (by omega), emp_of _ _ m1 p1 (by omega)]
            rfl
        · by_cases q : rank S b.hi < rank S a.hi
          · have e1 : (a.intK b).hi = b.hi := rank_inj hS k2.2.1 m4 (by omega)
            have e2 : a.lo.hiK b.hi = b.hi := rank_inj hS p3 m4 (by omega)
            rw [e1, e2]
          · rw [emp_of _ _ k2.2.1 m2 (by omega), emp_of _ _ p3 m2 (by omega)]
            rfl
      · rw [k2, zero_emp]
        rw [if_pos rfl]
        by_cases q : rank S b.hi ≤ rank S a.lo
        · have e2 : a.lo.hiK b.hi = a.lo := rank_inj hS p3 m1 (by omega)
          rw [emp_of _ _ m1 p1 (by omega), e2, ha]
          rfl
        · have e1 : a.hi.loK b.lo = a.hi := rank_inj hS p1 m2 (by omega)
          rw [emp_of _ _ p3 m2 (by omega), e1, ha]
          rfl
    · unfold Rg.subR Rg.subK
      have hz : a.intK b = Rg.zero := by unfold Rg.intK; rw [hb]; simp
      rw [ha, hb, hz, zero_emp, if_pos rfl]
      show [a] = keep [a]
      rw [keep_cons, keep_nil, ha]
      rfl
  · unfold Rg.subR Rg.subK
    rw [ha, if_pos rfl]
    cases b.emp
    · rfl
    · show [] = keep [a]
      rw [keep_cons, keep_nil, ha]
      rfl
end Go.Proofs.YthcgigbgkbjfoaaDoor
