/-
  Plain facts: which keys intersections, hulls and differences contain. No condition.
-/
import Derived.Test.YtofandkijmbplaaDoorKsR
import Derived.Test.YtofandkijmbplaaDoorKsI
namespace Go.Proofs.YtofandkijmbplaaDoor
open Go.RowKit

theorem has_emp {r : Rg} (h : r.emp = true) (x : ByteArray) : r.has x = false := by unfold Rg.has; rw [h]; rfl
theorem has_vk {r : Rg} {x : ByteArray} (h : vk x = false) : r.has x = false := by unfold Rg.has; rw [h]; simp
theorem orz_id {r : Rg} (h : r.emp = false) : r.orZ = r := by unfold Rg.orZ; rw [h]; rfl

section
variable {S : List Bd} (hS : ∀ x ∈ S, x.ok = true) {x : ByteArray}
include hS
theorem has_rank {r : Rg} (hl : r.lo ∈ S) (hh : r.hi ∈ S) (hx : (⟨x, false⟩ : Bd) ∈ S) : (r.has x = true) ↔ (rank S r.lo ≤ rank S ⟨x, false⟩ ∧ rank S ⟨x, false⟩ < rank S r.hi) := by
  have h1 := rank_cmp hS hl hx
  have h2 := rank_cmp hS hx hh
  have he := emp_rank hS hl hh
  have hv : vk x = true := hS _ hx
  unfold Rg.has
  rw [hv]
  cases hr : r.emp
  · simp
    constructor
    · rintro ⟨k1, k2⟩
      exact ⟨by have := mt h1.2.2.2; omega, h2.1.1 k2⟩
    · rintro ⟨k1, k2⟩
      exact ⟨by have := mt h1.2.2.1; omega, h2.1.2 k2⟩
  · simp
    intro k1
    have := mt he.2 (by rw [hr]; simp)
    omega
end

theorem flat_at (l : List Rg) (i : Nat) (hi : i < l.length) (j : Nat) (hj : j < 4) : (flat l)[i * 4 + j]? = ([.string l[i].lo.key, .bool l[i].lo.top, .string l[i].hi.key, .bool l[i].hi.top] : List Value)[j]? := by
  induction l generalizing i with
  | nil => simp at hi
  | cons x l ih =>
    show ([Value.string x.lo.key, .bool x.lo.top, .string x.hi.key, .bool x.hi.top] ++ flat l)[i * 4 + j]? = _
    cases i with
    | zero =>
      rw [List.getElem?_append_left (by simp; omega)]
      simp
    | succ i =>
      rw [List.getElem?_append_right (by simp; omega)]
      have := ih i (by simpa using hi)
      have e : (i + 1) * 4 + j - [Value.string x.lo.key, .bool x.lo.top, .string x.hi.key, .bool x.hi.top].length = i * 4 + j := by simp; omega
      rw [e]
      exact this

theorem subK_len (a b : Rg) : (a.subK b).length ≤ 2 := by
  unfold Rg.subK
  split
  · exact Nat.le_trans (keep_le _) (by simp)
  · split
    · simp
    · exact keep_le _

/-- How many of l contain x. -/
def cnt (l : List Rg) (x : ByteArray) : Nat := l.countP fun r => r.has x
theorem cnt_keep (l : List Rg) (x : ByteArray) : cnt (keep l) x = cnt l x := by
  unfold cnt keep
  rw [List.countP_filter]
  congr 1
  funext r
  cases he : r.emp
  · simp
  · simp [has_emp he]

/-- What KeyspacePoints asks. -/
theorem points (a b : Rg) (x : ByteArray) : (a.intK b).has x = (a.has x && b.has x) ∧ ((a.has x || b.has x) = true → (a.hulK b).has x = true) ∧ (cnt (a.subK b) x = if (a.has x && !b.has x) = true then 1 else 0) := by
  cases hv : vk x
  · rw [has_vk hv, has_vk hv, has_vk hv]
    refine ⟨rfl, by simp, ?_⟩
    unfold cnt
    rw [List.countP_eq_zero.2 (fun r _ => by rw [has_vk hv]; simp)]
    rfl
  cases ha : a.emp
  · cases hb : b.emp
    · have h1 := emp_false.1 ha
      have h2 := emp_false.1 hb
      have hS : ∀ y ∈ [a.lo, a.hi, b.lo, b.hi, (⟨x, false⟩ : Bd)], y.ok = true := by
        have hx : Bd.ok ⟨x, false⟩ = true := hv
        simp [h1.1, h1.2.1, h2.1, h2.2.1, hx]
      generalize hSS : [a.lo, a.hi, b.lo, b.hi, (⟨x, false⟩ : Bd)] = S at hS
      have m1 : a.lo ∈ S := by rw [← hSS]; simp
      have m2 : a.hi ∈ S := by rw [← hSS]; simp
      have m3 : b.lo ∈ S := by rw [← hSS]; simp
      have m4 : b.hi ∈ S := by rw [← hSS]; simp
      have m5 : (⟨x, false⟩ : Bd) ∈ S := by rw [← hSS]; simp
      have Ia : In S a := ⟨m1, m2, (emp_rank hS m1 m2).1 ha⟩
      have Ib : In S b := ⟨m3, m4, (emp_rank hS m3 m4).1 hb⟩
      have la := Ia.2.2
      have lb := Ib.2.2
      have ka := has_rank hS m1 m2 m5
      have kb := has_rank hS m3 m4 m5
      refine ⟨?_, ?_, ?_⟩
      · rw [Bool.eq_iff_iff, Bool.and_eq_true, ka, kb]
        rcases int_spec hS Ia Ib with ⟨k1, k2, k3, k4⟩ | ⟨k1, k2⟩
        · rw [has_rank hS k2.1 k2.2.1 m5]; omega
        · rw [k2, has_emp zero_emp]
          constructor
          · intro e; cases e
          · intro e; omega
      · obtain ⟨k2, k3, k4⟩ := hul_spec hS Ia Ib
        rw [Bool.or_eq_true, ka, kb, has_rank hS k2.1 k2.2.1 m5]
        omega
      · obtain ⟨p1, p2⟩ := loK_mem hS m2 m3
        obtain ⟨p3, p4⟩ := hiK_mem hS m1 m4
        have kp := has_rank hS (r := ⟨a.lo, a.hi.loK b.lo⟩) m1 p1 m5
        have kq := has_rank hS (r := ⟨a.lo.hiK b.hi, a.hi⟩) p3 m2 m5
        have hsub : a.subK b = keep [⟨a.lo, a.hi.loK b.lo⟩, ⟨a.lo.hiK b.hi, a.hi⟩] := by unfold Rg.subK; rw [ha, hb]; rfl
        rw [hsub, cnt_keep]
        unfold cnt
        rw [List.countP_cons, List.countP_cons, List.countP_nil]
        have e1 : (a.has x && !b.has x) = true ↔ (rank S a.lo ≤ rank S ⟨x, false⟩ ∧ rank S ⟨x, false⟩ < rank S a.hi) ∧ ¬ (rank S b.lo ≤ rank S ⟨x, false⟩ ∧ rank S ⟨x, false⟩ < rank S b.hi) := by
          rw [Bool.and_eq_true, ka, Bool.not_eq_true', ← Bool.not_eq_true, kb]
        by_cases q1 : (Rg.has ⟨a.lo, a.hi.loK b.lo⟩ x) = true <;> by_cases q2 : (Rg.has ⟨a.lo.hiK b.hi, a.hi⟩ x) = true <;> by_cases q3 : (a.has x && !b.has x) = true <;> simp only [q1, q2, q3, if_true, if_false, Bool.false_eq_true] <;> (have k1 := kp; have k2 := kq; simp only at k1 k2; rw [k1] at q1; rw [k2] at q2; rw [e1] at q3; omega)
    · have hsub : a.subK b = [a] := by unfold Rg.subK; rw [hb]; show keep [a] = [a]; unfold keep; simp [ha]
      refine ⟨?_, ?_, ?_⟩
      · unfold Rg.intK; rw [ha, hb, has_emp hb]; simp; exact has_emp zero_emp x
      · unfold Rg.hulK; rw [ha, hb, has_emp hb]; simp
      · rw [hsub, has_emp hb]
        unfold cnt
        rw [List.countP_cons, List.countP_nil]
        simp
  · have hsub : a.subK b = [] := by
      unfold Rg.subK
      rw [ha]
      cases b.emp
      · rfl
      · show keep [a] = []; unfold keep; simp [ha]
    refine ⟨?_, ?_, ?_⟩
    · unfold Rg.intK; rw [ha, has_emp ha]; simp; exact has_emp zero_emp x
    · rw [has_emp ha]
      unfold Rg.hulK
      rw [ha]
      cases hb : b.emp
      · rw [if_pos rfl, orz_id hb]; simp
      · rw [has_emp hb]; simp
    · rw [hsub, has_emp ha]
      rfl
end Go.Proofs.YtofandkijmbplaaDoor
