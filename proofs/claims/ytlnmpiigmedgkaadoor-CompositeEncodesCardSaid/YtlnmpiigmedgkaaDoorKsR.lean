/-
  Plain facts: both packages' intersections and hulls are the same; what they are by ranks; and the laws of the lattice. No condition.
-/
import Derived.Test.YtlnmpiigmedgkaaDoorKsQ
namespace Go.Proofs.YtlnmpiigmedgkaaDoor
open Go.RowKit

theorem hiR_eq (a b : Bd) : a.hiR b = a.hiK b := by
  unfold Bd.hiR Bd.hiK
  have := cmp_swap a b
  by_cases h : 0 ≤ a.cmp b
  · rw [if_pos h, if_neg (by omega)]
  · rw [if_neg h, if_pos (by omega)]
theorem loR_eq (a b : Bd) : a.loR b = a.loK b := by
  unfold Bd.loR Bd.loK
  have := cmp_swap a b
  by_cases h : a.cmp b ≤ 0
  · rw [if_pos h, if_neg (by omega)]
  · rw [if_neg h, if_pos (by omega)]
theorem intR_eq (a b : Rg) : a.intR b = a.intK b := by unfold Rg.intR Rg.intK; rw [hiR_eq, loR_eq]
theorem hulR_eq (a b : Rg) : a.hulR b = a.hulK b := by unfold Rg.hulR Rg.hulK; rw [hiR_eq, loR_eq]

theorem zero_emp : Rg.zero.emp = true := by
  have h : Rg.zero.lo.cmp Rg.zero.hi = 0 := cmp_self _
  unfold Rg.emp
  rw [h]
  simp
theorem emp_false {x : Rg} : x.emp = false ↔ x.lo.ok = true ∧ x.hi.ok = true ∧ x.lo.cmp x.hi < 0 := by
  unfold Rg.emp Rg.ok
  cases x.lo.ok <;> cases x.hi.ok <;> simp
  omega

section
variable {S : List Bd} (hS : ∀ x ∈ S, x.ok = true) {x y : Bd}
include hS
theorem hiK_mem (hx : x ∈ S) (hy : y ∈ S) : x.hiK y ∈ S ∧ rank S (x.hiK y) = max (rank S x) (rank S y) := by
  have h := rank_cmp hS hy hx
  unfold Bd.hiK
  split
  · exact ⟨hy, by have := h.2.2.1 (by assumption); omega⟩
  · exact ⟨hx, by have := mt h.2.2.2 (by assumption); omega⟩
theorem loK_mem (hx : x ∈ S) (hy : y ∈ S) : x.loK y ∈ S ∧ rank S (x.loK y) = min (rank S x) (rank S y) := by
  have h := rank_cmp hS hy hx
  unfold Bd.loK
  split
  · exact ⟨hy, by have := h.1.1 (by assumption); omega⟩
  · exact ⟨hx, by have := mt h.1.2 (by assumption); omega⟩
theorem emp_rank {r : Rg} (hl : r.lo ∈ S) (hh : r.hi ∈ S) : r.emp = false ↔ rank S r.lo < rank S r.hi := by
  rw [emp_false]
  have h := rank_cmp hS hl hh
  exact ⟨fun k => h.1.1 k.2.2, fun k => ⟨hS _ hl, hS _ hh, h.1.2 k⟩⟩
/-- A range of S that is not Empty. -/
def In (S : List Bd) (r : Rg) : Prop := r.lo ∈ S ∧ r.hi ∈ S ∧ rank S r.lo < rank S r.hi
theorem In.emp {r : Rg} (h : In S r) : r.emp = false := (emp_rank hS h.1 h.2.1).2 h.2.2
theorem rg_ext {r q : Rg} (hr : In S r) (hq : In S q) (h1 : rank S r.lo = rank S q.lo) (h2 : rank S r.hi = rank S q.hi) : r = q := by
  obtain ⟨rl, rh⟩ := r
  obtain ⟨ql, qh⟩ := q
  have e1 : rl = ql := rank_inj hS hr.1 hq.1 h1
  have e2 : rh = qh := rank_inj hS hr.2.1 hq.2.1 h2
  rw [e1, e2]
theorem int_spec {r q : Rg} (hr : In S r) (hq : In S q) :
    (max (rank S r.lo) (rank S q.lo) < min (rank S r.hi) (rank S q.hi) ∧ In S (r.intK q) ∧ rank S (r.intK q).lo = max (rank S r.lo) (rank S q.lo) ∧ rank S (r.intK q).hi = min (rank S r.hi) (rank S q.hi)) ∨
    (¬ max (rank S r.lo) (rank S q.lo) < min (rank S r.hi) (rank S q.hi) ∧ r.intK q = Rg.zero) := by
  obtain ⟨m1, e1⟩ := hiK_mem hS hr.1 hq.1
  obtain ⟨m2, e2⟩ := loK_mem hS hr.2.1 hq.2.1
  unfold Rg.intK
  rw [hr.emp hS, hq.emp hS]
  simp only [Bool.or_self, Bool.false_eq_true, if_false]
  unfold Rg.orZ
  cases he : Rg.emp ⟨r.lo.hiK q.lo, r.hi.loK q.hi⟩
  · have : rank S (r.lo.hiK q.lo) < rank S (r.hi.loK q.hi) := (emp_rank hS (r := ⟨r.lo.hiK q.lo, r.hi.loK q.hi⟩) m1 m2).1 he
    exact .inl ⟨by omega, ⟨m1, m2, this⟩, e1, e2⟩
  · have : ¬ rank S (r.lo.hiK q.lo) < rank S (r.hi.loK q.hi) := fun k => by
      have := (emp_rank hS (r := ⟨r.lo.hiK q.lo, r.hi.loK q.hi⟩) m1 m2).2 k
      rw [he] at this
      cases this
    exact .inr ⟨by omega, rfl⟩
theorem hul_spec {r q : Rg} (hr : In S r) (hq : In S q) :
    In S (r.hulK q) ∧ rank S (r.hulK q).lo = min (rank S r.lo) (rank S q.lo) ∧ rank S (r.hulK q).hi = max (rank S r.hi) (rank S q.hi) := by
  obtain ⟨m1, e1⟩ := loK_mem hS hr.1 hq.1
  obtain ⟨m2, e2⟩ := hiK_mem hS hr.2.1 hq.2.1
  have h1 := hr.2.2
  have h2 := hq.2.2
  unfold Rg.hulK
  rw [hr.emp hS, hq.emp hS]
  exact ⟨⟨m1, m2, (by rw [e1, e2]; omega : rank S (r.lo.loK q.lo) < rank S (r.hi.hiK q.hi))⟩, e1, e2⟩
end

theorem int_zero_left (q : Rg) : Rg.zero.intK q = Rg.zero := by unfold Rg.intK; rw [zero_emp]; rfl
theorem int_zero_right (q : Rg) : q.intK Rg.zero = Rg.zero := by unfold Rg.intK; rw [zero_emp]; simp
theorem hul_zero_right {q : Rg} (h : q.emp = false) : q.hulK Rg.zero = q := by unfold Rg.hulK; rw [zero_emp, h]; rfl

/-- What KeyspaceLattice asks. -/
structure Lattice (a b c i h j m n o : Rg) : Prop where
  i1 : a.intK b = i
  h1 : a.hulK b = h
  i2 : b.intK a = i
  h2 : b.hulK a = h
  i3 : i.intK c = j
  i4 : b.intK c = m
  i5 : a.intK m = j
  h3 : h.hulK c = n
  h4 : b.hulK c = o
  h5 : a.hulK o = n
  i6 : a.intK a = a
  h6 : a.hulK a = a
  i7 : a.intK h = a
  h7 : a.hulK i = a

theorem lattice {a b c : Rg} (ha : a.emp = false) (hb : b.emp = false) (hc : c.emp = false) : ∃ i h j m n o, Lattice a b c i h j m n o := by
  have hS : ∀ x ∈ [a.lo, a.hi, b.lo, b.hi, c.lo, c.hi], x.ok = true := by
    have h1 := emp_false.1 ha
    have h2 := emp_false.1 hb
    have h3 := emp_false.1 hc
    simp [h1.1, h1.2.1, h2.1, h2.2.1, h3.1, h3.2.1]
  generalize hSS : [a.lo, a.hi, b.lo, b.hi, c.lo, c.hi] = S at hS
  have m1 : a.lo ∈ S := by rw [← hSS]; simp
  have m2 : a.hi ∈ S := by rw [← hSS]; simp
  have m3 : b.lo ∈ S := by rw [← hSS]; simp
  have m4 : b.hi ∈ S := by rw [← hSS]; simp
  have m5 : c.lo ∈ S := by rw [← hSS]; simp
  have m6 : c.hi ∈ S := by rw [← hSS]; simp
  have Ia : In S a := ⟨m1, m2, (emp_rank hS m1 m2).1 ha⟩
  have Ib : In S b := ⟨m3, m4, (emp_rank hS m3 m4).1 hb⟩
  have Ic : In S c := ⟨m5, m6, (emp_rank hS m5 m6).1 hc⟩
  have la := Ia.2.2
  have lb := Ib.2.2
  have lc := Ic.2.2
  refine ⟨_, _, _, _, _, _, rfl, rfl, ?_, ?_, rfl, rfl, ?_, rfl, rfl, ?_, ?_, ?_, ?_, ?_⟩
  · rcases int_spec hS Ib Ia with ⟨k1, k2, k3, k4⟩ | ⟨k1, k2⟩ <;> rcases int_spec hS Ia Ib with ⟨l1, l2, l3, l4⟩ | ⟨l1, l2⟩
    · exact rg_ext hS k2 l2 (by omega) (by omega)
    · omega
    · omega
    · rw [k2, l2]
  · obtain ⟨k2, k3, k4⟩ := hul_spec hS Ib Ia
    obtain ⟨l2, l3, l4⟩ := hul_spec hS Ia Ib
    exact rg_ext hS k2 l2 (by omega) (by omega)
  · rcases int_spec hS Ia Ib with ⟨k1, k2, k3, k4⟩ | ⟨k1, k2⟩ <;> rcases int_spec hS Ib Ic with ⟨l1, l2, l3, l4⟩ | ⟨l1, l2⟩
    · rcases int_spec hS k2 Ic with ⟨p1, p2, p3, p4⟩ | ⟨p1, p2⟩ <;> rcases int_spec hS Ia l2 with ⟨q1, q2, q3, q4⟩ | ⟨q1, q2⟩
      · exact rg_ext hS q2 p2 (by omega) (by omega)
      · omega
      · omega
      · rw [p2, q2]
    · rw [l2, int_zero_right]
      rcases int_spec hS k2 Ic with ⟨p1, p2, p3, p4⟩ | ⟨p1, p2⟩
      · omega
      · rw [p2]
    · rw [k2, int_zero_left]
      rcases int_spec hS Ia l2 with ⟨q1, q2, q3, q4⟩ | ⟨q1, q2⟩
      · omega
      · rw [q2]
    · rw [k2, l2, int_zero_left, int_zero_right]
  · obtain ⟨k2, k3, k4⟩ := hul_spec hS Ia Ib
    obtain ⟨l2, l3, l4⟩ := hul_spec hS Ib Ic
    obtain ⟨p2, p3, p4⟩ := hul_spec hS k2 Ic
    obtain ⟨q2, q3, q4⟩ := hul_spec hS Ia l2
    exact rg_ext hS q2 p2 (by omega) (by omega)
  · rcases int_spec hS Ia Ia with ⟨k1, k2, k3, k4⟩ | ⟨k1, k2⟩
    · exact rg_ext hS k2 Ia (by omega) (by omega)
    · omega
  · obtain ⟨k2, k3, k4⟩ := hul_spec hS Ia Ia
    exact rg_ext hS k2 Ia (by omega) (by omega)
  · obtain ⟨k2, k3, k4⟩ := hul_spec hS Ia Ib
    rcases int_spec hS Ia k2 with ⟨p1, p2, p3, p4⟩ | ⟨p1, p2⟩
    · exact rg_ext hS p2 Ia (by omega) (by omega)
    · omega
  · rcases int_spec hS Ia Ib with ⟨k1, k2, k3, k4⟩ | ⟨k1, k2⟩
    · obtain ⟨p2, p3, p4⟩ := hul_spec hS Ia k2
      exact rg_ext hS p2 Ia (by omega) (by omega)
    · rw [k2, hul_zero_right ha]
end Go.Proofs.YtlnmpiigmedgkaaDoor
