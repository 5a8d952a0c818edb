/-
  Plain facts: the two parts into which a range is cut at a bound. No condition.
-/
import Derived.Test.YtofandkijmbplaaDoorKtD
namespace Go.Proofs.YtofandkijmbplaaDoor
open Go.RowKit

structure Parts (r x y : Rg) : Prop where
  adj : x.adj y = true
  adj' : y.adj x = false
  int : (x.intK y).emp = true
  hul : x.hulK y = r
  hul' : y.hulK x = r
  sub : r.subK x = [y]
  sub' : r.subK y = [x]
  uni : ∀ u, Uni [y, x] u → u = [r]

theorem keep_two {a b : Rg} {s t : Bool} (ha : a.emp = s) (hb : b.emp = t) : keep [a, b] = (if s then [] else [a]) ++ (if t then [] else [b]) := by
  unfold keep
  cases s <;> cases t <;> simp [ha, hb]

theorem parts {r : Rg} {b : Bd} (hr : r.emp = false) (hb : b.ok = true) (h1 : r.lo.cmp b < 0) (h2 : b.cmp r.hi < 0) : Parts r ⟨r.lo, b⟩ ⟨b, r.hi⟩ := by
  have kr := emp_false.1 hr
  have hS : ∀ x ∈ [r.lo, b, r.hi], x.ok = true := by simp [kr.1, kr.2.1, hb]
  generalize hSS : [r.lo, b, r.hi] = S at hS
  have m1 : r.lo ∈ S := by rw [← hSS]; simp
  have m2 : b ∈ S := by rw [← hSS]; simp
  have m3 : r.hi ∈ S := by rw [← hSS]; simp
  have q1 := (rank_cmp hS m1 m2).1.1 h1
  have q2 := (rank_cmp hS m2 m3).1.1 h2
  have Ir : In S r := ⟨m1, m3, by omega⟩
  have Ix : In S ⟨r.lo, b⟩ := ⟨m1, m2, q1⟩
  have Iy : In S ⟨b, r.hi⟩ := ⟨m2, m3, q2⟩
  have ex : Rg.emp ⟨r.lo, b⟩ = false := Ix.emp hS
  have ey : Rg.emp ⟨b, r.hi⟩ = false := Iy.emp hS
  have e0 : ∀ a : Bd, Rg.emp ⟨a, a⟩ = true := fun a => by
    unfold Rg.emp
    have : Bd.cmp a a = 0 := cmp_self a
    simp [this]
  have lo1 : r.hi.loK r.lo = r.lo := by obtain ⟨p1, p2⟩ := loK_mem hS m3 m1; exact rank_inj hS p1 m1 (by omega)
  have hi1 : r.lo.hiK b = b := by obtain ⟨p1, p2⟩ := hiK_mem hS m1 m2; exact rank_inj hS p1 m2 (by omega)
  have lo2 : r.hi.loK b = b := by obtain ⟨p1, p2⟩ := loK_mem hS m3 m2; exact rank_inj hS p1 m2 (by omega)
  have hi2 : r.lo.hiK r.hi = r.hi := by obtain ⟨p1, p2⟩ := hiK_mem hS m1 m3; exact rank_inj hS p1 m3 (by omega)
  refine ⟨?_, ?_, ?_, ?_, ?_, ?_, ?_, ?_⟩
  · unfold Rg.adj; rw [ex, ey]; simp [cmp_self]
  · unfold Rg.adj; rw [ex, ey]
    have h3 := cmp_swap r.lo r.hi
    have h4 := kr.2.2
    simp
    omega
  · rcases int_spec hS Ix Iy with ⟨k1, _⟩ | ⟨_, k2⟩
    · simp only at k1; omega
    · rw [k2]; exact zero_emp
  · obtain ⟨k2, k3, k4⟩ := hul_spec hS Ix Iy
    simp only at k3 k4
    exact rg_ext hS k2 Ir (by omega) (by omega)
  · obtain ⟨k2, k3, k4⟩ := hul_spec hS Iy Ix
    simp only at k3 k4
    exact rg_ext hS k2 Ir (by omega) (by omega)
  · unfold Rg.subK
    rw [ex, hr]
    simp only [Bool.false_eq_true, if_false]
    rw [lo1, hi1, keep_two (e0 _) ey]
    rfl
  · unfold Rg.subK
    rw [ey, hr]
    simp only [Bool.false_eq_true, if_false]
    rw [lo2, hi2, keep_two ex (e0 _)]
    rfl
  · intro u hu
    refine canon_unique hu.1 (canon_one hr) fun p => ?_
    rw [hu.2.1, keep_two ey ex]
    show Cov [⟨b, r.hi⟩, ⟨r.lo, b⟩] p ↔ _
    rw [cov_cons, cov_one, cov_one]
    simp only
    have s1 := cmp_swap p b
    constructor
    · rintro (⟨p1, p2⟩ | ⟨p1, p2⟩)
      · exact ⟨cmp_le_trans (by omega) p1, p2⟩
      · exact ⟨p1, cmp_trans p2 h2⟩
    · rintro ⟨p1, p2⟩
      by_cases h3 : b.cmp p ≤ 0
      · exact .inl ⟨h3, p2⟩
      · exact .inr ⟨p1, by omega⟩
end Go.Proofs.YtofandkijmbplaaDoor
