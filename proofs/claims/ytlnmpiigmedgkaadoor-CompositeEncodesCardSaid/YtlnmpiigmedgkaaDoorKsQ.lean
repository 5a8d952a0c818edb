/-
  Plain facts: bounds that are valid are ordered in a line, so any few of them have ranks; intersections and hulls by ranks; both packages' answers are the same. No condition.
-/
import Derived.Test.YtlnmpiigmedgkaaDoorKsG
namespace Go.Proofs.YtlnmpiigmedgkaaDoor
open Go.RowKit

theorem cmp_range (a b : Bd) : a.cmp b = -1 ∨ a.cmp b = 0 ∨ a.cmp b = 1 := by
  unfold Bd.cmp
  repeat' split
  all_goals simp
theorem cmp_swap (a b : Bd) : b.cmp a = -(a.cmp b) := by
  obtain ⟨ak, at'⟩ := a
  obtain ⟨bk, bt⟩ := b
  cases at' <;> cases bt <;> simp [Bd.cmp]
  cases h1 : kl ak bk <;> cases h2 : kl bk ak <;> simp
  have := kl_asymm h1
  rw [h2] at this
  cases this
theorem cmp_trans {a b c : Bd} (h : a.cmp b < 0) (k : b.cmp c < 0) : a.cmp c < 0 := by
  obtain ⟨ak, at'⟩ := a
  obtain ⟨bk, bt⟩ := b
  obtain ⟨ck, ct⟩ := c
  cases at' <;> cases bt <;> cases ct <;> simp [Bd.cmp] at h k ⊢
  cases h1 : kl ak bk
  · cases h2 : kl bk ak <;> simp [h1, h2] at h
  · cases h3 : kl bk ck
    · cases h4 : kl ck bk <;> simp [h3, h4] at k
    · simp [kl_trans h1 h3]
theorem cmp_zero {a b : Bd} (ha : a.ok = true) (hb : b.ok = true) (h : a.cmp b = 0) : a = b := by
  obtain ⟨ak, at'⟩ := a
  obtain ⟨bk, bt⟩ := b
  cases at' <;> cases bt <;> simp [Bd.cmp] at h
  · cases h1 : kl ak bk <;> cases h2 : kl bk ak <;> simp [h1, h2] at h
    rw [kl_tri h1 h2]
  · simp [Bd.ok] at ha hb
    rw [toList_inj (ha.trans hb.symm)]
theorem cmp_self (a : Bd) : a.cmp a = 0 := by
  have := cmp_swap a a
  omega

theorem countP_lt {α : Type} {p q : α → Bool} {l : List α} {x : α} (h : ∀ y, p y = true → q y = true) (hx : x ∈ l) (hp : p x = false) (hq : q x = true) : l.countP p < l.countP q := by
  induction l with
  | nil => cases hx
  | cons y l ih =>
    have hle : l.countP p ≤ l.countP q := List.countP_mono_left (fun z _ => h z)
    rw [List.countP_cons, List.countP_cons]
    rcases List.mem_cons.1 hx with rfl | hx
    · rw [if_neg (by rw [hp]; simp), if_pos hq]; omega
    · have := ih hx
      by_cases hpy : p y = true
      · rw [if_pos hpy, if_pos (h y hpy)]; omega
      · rw [if_neg hpy]; split <;> omega

/-- How many of S lie below x. -/
def rank (S : List Bd) (x : Bd) : Nat := S.countP fun y => decide (y.cmp x < 0)

theorem rank_lt {S : List Bd} {x y : Bd} (hx : x ∈ S) (h : x.cmp y < 0) : rank S x < rank S y :=
  countP_lt (x := x) (fun z hz => by simp at hz ⊢; exact cmp_trans hz h) hx (by simp [cmp_self]) (by simpa using h)

section
variable {S : List Bd} (hS : ∀ x ∈ S, x.ok = true) {x y : Bd}
include hS
theorem rank_inj (hx : x ∈ S) (hy : y ∈ S) (h : rank S x = rank S y) : x = y := by
  rcases cmp_range x y with e | e | e
  · have := rank_lt (S := S) hx (y := y) (by omega); omega
  · exact cmp_zero (hS x hx) (hS y hy) e
  · have := rank_lt (S := S) hy (y := x) (by have := cmp_swap x y; omega); omega
theorem rank_cmp (hx : x ∈ S) (hy : y ∈ S) : (x.cmp y < 0 ↔ rank S x < rank S y) ∧ (x.cmp y = 0 ↔ rank S x = rank S y) ∧ (0 < x.cmp y ↔ rank S y < rank S x) := by
  have h1 := @rank_lt S x y hx
  have h2 := @rank_lt S y x hy
  have h3 := cmp_swap x y
  have h4 : x.cmp y = 0 → rank S x = rank S y := fun e => by rw [cmp_zero (hS x hx) (hS y hy) e]
  rcases cmp_range x y with e | e | e <;> rw [e] at h1 h3 h4 ⊢ <;> simp_all <;> omega
end
end Go.Proofs.YtlnmpiigmedgkaaDoor
