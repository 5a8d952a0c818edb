/-
  The order of nodes by key and number, and the sorted list of a roster: plain facts. No condition.
-/
import Derived.Test.YtiafimbehcemcaaDoorKdK
import Derived.Sort.LotA
namespace Go.Proofs.YtiafimbehcemcaaDoor
open Go.RowKit

theorem kl_ntrans {a b c : ByteArray} (h : kl a b = false) (k : kl b c = false) : kl a c = false := by
  rw [kl_false] at *; exact List.le_trans k h
/-- The order of Sort: by key, then by number. -/
def nlt (a b : Nd) : Bool := kl a.key b.key || (!kl b.key a.key && decide (a.id < b.id))
theorem nlt_true (a b : Nd) : nlt a b = true ↔ kl a.key b.key = true ∨ (a.key = b.key ∧ a.id < b.id) := by
  unfold nlt
  cases h : kl a.key b.key
  · cases k : kl b.key a.key
    · have := kl_tri h k
      simp [this]
    · have hn : a.key ≠ b.key := fun e => by rw [e, kl_irrefl] at k; cases k
      simp [hn]
  · simp
theorem nlt_false (a b : Nd) : nlt a b = false ↔ kl b.key a.key = true ∨ (a.key = b.key ∧ b.id ≤ a.id) := by
  rw [← Bool.not_eq_true, nlt_true]
  cases h : kl a.key b.key
  · cases k : kl b.key a.key
    · have := kl_tri h k
      simp [this]
    · have hn : a.key ≠ b.key := fun e => by rw [e, kl_irrefl] at k; cases k
      simp [hn]
  · have hn : a.key ≠ b.key := fun e => by rw [e, kl_irrefl] at h; cases h
    simp [hn, kl_asymm h]
theorem nlt_swo : Go.Sort.SWO nlt where
  irrefl x := (nlt_false x x).2 (.inr ⟨rfl, Int.le_refl _⟩)
  trans x y z h k := by
    rw [nlt_true] at *
    rcases h with h | ⟨h, h'⟩ <;> rcases k with k | ⟨k, k'⟩
    · exact .inl (kl_trans h k)
    · exact .inl (k ▸ h)
    · exact .inl (h ▸ k)
    · exact .inr ⟨h.trans k, by omega⟩
  ntrans x y z h k := by
    rw [nlt_false] at *
    rcases h with h | ⟨h, h'⟩ <;> rcases k with k | ⟨k, k'⟩
    · exact .inl (kl_trans k h)
    · exact .inl (k ▸ h)
    · exact .inl (h ▸ k)
    · exact .inr ⟨h.trans k, by omega⟩
/-- A sorted list of the same nodes. -/
def Srt (l s : List Nd) : Prop := s.Perm l ∧ s.Pairwise (fun a b => nlt b a = false)
/-- The keys ascend. -/
def Asc (s : List Nd) : Prop := s.Pairwise (fun a b => kl a.key b.key = true)
theorem Nd.apart.symm {a b : Nd} (h : Nd.apart a b) : Nd.apart b a := ⟨fun e => h.1 e.symm, fun e => h.2 e.symm⟩
theorem Srt.apart {l s : List Nd} (h : Srt l s) (hp : l.Pairwise Nd.apart) : s.Pairwise Nd.apart := (h.1.pairwise_iff Nd.apart.symm).2 hp
theorem Srt.asc {l s : List Nd} (h : Srt l s) (hp : l.Pairwise Nd.apart) : Asc s := by
  refine (List.Pairwise.and h.2 (h.apart hp)).imp ?_
  rintro a b ⟨h1, h2⟩
  rw [nlt_false] at h1
  rcases h1 with h1 | ⟨h1, _⟩
  · exact h1
  · exact absurd h1.symm h2.2
theorem Srt.len {l s : List Nd} (h : Srt l s) : s.length = l.length := h.1.length_eq
theorem Srt.mem {l s : List Nd} (h : Srt l s) (x : Nd) : x ∈ s ↔ x ∈ l := h.1.mem_iff
theorem asc_unique : ∀ s t : List Nd, Asc s → Asc t → (∀ x, x ∈ s ↔ x ∈ t) → s = t
  | [], [], _, _, _ => rfl
  | [], y :: t, _, _, h => absurd ((h y).2 (by simp)) (by simp)
  | x :: s, [], _, _, h => absurd ((h x).1 (by simp)) (by simp)
  | x :: s, y :: t, hs, ht, h => by
    have hs' := List.pairwise_cons.1 hs
    have ht' := List.pairwise_cons.1 ht
    have exy : x = y := by
      rcases List.mem_cons.1 ((h x).1 (by simp)) with e | hx
      · exact e
      · rcases List.mem_cons.1 ((h y).2 (by simp)) with e | hy
        · exact e.symm
        · have h1 := ht'.1 x hx
          rw [kl_asymm (hs'.1 y hy)] at h1
          cases h1
    subst exy
    have hx1 : x ∉ s := fun hx => by have := hs'.1 x hx; rw [kl_irrefl] at this; cases this
    have hx2 : x ∉ t := fun hx => by have := ht'.1 x hx; rw [kl_irrefl] at this; cases this
    rw [asc_unique s t hs'.2 ht'.2 fun z => ?_]
    by_cases e : z = x
    · subst e
      exact ⟨fun hz => absurd hz hx1, fun hz => absurd hz hx2⟩
    · have := h z
      simpa [e] using this
/-- The sorted list. -/
def srt (l : List Nd) : List Nd := l.mergeSort (fun a b => !nlt b a)
theorem srt_srt (l : List Nd) : Srt l (srt l) := by
  refine ⟨List.mergeSort_perm _ _, ?_⟩
  have := List.pairwise_mergeSort (le := fun a b : Nd => !nlt b a) (fun a b c h k => ?_) (fun a b => ?_) l
  · refine this.imp ?_
    intro a b h
    simpa using h
  · simp only [Bool.not_eq_true'] at *
    exact nlt_swo.ntrans c b a k h
  · cases h : nlt b a
    · rfl
    · simp [nlt_swo.asymmA h]
theorem srt_of {l s : List Nd} (h : Srt l s) (hp : l.Pairwise Nd.apart) : s = srt l :=
  asc_unique _ _ (h.asc hp) ((srt_srt l).asc hp) fun x => by rw [h.mem, (srt_srt l).mem]
theorem srt_perm {l m : List Nd} (h : l.Perm m) (hp : m.Pairwise Nd.apart) : srt l = srt m :=
  srt_of ⟨(srt_srt l).1.trans h, (srt_srt l).2⟩ hp
/-- A roster: what Check asks. -/
theorem chkV_zero {l : List Nd} : chkV l = 0 ↔ l.length ≤ 64 ∧ l.all Nd.ok = true ∧ l.Pairwise Nd.apart := by
  unfold chkV
  by_cases h : 64 < l.length
  · rw [if_pos h]
    constructor
    · intro e; cases e
    · intro e; omega
  · rw [if_neg h]
    by_cases h2 : l.all Nd.ok = true
    · rw [if_pos h2]
      by_cases h3 : l.Pairwise Nd.apart
      · rw [if_pos h3]
        exact ⟨fun _ => ⟨by omega, h2, h3⟩, fun _ => rfl⟩
      · rw [if_neg h3]
        exact ⟨fun e => (by cases e), fun e => absurd e.2.2 h3⟩
    · rw [if_neg h2]
      exact ⟨fun e => (by cases e), fun e => absurd e.2.1 h2⟩
theorem chkV_perm {l m : List Nd} (h : l.Perm m) : chkV l = 0 → chkV m = 0 := by
  rw [chkV_zero, chkV_zero]
  rintro ⟨h1, h2, h3⟩
  refine ⟨by rw [← h.length_eq]; exact h1, ?_, (h.pairwise_iff Nd.apart.symm).1 h3⟩
  rw [List.all_eq_true] at *
  exact fun x hx => h2 x (h.mem_iff.2 hx)
theorem chkV_sub {l m : List Nd} (h : m.Sublist l) : chkV l = 0 → chkV m = 0 := by
  rw [chkV_zero, chkV_zero]
  rintro ⟨h1, h2, h3⟩
  refine ⟨Nat.le_trans h.length_le h1, ?_, h3.sublist h⟩
  rw [List.all_eq_true] at *
  exact fun x hx => h2 x (h.subset hx)
/-- What is known of a roster's sorted list. -/
structure Ros (l s : List Nd) : Prop where
  perm : s.Perm l
  asc : Asc s
  apart : s.Pairwise Nd.apart
  ok : ∀ x ∈ s, Nd.ok x = true
  eq : s = srt l
theorem ros_of {l : List Nd} (h : chkV l = 0) : Ros l (srt l) := by
  obtain ⟨_, h2, h3⟩ := chkV_zero.1 h
  have hs := srt_srt l
  exact ⟨hs.1, hs.asc h3, hs.apart h3, fun x hx => List.all_eq_true.1 h2 x ((hs.mem x).1 hx), rfl⟩
section
variable {l s : List Nd}
theorem asc_at (h : Asc s) {i j : Nat} (hij : i < j) (hj : j < s.length) : kl (s[i]'(by omega)).key s[j].key = true := List.pairwise_iff_getElem.1 h i j (by omega) hj hij
theorem asc_iff (h : Asc s) {i j : Nat} (hi : i < s.length) (hj : j < s.length) : kl s[i].key s[j].key = true ↔ i < j := by
  rcases Nat.lt_trichotomy i j with k | k | k
  · exact ⟨fun _ => k, fun _ => asc_at h k hj⟩
  · subst k
    rw [kl_irrefl]
    exact ⟨fun e => (by cases e), fun e => absurd e (Nat.lt_irrefl _)⟩
  · rw [kl_asymm (asc_at h k hi)]
    exact ⟨fun e => (by cases e), fun e => (by omega)⟩
theorem apart_at (h : s.Pairwise Nd.apart) {i j : Nat} (hi : i < s.length) (hj : j < s.length) (e : s[i].id = s[j].id) : i = j := by
  rcases Nat.lt_trichotomy i j with k | k | k
  · exact absurd e (List.pairwise_iff_getElem.1 h i j hi hj k).1
  · exact k
  · exact absurd e.symm (List.pairwise_iff_getElem.1 h j i hj hi k).1
end
/-- Where the node with a number is: behind the end where there is none. -/
def plc (s : List Nd) (id : Int) : Nat := s.findIdx (fun x => x.id == id)
theorem plc_le (s : List Nd) (id : Int) : plc s id ≤ s.length := List.findIdx_le_length
theorem plc_at {s : List Nd} (h : s.Pairwise Nd.apart) {i : Nat} (hi : i < s.length) : plc s s[i].id = i := by
  refine (List.findIdx_eq hi).2 ⟨by simp, fun j hj => ?_⟩
  have := List.pairwise_iff_getElem.1 h j i (by omega) hi hj
  simpa using this.1
theorem plc_uniq {s : List Nd} {id : Int} {k : Nat} (hk : k < s.length) (h1 : s[k].id = id) (h2 : ∀ j (h : j < k), (s[j]'(by omega)).id ≠ id) : plc s id = k :=
  (List.findIdx_eq hk).2 ⟨by simpa using h1, fun j hj => by simpa using h2 j hj⟩
theorem plc_none {s : List Nd} {id : Int} (h : ∀ j (h : j < s.length), s[j].id ≠ id) : plc s id = s.length := by
  have := plc_le s id
  rcases Nat.lt_or_ge (plc s id) s.length with k | k
  · have h1 : ((s[plc s id]'k).id == id) = true := List.findIdx_getElem (xs := s) (p := fun x : Nd => x.id == id) (w := k)
    exact absurd (by simpa using h1) (h _ k)
  · omega
theorem plc_id {s : List Nd} {id : Int} (k : plc s id < s.length) : (s[plc s id]'k).id = id := by
  have h1 : ((s[plc s id]'k).id == id) = true := List.findIdx_getElem (xs := s) (p := fun x : Nd => x.id == id) (w := k)
  simpa using h1
theorem plc_found {s : List Nd} {id : Int} : plc s id < s.length ↔ ∃ x ∈ s, x.id = id := by
  unfold plc
  rw [List.findIdx_lt_length]
  simp
def keyAt (s : List Nd) (k : Nat) : ByteArray := ((s[k]?).map Nd.key).getD ByteArray.empty
theorem keyAt_lt {s : List Nd} {k : Nat} (h : k < s.length) : keyAt s k = s[k].key := by simp [keyAt, h]
/-- The interval of the node at k of a sorted list. -/
def ivlAt (s : List Nd) (k : Nat) : Rg := ⟨⟨if k = 0 then ByteArray.empty else keyAt s k, false⟩, if k + 1 < s.length then ⟨keyAt s (k + 1), false⟩ else ⟨ByteArray.empty, true⟩⟩
/-- What Interval, Rank and Owner answer, in the terms of the sorted list. -/
def ivlV (s : List Nd) (id : Int) : Rg := if plc s id < s.length then ivlAt s (plc s id) else Rg.zero
def rnkV (s : List Nd) (id : Int) : Nat := if plc s id < s.length then plc s id else 0
def abv (s : List Nd) (key : ByteArray) : Nat := s.findIdx (fun x => kl key x.key)
def Nd.none : Nd := ⟨0, ByteArray.empty, 0⟩
def ownV (s : List Nd) (key : ByteArray) : Nd := (s[abv s key - 1]?).getD Nd.none
theorem abv_le (s : List Nd) (key : ByteArray) : abv s key ≤ s.length := List.findIdx_le_length
theorem abv_uniq {s : List Nd} {key : ByteArray} {k : Nat} (hk : k ≤ s.length) (h1 : ∀ j (h : j < s.length), j < k → kl key s[j].key = false) (h2 : ∀ j (h : j < s.length), k ≤ j → kl key s[j].key = true) : abv s key = k := by
  rcases Nat.lt_or_ge k s.length with h | h
  · exact (List.findIdx_eq h).2 ⟨h2 k h (Nat.le_refl _), fun j hj => h1 j (by omega) hj⟩
  · have e : k = s.length := by omega
    rcases Nat.lt_or_ge (abv s key) s.length with h3 | h3
    · have h4 := List.findIdx_getElem (xs := s) (p := fun x : Nd => kl key x.key) (w := h3)
      have h5 := h1 (abv s key) h3 (by omega)
      unfold abv at h5
      rw [h5] at h4
      cases h4
    · have := abv_le s key
      omega
theorem abv_lo {s : List Nd} {key : ByteArray} {j : Nat} (h : j < abv s key) : kl key (s[j]'(Nat.lt_of_lt_of_le h (abv_le s key))).key = false := List.not_of_lt_findIdx h
theorem abv_hi {s : List Nd} {key : ByteArray} (hs : Asc s) {j : Nat} (hj : j < s.length) (h : abv s key ≤ j) : kl key s[j].key = true := by
  have hlt : abv s key < s.length := by omega
  have h4 : kl key (s[abv s key]'hlt).key = true := List.findIdx_getElem (xs := s) (p := fun x : Nd => kl key x.key) (w := hlt)
  rcases Nat.lt_or_ge (abv s key) j with k | k
  · exact kl_trans h4 (asc_at hs k hj)
  · have e : abv s key = j := by omega
    subst e
    exact h4
end Go.Proofs.YtiafimbehcemcaaDoor
