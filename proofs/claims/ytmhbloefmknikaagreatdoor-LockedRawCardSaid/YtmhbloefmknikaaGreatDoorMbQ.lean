/-
  Members of the reference of chapter 11, the plain facts: those that are in, inserted one by one, are the members in their order.
-/
import Derived.Test.YtmhbloefmknikaaGreatDoorLyB
namespace Go.Proofs.YtmhbloefmknikaaGreatDoor
namespace Lk
/-- The members of the first i cells, in their order. -/
structure InsI (l : Ls) (i : Nat) (O : List Nat) : Prop where
  asc : O.Pairwise (fun a b => rnk l a < rnk l b)
  mem : ∀ j, j ∈ O ↔ 2 ≤ j ∧ j < i ∧ (l.at_ j).gone = false
  len : O.length + 2 ≤ i
section
variable {l : Ls} {i : Nat} {O : List Nat}
theorem InsI.start : InsI l 2 [] := ⟨List.Pairwise.nil, (fun j => by simp; omega), by simp⟩
theorem InsI.skip (h : InsI l i O) (hg : (l.at_ i).gone = true) : InsI l (i + 1) O := ⟨h.asc, (fun j => by
  rw [h.mem]
  constructor
  · rintro ⟨q1, q2, q3⟩
    exact ⟨q1, by omega, q3⟩
  · rintro ⟨q1, q2, q3⟩
    rcases Nat.lt_or_ge j i with q | q
    · exact ⟨q1, q, q3⟩
    · obtain rfl : j = i := by omega
      rw [hg] at q3; cases q3), by have := h.len; omega⟩
theorem InsI.lt (h : InsI l i O) {j : Nat} (hj : j ∈ O) : j < i := ((h.mem j).1 hj).2.1
theorem InsI.put (h : InsI l i O) (v : Vld l) (hi : i < l.cs.length) (h2 : 2 ≤ i) (hg : (l.at_ i).gone = false) {a : Nat} (ha : a ≤ O.length) (hl : ∀ q : a - 1 < O.length, 1 ≤ a → blw l i O[a - 1] = false) (hr : ∀ j (q : j < O.length), a ≤ j → blw l i O[j] = true) :
    InsI l (i + 1) (O.take a ++ [i] ++ O.drop a) := by
  have hno : i ∉ O := fun q => by have := h.lt q; omega
  have hlo : ∀ x ∈ O.take a, rnk l x < rnk l i := fun x hx' => by
    obtain ⟨j, hj, e⟩ := List.getElem_of_mem hx'
    rw [List.length_take] at hj
    rw [List.getElem_take] at e
    subst e
    have a1 : 1 ≤ a := by omega
    have hlt : rnk l (O[a - 1]'(by omega)) < rnk l i := by
      have h1 := hl (by omega) a1
      have hne : i ≠ O[a - 1]'(by omega) := fun q => hno (by rw [q]; exact List.getElem_mem _)
      have hm := h.lt (List.getElem_mem (by omega : a - 1 < O.length))
      rcases blw_tri v hi (by omega) hne with q | q
      · rw [h1] at q; cases q
      · exact rnk_lt (by omega) q
    rcases Nat.lt_or_ge j (a - 1) with q | q
    · exact Nat.lt_trans (List.pairwise_iff_getElem.1 h.asc j (a - 1) (by omega) (by omega) q) hlt
    · obtain rfl : j = a - 1 := by omega
      exact hlt
  have hhi : ∀ x ∈ O.drop a, rnk l i < rnk l x := fun x hx' => by
    obtain ⟨j, hj, e⟩ := List.getElem_of_mem hx'
    rw [List.length_drop] at hj
    rw [List.getElem_drop] at e
    subst e
    exact rnk_lt hi (hr (a + j) (by omega) (by omega))
  refine ⟨?_, fun j => ?_, by rw [List.length_append, List.length_append, List.length_take, List.length_drop]; have := h.len; simp; omega⟩
  · have hpt := List.Pairwise.sublist (List.take_sublist a O) h.asc
    have hpd := List.Pairwise.sublist (List.drop_sublist a O) h.asc
    rw [List.append_assoc, List.pairwise_append]
    refine ⟨hpt, ?_, fun x hx y hy => ?_⟩
    · rw [List.singleton_append, List.pairwise_cons]
      exact ⟨hhi, hpd⟩
    · rcases List.mem_append.1 hy with q | q
      · simp at q; subst q; exact hlo x hx
      · exact Nat.lt_trans (hlo x hx) (hhi y q)
  · have hd : j ∈ O.take a ++ [i] ++ O.drop a ↔ j = i ∨ j ∈ O := by
      conv => rhs; rhs; rw [← List.take_append_drop a O]
      simp only [List.mem_append, List.mem_singleton]
      constructor
      · rintro ((q | q) | q)
        · exact .inr (.inl q)
        · exact .inl q
        · exact .inr (.inr q)
      · rintro (q | q | q)
        · exact .inl (.inr q)
        · exact .inl (.inl q)
        · exact .inr q
    rw [hd, h.mem]
    constructor
    · rintro (q | ⟨q1, q2, q3⟩)
      · subst q; exact ⟨h2, by omega, hg⟩
      · exact ⟨q1, by omega, q3⟩
    · rintro ⟨q1, q2, q3⟩
      rcases Nat.lt_or_ge j i with q | q
      · exact .inr ⟨q1, q, q3⟩
      · exact .inl (by omega)
theorem InsI.end_ (h : InsI l l.cs.length O) (v : Vld l) : O = memV l := by
  have hnd : ∀ {L : List Nat}, L.Pairwise (fun a b => rnk l a < rnk l b) → L.Nodup := fun q => q.imp (fun h e => by rw [e] at h; exact Nat.lt_irrefl _ h)
  have ha : (memV l).Pairwise (fun a b => rnk l a < rnk l b) := memI_asc v _
  have hp : O.Perm (memV l) := (List.perm_ext_iff_of_nodup (hnd h.asc) (hnd ha)).2 fun j => by
    rw [h.mem, mem_memV]
    constructor
    · rintro ⟨q1, q2, q3⟩; exact ⟨q2, q1, q3⟩
    · rintro ⟨q1, q2, q3⟩; exact ⟨q2, q1, q3⟩
  exact List.Perm.eq_of_pairwise (le := fun x y => rnk l x < rnk l y) (fun a b _ _ h1 h2 => absurd h1 (by omega)) h.asc ha hp
end
end Lk
end Go.Proofs.YtmhbloefmknikaaGreatDoor
