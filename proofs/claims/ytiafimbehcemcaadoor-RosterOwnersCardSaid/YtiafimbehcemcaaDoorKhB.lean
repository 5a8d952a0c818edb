/-
  The library's insertion sort at numbered nodes; what a sorted list that keeps equal nodes in their order is, and that there is only one; cuts by searching; plain. No condition.
-/
import Derived.Test.YtiafimbehcemcaaDoorKhA
import Derived.Test.YtiafimbehcemcaaDoorKgB
namespace Go.Proofs.YtiafimbehcemcaaDoor
open Go.RowKit

section
variable {F : Nat → Nd}
/-- The row holds the numbered nodes in the order of G. -/
def Rp (F : Nat → Nd) (n : Nat) (d : Array Nd) (G : Nat → Nat) : Prop := d.size = n ∧ ∀ k, k < n → d[k]! = F (G k)
theorem Rp.swap {n i j : Nat} {d : Array Nd} {G : Nat → Nat} (h : Rp F n d G) (hi : i < n) (hj : j < n) : Rp F n (Go.Sort.swp d i j) (sw i j G) := by
  refine ⟨by rw [Go.Sort.swp_size]; exact h.1, fun k hk => ?_⟩
  rw [Go.Sort.swp_get d (by rw [h.1]; exact hi) (by rw [h.1]; exact hj)]
  unfold sw
  split
  · exact h.2 i hi
  · split
    · exact h.2 j hj
    · exact h.2 k hk
/-- Ascending up to i but for the place j; what lies there is less than all behind it, and its number is greater than those ahead. -/
structure InT (F : Nat → Nd) (a j i : Nat) (G : Nat → Nat) : Prop where
  rest : ∀ p q, a ≤ p → p < q → q ≤ i → p ≠ j → q ≠ j → Lx F (G p) (G q)
  right : ∀ q, j < q → q ≤ i → Lx F (G j) (G q)
  tag : ∀ p, a ≤ p → p < j → G p < G j
theorem InT.stop {a j i : Nat} {G : Nat → Nat} (h : InT F a j i G) (hs : j ≤ a ∨ nlt (F (G j)) (F (G (j - 1))) = false) : Sd F a (i + 1) G := fun p q p1 p2 p3 => by
  by_cases hq : q = j
  · subst hq
    have hlt : Lx F (G (q - 1)) (G q) := by
      rcases hs with hs | hs
      · omega
      · exact (lx_dn (h.tag (q - 1) (by omega) (by omega))).2 hs
    by_cases hp : p = q - 1
    · subst hp; exact hlt
    · exact lx_trans (h.rest p (q - 1) p1 (by omega) (by omega) (by omega) (by omega)) hlt
  · by_cases hp : p = j
    · subst hp; exact h.right q p2 (by omega)
    · exact h.rest p q p1 p2 (by omega) hp hq
theorem InT.step {a j i : Nat} {G : Nat → Nat} (h : InT F a (j + 1) i G) (hl : Lx F (G (j + 1)) (G j)) (ha : a ≤ j) (hji : j + 1 ≤ i) : InT F a j i (sw (j + 1) j G) where
  rest p q p1 p2 p3 p4 p5 := by
    unfold sw
    rw [if_neg p4, if_neg p5]
    by_cases h1 : p = j + 1
    · rw [if_pos h1, if_neg (by omega)]
      exact h.rest j q ha (by omega) p3 (by omega) (by omega)
    · rw [if_neg h1]
      by_cases h2 : q = j + 1
      · rw [if_pos h2]
        exact h.rest p j p1 (by omega) (by omega) (by omega) (by omega)
      · rw [if_neg h2]
        exact h.rest p q p1 p2 p3 h1 h2
  right q q1 q2 := by
    unfold sw
    rw [if_pos rfl, if_neg (by omega)]
    by_cases h2 : q = j + 1
    · rw [if_pos h2]; exact hl
    · rw [if_neg h2]; exact h.right q (by omega) q2
  tag p p1 p2 := by
    unfold sw
    rw [if_pos rfl, if_neg (by omega), if_neg (by omega)]
    exact h.tag p p1 (by omega)
theorem sw_wi {a i j : Nat} {G : Nat → Nat} (ha : a ≤ j) (hji : j + 1 ≤ i) : Wi a (i + 1) G (sw (j + 1) j G) := by
  refine ⟨fun k hk => ?_, fun k k1 k2 => ?_⟩
  · unfold sw; rw [if_neg (by omega), if_neg (by omega)]
  · unfold sw
    split
    · exact ⟨j + 1, by omega, by omega, rfl⟩
    · split
      · exact ⟨j, by omega, by omega, rfl⟩
      · exact ⟨k, k1, k2, rfl⟩
theorem ins_inner {n a i : Nat} (hi : i < n) : ∀ (j : Nat) (d : Array Nd) (G : Nat → Nat), Rp F n d G → a ≤ j → j ≤ i → InT F a j i G → ∃ G', Rp F n (Go.Sort.insInner nlt a j d) G' ∧ Wi a (i + 1) G G' ∧ Sd F a (i + 1) G'
  | 0, d, G, hr, ha, _, hI => ⟨G, hr, Wi.refl _ _ _, hI.stop (.inl (Nat.zero_le _))⟩
  | j + 1, d, G, hr, ha, hj, hI => by
    by_cases hc : a < j + 1 ∧ nlt d[j + 1]! d[j]! = true
    · have hk : Lx F (G (j + 1)) (G j) := by
        have := hc.2
        rw [hr.2 _ (by omega), hr.2 _ (by omega)] at this
        exact (lx_up (hI.tag j (by omega) (by omega))).2 this
      obtain ⟨G', r1, r2, r3⟩ := ins_inner hi j _ _ (hr.swap (show j + 1 < n by omega) (show j < n by omega)) (by omega) (by omega) (hI.step hk (by omega) hj)
      refine ⟨G', ?_, (sw_wi (by omega) hj).trans r2, r3⟩
      rw [Go.Sort.insInner, if_pos (by simp [hc.2]; omega)]
      exact r1
    · refine ⟨G, ?_, Wi.refl _ _ _, hI.stop ?_⟩
      · rw [Go.Sort.insInner, if_neg (by simpa using hc)]
        exact hr
      · by_cases h1 : a < j + 1
        · right
          have h2 : nlt d[j + 1]! d[j]! = false := by
            cases e : nlt d[j + 1]! d[j]!
            · rfl
            · exact absurd ⟨h1, e⟩ hc
          rw [hr.2 _ (by omega), hr.2 _ (by omega)] at h2
          simpa using h2
        · left; omega
theorem ins_outer {n a b : Nat} (hb : b ≤ n) : ∀ (m i : Nat) (d : Array Nd) (G : Nat → Nat), b - i = m → a < i → i ≤ b → Rp F n d G → Sd F a i G → (∀ p q, a ≤ p → p < q → i ≤ q → q < b → G p < G q) → ∃ G', Rp F n (Go.Sort.insOuter nlt a b i d) G' ∧ Wi a b G G' ∧ Sd F a b G'
  | 0, i, d, G, hm, ha, hi, hr, hs, _ => by
    have : i = b := by omega
    subst this
    refine ⟨G, ?_, Wi.refl _ _ _, hs⟩
    rw [Go.Sort.insOuter, if_neg (by omega)]
    exact hr
  | m + 1, i, d, G, hm, ha, hi, hr, hs, ht => by
    have hib : i < b := by omega
    obtain ⟨G1, r1, w1, s1⟩ := ins_inner (F := F) (a := a) (i := i) (show i < n by omega) i d G hr (by omega) (Nat.le_refl _) ⟨fun p q p1 p2 p3 _ p5 => hs p q p1 p2 (by omega), fun q q1 q2 => by omega, fun p p1 p2 => ht p i p1 p2 (Nat.le_refl _) hib⟩
    obtain ⟨G2, r2, w2, s2⟩ := ins_outer hb m (i + 1) _ G1 (by omega) (by omega) hib r1 s1 (fun p q p1 p2 q1 q2 => by
      rw [w1.1 q (by omega)]
      by_cases hp : p < i + 1
      · obtain ⟨p', a1, a2, e⟩ := w1.2 p p1 hp
        rw [e]
        exact ht p' q a1 (by omega) (by omega) q2
      · rw [w1.1 p (by omega)]
        exact ht p q p1 p2 (by omega) q2)
    refine ⟨G2, ?_, (w1.mono (Nat.le_refl _) hib).trans w2, s2⟩
    rw [Go.Sort.insOuter, if_pos hib]
    exact r2
theorem ins_tag {n a b : Nat} {d : Array Nd} {G : Nat → Nat} (hr : Rp F n d G) (hab : a ≤ b) (hb : b ≤ n) (ht : ∀ p q, a ≤ p → p < q → q < b → G p < G q) : ∃ G', Rp F n (Go.Sort.insertionSort nlt d a b) G' ∧ Wi a b G G' ∧ Sd F a b G' := by
  unfold Go.Sort.insertionSort
  rcases Nat.lt_or_ge a b with h | h
  · exact ins_outer hb (b - (a + 1)) (a + 1) d G rfl (by omega) (by omega) hr (fun p q p1 p2 p3 => by omega) (fun p q p1 p2 _ p4 => ht p q p1 p2 p4)
  · refine ⟨G, ?_, Wi.refl _ _ _, fun p q p1 p2 p3 => by omega⟩
    rw [Go.Sort.insOuter, if_neg (by omega)]
    exact hr
/-- What a list sorted so that equal nodes keep their order is. -/
def nth (l : List Nd) (i : Nat) : Nd := (l[i]?).getD Nd.none
def StbS (l s : List Nd) : Prop := ∃ L : List Nat, s = L.map (nth l) ∧ L.Pairwise (Lx (nth l)) ∧ ∀ t, t ∈ L ↔ t < l.length
theorem lx_unique : ∀ s t : List Nat, s.Pairwise (Lx F) → t.Pairwise (Lx F) → (∀ x, x ∈ s ↔ x ∈ t) → s = t
  | [], [], _, _, _ => rfl
  | [], y :: t, _, _, h => absurd ((h y).2 (by simp)) (by simp)
  | x :: s, [], _, _, h => absurd ((h x).1 (by simp)) (by simp)
  | x :: s, y :: t, hs, ht, h => by
    have hs' := List.pairwise_cons.1 hs
    have ht' := List.pairwise_cons.1 ht
    have exy : x = y := by
      rcases List.mem_cons.1 ((h x).1 (by simp)) with e | hx
      · exact e
      · rcases List.mem_cons.1 ((h y).2 (by simp)) with e | hy
        · exact e.symm
        · exact absurd (lx_trans (ht'.1 x hx) (hs'.1 y hy)) (lx_irr _)
    subst exy
    have hx1 : x ∉ s := fun hx => lx_irr _ (hs'.1 x hx)
    have hx2 : x ∉ t := fun hx => lx_irr _ (ht'.1 x hx)
    rw [lx_unique s t hs'.2 ht'.2 fun z => ?_]
    by_cases e : z = x
    · subst e
      exact ⟨fun hz => absurd hz hx1, fun hz => absurd hz hx2⟩
    · have := h z
      simpa [e] using this
theorem stb_unique {l s t : List Nd} (h : StbS l s) (k : StbS l t) : s = t := by
  obtain ⟨L, e1, p1, m1⟩ := h
  obtain ⟨M, e2, p2, m2⟩ := k
  rw [e1, e2, lx_unique L M p1 p2 fun x => by rw [m1, m2]]
theorem nth_map (l : List Nd) : (List.range l.length).map (nth l) = l := by
  apply List.ext_getElem
  · simp
  · intro i h1 h2
    simp [nth, List.getElem?_eq_getElem h2]
theorem StbS.perm {l s : List Nd} (h : StbS l s) : s.Perm l := by
  obtain ⟨L, e1, p1, m1⟩ := h
  have hn : L.Nodup := p1.imp fun {a b} h e => by subst e; exact lx_irr _ h
  have hp : L.Perm (List.range l.length) := (List.perm_ext_iff_of_nodup hn List.nodup_range).2 fun a => by rw [m1, List.mem_range]
  rw [e1]
  refine (hp.map (nth l)).trans ?_
  rw [nth_map]
theorem StbS.srt {l s : List Nd} (h : StbS l s) : Srt l s := by
  refine ⟨h.perm, ?_⟩
  obtain ⟨L, e1, p1, _⟩ := h
  rw [e1, List.pairwise_map]
  exact p1.imp fun {a b} h => h.1
/-- Numbers below n without repetition are all the numbers below n. -/
theorem pig : ∀ (n : Nat) (f : Nat → Nat), (∀ k, k < n → f k < n) → (∀ p q, p < q → q < n → f p ≠ f q) → ∀ t, t < n → ∃ k, k < n ∧ f k = t
  | 0, _, _, _, t, h => by omega
  | n + 1, f, h1, h2, t, ht => by
    by_cases hc : f n = t
    · exact ⟨n, by omega, hc⟩
    · have hg := pig n (fun k => if f k = n then f n else f k) (fun k hk => by
        show (if f k = n then f n else f k) < n
        have a1 := h1 k (by omega)
        have a2 := h1 n (by omega)
        have a3 := h2 k n hk (by omega)
        split <;> omega) (fun p q hp hq => by
        show (if f p = n then f n else f p) ≠ (if f q = n then f n else f q)
        have a1 := h2 p q hp (by omega)
        have a2 := h2 p n (by omega) (by omega)
        have a3 := h2 q n (by omega) (by omega)
        split <;> split <;> omega)
      rcases Nat.lt_or_ge t n with h3 | h3
      · obtain ⟨k, k1, k2⟩ := hg t h3
        by_cases h4 : f k = n
        · rw [if_pos h4] at k2; exact absurd k2 hc
        · rw [if_neg h4] at k2; exact ⟨k, by omega, k2⟩
      · have h5 : t = n := by omega
        subst h5
        have h6 := h1 t (by omega)
        obtain ⟨k, k1, k2⟩ := hg (f t) (by omega)
        by_cases h4 : f k = t
        · exact ⟨k, by omega, h4⟩
        · rw [if_neg h4] at k2; exact absurd k2 (h2 k t k1 (by omega))
theorem stb_of {l : List Nd} {n : Nat} {d : Array Nd} {G : Nat → Nat} (hn : l.length = n) (hr : Rp (nth l) n d G) (hs : Sd (nth l) 0 n G) (hg : ∀ k, k < n → G k < n) : StbS l d.toList := by
  subst hn
  refine ⟨(List.range l.length).map G, ?_, ?_, fun t => ?_⟩
  · apply List.ext_getElem
    · simp [hr.1]
    · intro i h1 h2
      have hi : i < l.length := by simpa using h2
      have := hr.2 i hi
      rw [getElem!_pos d i (by rw [hr.1]; exact hi)] at this
      simpa using this
  · rw [List.pairwise_map]
    exact List.pairwise_iff_getElem.2 fun i j hi hj hij => by
      simp at hi hj ⊢
      exact hs i j (Nat.zero_le _) hij hj
  · rw [List.mem_map]
    constructor
    · rintro ⟨k, hk, rfl⟩
      exact hg k (List.mem_range.1 hk)
    · intro ht
      obtain ⟨k, k1, k2⟩ := pig l.length G hg (fun p q hp hq e => lx_irr (F := nth l) (G q) (by have := hs p q (Nat.zero_le _) hp hq; rwa [e] at this)) t ht
      exact ⟨k, List.mem_range.2 k1, k2⟩
end
end Go.Proofs.YtiafimbehcemcaaDoor
