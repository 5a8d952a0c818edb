/-
  The sort of the library beyond one block of twenty, plain: numbered nodes, the order that also looks at the numbers, exchanges, rotations, cuts. No condition.
  The library's insertion sort at numbered nodes; what a sorted list that keeps equal nodes in their order is, and that there is only one; cuts by searching; plain. No condition.
  The library's exchange of ranges, rotation and merge in place at a row of nodes: what they leave. Condition: the row is as the sort holds it.
  The library's merge in place at a row of nodes: what it leaves. Condition: the row is as the sort holds it.
-/
import Derived.Test.YtjokbdhineilcaaGreatDoorLgA
namespace Go.Proofs.YtjokbdhineilcaaGreatDoor
section
open Go.RowKit

/-- The order of numbered nodes: by nlt, then by number. -/
def Lx (F : Nat → Nd) (i j : Nat) : Prop := nlt (F j) (F i) = false ∧ (nlt (F i) (F j) = true ∨ i < j)
section
variable {F : Nat → Nd}
theorem lx_trans {i j k : Nat} (h : Lx F i j) (q : Lx F j k) : Lx F i k := by
  refine ⟨nlt_swo.ntrans _ _ _ q.1 h.1, ?_⟩
  cases e : nlt (F i) (F k)
  · right
    have h1 : nlt (F i) (F j) = false := nlt_swo.ntrans _ _ _ e q.1
    have h2 : nlt (F j) (F k) = false := nlt_swo.ntrans _ _ _ h.1 e
    have h3 := h.2
    have h4 := q.2
    rw [h1] at h3
    rw [h2] at h4
    simp at h3 h4
    omega
  · exact .inl rfl
theorem lx_irr (i : Nat) : ¬ Lx F i i := by
  rintro ⟨h1, h2 | h2⟩
  · rw [h1] at h2; cases h2
  · omega
theorem lx_up {i j : Nat} (h : j < i) : Lx F i j ↔ nlt (F i) (F j) = true := by
  constructor
  · rintro ⟨_, h2 | h2⟩
    · exact h2
    · omega
  · exact fun k => ⟨nlt_swo.asymmA k, .inl k⟩
theorem lx_dn {i j : Nat} (h : j < i) : Lx F j i ↔ nlt (F i) (F j) = false := ⟨fun k => k.1, fun k => ⟨k, .inr h⟩⟩
/-- Ascending between a and b. -/
def Sd (F : Nat → Nd) (a b : Nat) (G : Nat → Nat) : Prop := ∀ p q, a ≤ p → p < q → q < b → Lx F (G p) (G q)
/-- Only what lies between a and b has changed places. -/
def Wi (a b : Nat) (G G' : Nat → Nat) : Prop := (∀ k, (k < a ∨ b ≤ k) → G' k = G k) ∧ ∀ k, a ≤ k → k < b → ∃ k', a ≤ k' ∧ k' < b ∧ G' k = G k'
theorem Wi.refl (a b : Nat) (G : Nat → Nat) : Wi a b G G := ⟨fun _ _ => rfl, fun k h1 h2 => ⟨k, h1, h2, rfl⟩⟩
theorem Wi.trans {a b : Nat} {G H K : Nat → Nat} (h : Wi a b G H) (k : Wi a b H K) : Wi a b G K :=
  ⟨fun x hx => (k.1 x hx).trans (h.1 x hx), fun x h1 h2 => by
    obtain ⟨y, y1, y2, e⟩ := k.2 x h1 h2
    obtain ⟨z, z1, z2, e2⟩ := h.2 y y1 y2
    exact ⟨z, z1, z2, e.trans e2⟩⟩
theorem Wi.mono {a b a' b' : Nat} {G H : Nat → Nat} (h : Wi a b G H) (h1 : a' ≤ a) (h2 : b ≤ b') : Wi a' b' G H :=
  ⟨fun x hx => h.1 x (by omega), fun x k1 k2 => by
    by_cases hx : a ≤ x ∧ x < b
    · obtain ⟨y, y1, y2, e⟩ := h.2 x hx.1 hx.2
      exact ⟨y, by omega, by omega, e⟩
    · exact ⟨x, k1, k2, h.1 x (by omega)⟩⟩
theorem Wi.sd {a b c d : Nat} {G H : Nat → Nat} (h : Wi a b G H) (hs : Sd F c d G) (hd : d ≤ a ∨ b ≤ c) : Sd F c d H := fun p q h1 h2 h3 => by
  rw [h.1 p (by omega), h.1 q (by omega)]
  exact hs p q h1 h2 h3
/-- The numbers ahead of c are less than those from c on. -/
def Ts (n c : Nat) (G : Nat → Nat) : Prop := ∀ p q, p < c → c ≤ q → q < n → G p < G q
theorem Wi.ts {a b c n : Nat} {G H : Nat → Nat} (h : Wi a b G H) (hs : Ts n c G) (hd : c ≤ a ∨ b ≤ c) (hb : b ≤ n) : Ts n c H := fun p q h1 h2 h3 => by
  have hp : ∃ p', p' < c ∧ H p = G p' := by
    by_cases hx : a ≤ p ∧ p < b
    · obtain ⟨y, y1, y2, e⟩ := h.2 p hx.1 hx.2
      exact ⟨y, by omega, e⟩
    · exact ⟨p, h1, h.1 p (by omega)⟩
  have hq : ∃ q', c ≤ q' ∧ q' < n ∧ H q = G q' := by
    by_cases hx : a ≤ q ∧ q < b
    · obtain ⟨y, y1, y2, e⟩ := h.2 q hx.1 hx.2
      exact ⟨y, by omega, by omega, e⟩
    · exact ⟨q, h2, h3, h.1 q (by omega)⟩
  obtain ⟨p', p1, e1⟩ := hp
  obtain ⟨q', q1, q2, e2⟩ := hq
  rw [e1, e2]
  exact hs p' q' p1 q1 q2
/-- Exchanges. -/
def sw (i j : Nat) (G : Nat → Nat) : Nat → Nat := fun k => if k = j then G i else if k = i then G j else G k
def swr (a b n : Nat) (G : Nat → Nat) : Nat → Nat := fun k => if a ≤ k ∧ k < a + n then G (k + (b - a)) else if b ≤ k ∧ k < b + n then G (k - (b - a)) else G k
def rot (a m b : Nat) (G : Nat → Nat) : Nat → Nat := fun k => if a ≤ k ∧ k < a + (b - m) then G (k + (m - a)) else if a + (b - m) ≤ k ∧ k < b then G (k - (b - m)) else G k
theorem swr_zero (a b : Nat) (G : Nat → Nat) : swr a b 0 G = G := by
  funext k; unfold swr; rw [if_neg (by omega), if_neg (by omega)]
theorem swr_next {a b n : Nat} (h : a + n < b) (G : Nat → Nat) : sw (a + n) (b + n) (swr a b n G) = swr a b (n + 1) G := by
  funext k
  unfold sw swr
  by_cases h1 : k = b + n
  · subst h1
    rw [if_pos rfl, if_neg (by omega), if_neg (by omega), if_neg (by omega), if_pos (by omega)]
    congr 1; omega
  · rw [if_neg h1]
    by_cases h2 : k = a + n
    · subst h2
      rw [if_pos rfl, if_neg (by omega), if_neg (by omega), if_pos (by omega)]
      congr 1; omega
    · rw [if_neg h2]
      by_cases h3 : a ≤ k ∧ k < a + n
      · rw [if_pos h3, if_pos (by omega)]
      · by_cases h4 : b ≤ k ∧ k < b + n
        · rw [if_neg h3, if_pos h4, if_neg (by omega), if_pos (by omega)]
        · rw [if_neg h3, if_neg h4, if_neg (by omega), if_neg (by omega)]
theorem rot_more {m i j : Nat} (him : i ≤ m) (hij : j < i) (G : Nat → Nat) : rot (m - (i - j)) m (m + j) (swr (m - i) m j G) = rot (m - i) m (m + j) G := by
  funext k
  unfold rot swr
  by_cases h1 : k < m - i
  · rw [if_neg (by omega), if_neg (by omega), if_neg (by omega), if_neg (by omega), if_neg (by omega), if_neg (by omega)]
  · by_cases h2 : k < m - i + j
    · rw [if_neg (by omega), if_neg (by omega), if_pos (by omega), if_pos (by omega)]
    · by_cases h3 : k < m - (i - j) + j
      · rw [if_pos (by omega), if_neg (by omega), if_pos (by omega), if_neg (by omega), if_pos (by omega)]
        congr 1; omega
      · by_cases h4 : k < m + j
        · rw [if_neg (by omega), if_pos (by omega), if_neg (by omega), if_neg (by omega), if_neg (by omega), if_pos (by omega)]
        · rw [if_neg (by omega), if_neg (by omega), if_neg (by omega), if_neg (by omega), if_neg (by omega), if_neg (by omega)]
theorem rot_less {m i j : Nat} (him : i ≤ m) (hij : i < j) (G : Nat → Nat) : rot (m - i) m (m + (j - i)) (swr (m - i) (m + j - i) i G) = rot (m - i) m (m + j) G := by
  funext k
  unfold rot swr
  by_cases h1 : k < m - i
  · rw [if_neg (by omega), if_neg (by omega), if_neg (by omega), if_neg (by omega), if_neg (by omega), if_neg (by omega)]
  · by_cases h2 : k < m - i + (j - i)
    · by_cases h5 : k + i < m + j - i
      · rw [if_pos (by omega)]
        by_cases h6 : k + (m - (m - i)) < m - i + i
        · omega
        · rw [if_neg (by omega), if_neg (by omega), if_pos (by omega)]
      · omega
    · by_cases h3 : k < m + (j - i)
      · rw [if_neg (by omega), if_pos (by omega), if_pos (by omega), if_pos (by omega)]
        congr 1; omega
      · by_cases h4 : k < m + j
        · rw [if_neg (by omega), if_neg (by omega), if_neg (by omega), if_pos (by omega), if_neg (by omega), if_pos (by omega)]
          congr 1; omega
        · rw [if_neg (by omega), if_neg (by omega), if_neg (by omega), if_neg (by omega), if_neg (by omega), if_neg (by omega)]
theorem rot_same {m i : Nat} (him : i ≤ m) (G : Nat → Nat) : swr (m - i) m i G = rot (m - i) m (m + i) G := by
  funext k
  unfold rot swr
  by_cases h1 : k < m - i
  · rw [if_neg (by omega), if_neg (by omega), if_neg (by omega), if_neg (by omega)]
  · by_cases h2 : k < m
    · rw [if_pos (by omega), if_pos (by omega)]
    · by_cases h3 : k < m + i
      · rw [if_neg (by omega), if_pos (by omega), if_neg (by omega), if_pos (by omega)]
        congr 1; omega
      · rw [if_neg (by omega), if_neg (by omega), if_neg (by omega), if_neg (by omega)]
theorem rot_left (m b : Nat) (G : Nat → Nat) : rot m m b G = G := by
  funext k; unfold rot
  by_cases h : m ≤ k ∧ k < m + (b - m)
  · rw [if_pos h]; congr 1; omega
  · rw [if_neg h, if_neg (by omega)]
theorem rot_right {a m : Nat} (_h : a ≤ m) (G : Nat → Nat) : rot a m m G = G := by
  funext k; unfold rot
  rw [if_neg (by omega)]
  by_cases h : a + (m - m) ≤ k ∧ k < m
  · rw [if_pos h]; congr 1; omega
  · rw [if_neg h]
theorem rot_up {a k : Nat} (_h : a ≤ k) (G : Nat → Nat) : sw k (k + 1) (rot a (a + 1) (k + 1) G) = rot a (a + 1) (k + 2) G := by
  funext x
  unfold sw rot
  by_cases h1 : x = k + 1
  · subst h1
    rw [if_pos rfl, if_neg (by omega), if_pos (by omega), if_neg (by omega), if_pos (by omega)]
    congr 1; omega
  · rw [if_neg h1]
    by_cases h2 : x = k
    · subst h2
      rw [if_pos rfl, if_neg (by omega), if_neg (by omega), if_pos (by omega)]
      congr 1; omega
    · rw [if_neg h2]
      by_cases h3 : a ≤ x ∧ x < k
      · rw [if_pos (by omega), if_pos (by omega)]
      · rw [if_neg (by omega), if_neg (by omega), if_neg (by omega), if_neg (by omega)]
theorem rot_down {k m : Nat} (h : k < m) (G : Nat → Nat) : sw (k + 1) k (rot (k + 1) m (m + 1) G) = rot k m (m + 1) G := by
  funext x
  unfold sw rot
  by_cases h1 : x = k
  · subst h1
    rw [if_pos rfl, if_pos (by omega), if_pos (by omega)]
    congr 1; omega
  · rw [if_neg h1]
    by_cases h2 : x = k + 1
    · subst h2
      rw [if_pos rfl, if_neg (by omega), if_neg (by omega), if_neg (by omega), if_pos (by omega)]
      congr 1; omega
    · rw [if_neg h2]
      by_cases h3 : k + 1 < x ∧ x < m + 1
      · rw [if_neg (by omega), if_pos (by omega), if_neg (by omega), if_pos (by omega)]
      · rw [if_neg (by omega), if_neg (by omega), if_neg (by omega), if_neg (by omega)]
theorem rot_wi {a m b : Nat} (h1 : a ≤ m) (h2 : m ≤ b) (G : Nat → Nat) : Wi a b G (rot a m b G) := by
  refine ⟨fun k hk => ?_, fun k k1 k2 => ?_⟩
  · unfold rot; rw [if_neg (by omega), if_neg (by omega)]
  · unfold rot
    by_cases h : a ≤ k ∧ k < a + (b - m)
    · rw [if_pos h]; exact ⟨_, by omega, by omega, rfl⟩
    · rw [if_neg h, if_pos (by omega)]; exact ⟨_, by omega, by omega, rfl⟩
theorem rot_lo {a m b k : Nat} (G : Nat → Nat) (h1 : a ≤ k) (h2 : k < a + (b - m)) : rot a m b G k = G (k + (m - a)) := by unfold rot; rw [if_pos ⟨h1, h2⟩]
theorem rot_hi {a m b k : Nat} (G : Nat → Nat) (h1 : a + (b - m) ≤ k) (h2 : k < b) : rot a m b G k = G (k - (b - m)) := by unfold rot; rw [if_neg (by omega), if_pos ⟨h1, h2⟩]
theorem rot_out {a m b k : Nat} (G : Nat → Nat) (h1 : m ≤ b) (h : k < a ∨ b ≤ k) (h2 : a ≤ m) : rot a m b G k = G k := by unfold rot; rw [if_neg (by omega), if_neg (by omega)]
/-- Less or the same. -/
theorem sd_le {a b : Nat} {G : Nat → Nat} (h : Sd F a b G) {p q r : Nat} (h1 : a ≤ p) (h2 : p ≤ q) (h3 : q < b) (k : Lx F (G q) r) : Lx F (G p) r := by
  rcases Nat.lt_or_ge p q with h4 | h4
  · exact lx_trans (h p q h1 h4 h3) k
  · have : p = q := by omega
    subst this; exact k
theorem sd_ge {a b : Nat} {G : Nat → Nat} (h : Sd F a b G) {p q r : Nat} (h1 : a ≤ p) (h2 : p ≤ q) (h3 : q < b) (k : Lx F r (G p)) : Lx F r (G q) := by
  rcases Nat.lt_or_ge p q with h4 | h4
  · exact lx_trans k (h p q h1 h4 h3)
  · have : p = q := by omega
    subst this; exact k
/-- What a cut and a rotation leave: four ascending parts, the first two before the last two. -/
structure Cut4 (F : Nat → Nd) (a s c e b : Nat) (G : Nat → Nat) : Prop where
  one : Sd F a s G
  two : Sd F s c G
  three : Sd F c e G
  four : Sd F e b G
  lr : ∀ p q, a ≤ p → p < c → c ≤ q → q < b → Lx F (G p) (G q)
theorem cut4 {a s m e b : Nat} {G : Nat → Nat} (h1 : Sd F a m G) (h2 : Sd F m b G) (ha : a ≤ s) (hs : s ≤ m) (hm : m ≤ e) (he : e ≤ b)
    (k1 : s < m → m < e → Lx F (G (e - 1)) (G s)) (k2 : a < s → e < b → Lx F (G (s - 1)) (G e)) : Cut4 F a s (s + (e - m)) e b (rot s m e G) where
  one p q p1 p2 p3 := by
    rw [rot_out G hm (by omega) hs, rot_out G hm (by omega) hs]
    exact h1 p q p1 p2 (by omega)
  two p q p1 p2 p3 := by
    rw [rot_lo G (by omega) (by omega), rot_lo G (by omega) (by omega)]
    exact h2 _ _ (by omega) (by omega) (by omega)
  three p q p1 p2 p3 := by
    rw [rot_hi G (by omega) (by omega), rot_hi G (by omega) (by omega)]
    exact h1 _ _ (by omega) (by omega) (by omega)
  four p q p1 p2 p3 := by
    rw [rot_out G hm (by omega) hs, rot_out G hm (by omega) hs]
    exact h2 p q (by omega) p2 p3
  lr p q p1 p2 q1 q2 := by
    by_cases hp : p < s
    · rw [rot_out G hm (by omega) hs]
      by_cases hq : q < e
      · rw [rot_hi G q1 hq]
        exact h1 _ _ p1 (by omega) (by omega)
      · rw [rot_out G hm (by omega) hs]
        exact sd_le h1 p1 (show p ≤ s - 1 by omega) (by omega) (sd_ge h2 hm (show e ≤ q by omega) q2 (k2 (by omega) (by omega)))
    · rw [rot_lo G (by omega) (by omega)]
      by_cases hq : q < e
      · rw [rot_hi G q1 hq]
        exact sd_le h2 (by omega) (show p + (m - s) ≤ e - 1 by omega) (by omega) (sd_ge h1 ha (show s ≤ q - (e - m) by omega) (by omega) (k1 (by omega) (by omega)))
      · rw [rot_out G hm (by omega) hs]
        exact h2 _ _ (by omega) (by omega) q2
/-- The two halves, put together. -/
theorem cut4_join {a s c e b : Nat} {G H : Nat → Nat} (h : Cut4 F a s c e b G) (k1 : Sd F a c H) (k2 : Sd F c b H) (hl : ∀ k, a ≤ k → k < c → ∃ k', a ≤ k' ∧ k' < c ∧ H k = G k') (hr : ∀ k, c ≤ k → k < b → ∃ k', c ≤ k' ∧ k' < b ∧ H k = G k') : Sd F a b H := fun p q p1 p2 p3 => by
  by_cases hq : q < c
  · exact k1 p q p1 p2 hq
  · by_cases hp : c ≤ p
    · exact k2 p q hp p2 p3
    · obtain ⟨p', a1, a2, e1⟩ := hl p p1 (by omega)
      obtain ⟨q', b1, b2, e2⟩ := hr q (by omega) p3
      rw [e1, e2]
      exact h.lr p' q' a1 a2 b1 b2
end
end
section
open Go.RowKit

section
variable {F : Nat → Nd}
/-- The row holds the numbered nodes in the order of G. -/
def Rp (F : Nat → Nd) (n : Nat) (d : Array Nd) (G : Nat → Nat) : Prop := d.size = n ∧ ∀ k, k < n → d[k]! = F (G k)
theorem Rp.swap {n i j : Nat} {d : Array Nd} {G : Nat → Nat} (h : Rp F n d G) (hi : i < n) (hj : j < n) : Rp F n (Go.Sort.swp d i j) (sw i j G) := by
  refine ⟨by rw [Go.Sort.swp_size]; exact h.1, fun k hk => ?_⟩
  rw [Go.Sort.swp_get d (by rw [h.1]; exact hi) (by rw [h.1]; exact hj)]
  unfold sw
  split
  · exact h.2 i hi
  · split
    · exact h.2 j hj
    · exact h.2 k hk
/-- Ascending up to i but for the place j; what lies there is less than all behind it, and its number is greater than those ahead. -/
structure InT (F : Nat → Nd) (a j i : Nat) (G : Nat → Nat) : Prop where
  rest : ∀ p q, a ≤ p → p < q → q ≤ i → p ≠ j → q ≠ j → Lx F (G p) (G q)
  right : ∀ q, j < q → q ≤ i → Lx F (G j) (G q)
  tag : ∀ p, a ≤ p → p < j → G p < G j
theorem InT.stop {a j i : Nat} {G : Nat → Nat} (h : InT F a j i G) (hs : j ≤ a ∨ nlt (F (G j)) (F (G (j - 1))) = false) : Sd F a (i + 1) G := fun p q p1 p2 p3 => by
  by_cases hq : q = j
  · subst hq
    have hlt : Lx F (G (q - 1)) (G q) := by
      rcases hs with hs | hs
      · omega
      · exact (lx_dn (h.tag (q - 1) (by omega) (by omega))).2 hs
    by_cases hp : p = q - 1
    · subst hp; exact hlt
    · exact lx_trans (h.rest p (q - 1) p1 (by omega) (by omega) (by omega) (by omega)) hlt
  · by_cases hp : p = j
    · subst hp; exact h.right q p2 (by omega)
    · exact h.rest p q p1 p2 (by omega) hp hq
theorem InT.step {a j i : Nat} {G : Nat → Nat} (h : InT F a (j + 1) i G) (hl : Lx F (G (j + 1)) (G j)) (ha : a ≤ j) (hji : j + 1 ≤ i) : InT F a j i (sw (j + 1) j G) where
  rest p q p1 p2 p3 p4 p5 := by
    unfold sw
    rw [if_neg p4, if_neg p5]
    by_cases h1 : p = j + 1
    · rw [if_pos h1, if_neg (by omega)]
      exact h.rest j q ha (by omega) p3 (by omega) (by omega)
    · rw [if_neg h1]
      by_cases h2 : q = j + 1
      · rw [if_pos h2]
        exact h.rest p j p1 (by omega) (by omega) (by omega) (by omega)
      · rw [if_neg h2]
        exact h.rest p q p1 p2 p3 h1 h2
  right q q1 q2 := by
    unfold sw
    rw [if_pos rfl, if_neg (by omega)]
    by_cases h2 : q = j + 1
    · rw [if_pos h2]; exact hl
    · rw [if_neg h2]; exact h.right q (by omega) q2
  tag p p1 p2 := by
    unfold sw
    rw [if_pos rfl, if_neg (by omega), if_neg (by omega)]
    exact h.tag p p1 (by omega)
theorem sw_wi {a i j : Nat} {G : Nat → Nat} (ha : a ≤ j) (hji : j + 1 ≤ i) : Wi a (i + 1) G (sw (j + 1) j G) := by
  refine ⟨fun k hk => ?_, fun k k1 k2 => ?_⟩
  · unfold sw; rw [if_neg (by omega), if_neg (by omega)]
  · unfold sw
    split
    · exact ⟨j + 1, by omega, by omega, rfl⟩
    · split
      · exact ⟨j, by omega, by omega, rfl⟩
      · exact ⟨k, k1, k2, rfl⟩
theorem ins_inner {n a i : Nat} (hi : i < n) : ∀ (j : Nat) (d : Array Nd) (G : Nat → Nat), Rp F n d G → a ≤ j → j ≤ i → InT F a j i G → ∃ G', Rp F n (Go.Sort.insInner nlt a j d) G' ∧ Wi a (i + 1) G G' ∧ Sd F a (i + 1) G'
  | 0, d, G, hr, ha, _, hI => ⟨G, hr, Wi.refl _ _ _, hI.stop (.inl (Nat.zero_le _))⟩
  | j + 1, d, G, hr, ha, hj, hI => by
    by_cases hc : a < j + 1 ∧ nlt d[j + 1]! d[j]! = true
    · have hk : Lx F (G (j + 1)) (G j) := by
        have := hc.2
        rw [hr.2 _ (by omega), hr.2 _ (by omega)] at this
        exact (lx_up (hI.tag j (by omega) (by omega))).2 this
      obtain ⟨G', r1, r2, r3⟩ := ins_inner hi j _ _ (hr.swap (show j + 1 < n by omega) (show j < n by omega)) (by omega) (by omega) (hI.step hk (by omega) hj)
      refine ⟨G', ?_, (sw_wi (by omega) hj).trans r2, r3⟩
      rw [Go.Sort.insInner, if_pos (by simp [hc.2]; omega)]
      exact r1
    · refine ⟨G, ?_, Wi.refl _ _ _, hI.stop ?_⟩
      · rw [Go.Sort.insInner, if_neg (by simpa using hc)]
        exact hr
      · by_cases h1 : a < j + 1
        · right
          have h2 : nlt d[j + 1]! d[j]! = false := by
            cases e : nlt d[j + 1]! d[j]!
            · rfl
            · exact absurd ⟨h1, e⟩ hc
          rw [hr.2 _ (by omega), hr.2 _ (by omega)] at h2
          simpa using h2
        · left; omega
theorem ins_outer {n a b : Nat} (hb : b ≤ n) : ∀ (m i : Nat) (d : Array Nd) (G : Nat → Nat), b - i = m → a < i → i ≤ b → Rp F n d G → Sd F a i G → (∀ p q, a ≤ p → p < q → i ≤ q → q < b → G p < G q) → ∃ G', Rp F n (Go.Sort.insOuter nlt a b i d) G' ∧ Wi a b G G' ∧ Sd F a b G'
  | 0, i, d, G, hm, ha, hi, hr, hs, _ => by
    have : i = b := by omega
    subst this
    refine ⟨G, ?_, Wi.refl _ _ _, hs⟩
    rw [Go.Sort.insOuter, if_neg (by omega)]
    exact hr
  | m + 1, i, d, G, hm, ha, hi, hr, hs, ht => by
    have hib : i < b := by omega
    obtain ⟨G1, r1, w1, s1⟩ := ins_inner (F := F) (a := a) (i := i) (show i < n by omega) i d G hr (by omega) (Nat.le_refl _) ⟨fun p q p1 p2 p3 _ p5 => hs p q p1 p2 (by omega), fun q q1 q2 => by omega, fun p p1 p2 => ht p i p1 p2 (Nat.le_refl _) hib⟩
    obtain ⟨G2, r2, w2, s2⟩ := ins_outer hb m (i + 1) _ G1 (by omega) (by omega) hib r1 s1 (fun p q p1 p2 q1 q2 => by
      rw [w1.1 q (by omega)]
      by_cases hp : p < i + 1
      · obtain ⟨p', a1, a2, e⟩ := w1.2 p p1 hp
        rw [e]
        exact ht p' q a1 (by omega) (by omega) q2
      · rw [w1.1 p (by omega)]
        exact ht p q p1 p2 (by omega) q2)
    refine ⟨G2, ?_, (w1.mono (Nat.le_refl _) hib).trans w2, s2⟩
    rw [Go.Sort.insOuter, if_pos hib]
    exact r2
theorem ins_tag {n a b : Nat} {d : Array Nd} {G : Nat → Nat} (hr : Rp F n d G) (hab : a ≤ b) (hb : b ≤ n) (ht : ∀ p q, a ≤ p → p < q → q < b → G p < G q) : ∃ G', Rp F n (Go.Sort.insertionSort nlt d a b) G' ∧ Wi a b G G' ∧ Sd F a b G' := by
  unfold Go.Sort.insertionSort
  rcases Nat.lt_or_ge a b with h | h
  · exact ins_outer hb (b - (a + 1)) (a + 1) d G rfl (by omega) (by omega) hr (fun p q p1 p2 p3 => by omega) (fun p q p1 p2 _ p4 => ht p q p1 p2 p4)
  · refine ⟨G, ?_, Wi.refl _ _ _, fun p q p1 p2 p3 => by omega⟩
    rw [Go.Sort.insOuter, if_neg (by omega)]
    exact hr
/-- What a list sorted so that equal nodes keep their order is. -/
def nth (l : List Nd) (i : Nat) : Nd := (l[i]?).getD Nd.none
def StbS (l s : List Nd) : Prop := ∃ L : List Nat, s = L.map (nth l) ∧ L.Pairwise (Lx (nth l)) ∧ ∀ t, t ∈ L ↔ t < l.length
theorem lx_unique : ∀ s t : List Nat, s.Pairwise (Lx F) → t.Pairwise (Lx F) → (∀ x, x ∈ s ↔ x ∈ t) → s = t
  | [], [], _, _, _ => rfl
  | [], y :: t, _, _, h => absurd ((h y).2 (by simp)) (by simp)
  | x :: s, [], _, _, h => absurd ((h x).1 (by simp)) (by simp)
  | x :: s, y :: t, hs, ht, h => by
    have hs' := List.pairwise_cons.1 hs
    have ht' := List.pairwise_cons.1 ht
    have exy : x = y := by
      rcases List.mem_cons.1 ((h x).1 (by simp)) with e | hx
      · exact e
      · rcases List.mem_cons.1 ((h y).2 (by simp)) with e | hy
        · exact e.symm
        · exact absurd (lx_trans (ht'.1 x hx) (hs'.1 y hy)) (lx_irr _)
    subst exy
    have hx1 : x ∉ s := fun hx => lx_irr _ (hs'.1 x hx)
    have hx2 : x ∉ t := fun hx => lx_irr _ (ht'.1 x hx)
    rw [lx_unique s t hs'.2 ht'.2 fun z => ?_]
    by_cases e : z = x
    · subst e
      exact ⟨fun hz => absurd hz hx1, fun hz => absurd hz hx2⟩
    · have := h z
      simpa [e] using this
theorem stb_unique {l s t : List Nd} (h : StbS l s) (k : StbS l t) : s = t := by
  obtain ⟨L, e1, p1, m1⟩ := h
  obtain ⟨M, e2, p2, m2⟩ := k
  rw [e1, e2, lx_unique L M p1 p2 fun x => by rw [m1, m2]]
theorem nth_map (l : List Nd) : (List.range l.length).map (nth l) = l := by
  apply List.ext_getElem
  · simp
  · intro i h1 h2
    simp [nth, List.getElem?_eq_getElem h2]
theorem StbS.perm {l s : List Nd} (h : StbS l s) : s.Perm l := by
  obtain ⟨L, e1, p1, m1⟩ := h
  have hn : L.Nodup := p1.imp fun {a b} h e => by subst e; exact lx_irr _ h
  have hp : L.Perm (List.range l.length) := (List.perm_ext_iff_of_nodup hn List.nodup_range).2 fun a => by rw [m1, List.mem_range]
  rw [e1]
  refine (hp.map (nth l)).trans ?_
  rw [nth_map]
theorem StbS.srt {l s : List Nd} (h : StbS l s) : Srt l s := by
  refine ⟨h.perm, ?_⟩
  obtain ⟨L, e1, p1, _⟩ := h
  rw [e1, List.pairwise_map]
  exact p1.imp fun {a b} h => h.1
/-- Numbers below n without repetition are all the numbers below n. -/
theorem pig : ∀ (n : Nat) (f : Nat → Nat), (∀ k, k < n → f k < n) → (∀ p q, p < q → q < n → f p ≠ f q) → ∀ t, t < n → ∃ k, k < n ∧ f k = t
  | 0, _, _, _, t, h => by omega
  | n + 1, f, h1, h2, t, ht => by
    by_cases hc : f n = t
    · exact ⟨n, by omega, hc⟩
    · have hg := pig n (fun k => if f k = n then f n else f k) (fun k hk => by
        show (if f k = n then f n else f k) < n
        have a1 := h1 k (by omega)
        have a2 := h1 n (by omega)
        have a3 := h2 k n hk (by omega)
        split <;> omega) (fun p q hp hq => by
        show (if f p = n then f n else f p) ≠ (if f q = n then f n else f q)
        have a1 := h2 p q hp (by omega)
        have a2 := h2 p n (by omega) (by omega)
        have a3 := h2 q n (by omega) (by omega)
        split <;> split <;> omega)
      rcases Nat.lt_or_ge t n with h3 | h3
      · obtain ⟨k, k1, k2⟩ := hg t h3
        by_cases h4 : f k = n
        · rw [if_pos h4] at k2; exact absurd k2 hc
        · rw [if_neg h4] at k2; exact ⟨k, by omega, k2⟩
      · have h5 : t = n := by omega
        subst h5
        have h6 := h1 t (by omega)
        obtain ⟨k, k1, k2⟩ := hg (f t) (by omega)
        by_cases h4 : f k = t
        · exact ⟨k, by omega, h4⟩
        · rw [if_neg h4] at k2; exact absurd k2 (h2 k t k1 (by omega))
theorem stb_of {l : List Nd} {n : Nat} {d : Array Nd} {G : Nat → Nat} (hn : l.length = n) (hr : Rp (nth l) n d G) (hs : Sd (nth l) 0 n G) (hg : ∀ k, k < n → G k < n) : StbS l d.toList := by
  subst hn
  refine ⟨(List.range l.length).map G, ?_, ?_, fun t => ?_⟩
  · apply List.ext_getElem
    · simp [hr.1]
    · intro i h1 h2
      have hi : i < l.length := by simpa using h2
      have := hr.2 i hi
      rw [getElem!_pos d i (by rw [hr.1]; exact hi)] at this
      simpa using this
  · rw [List.pairwise_map]
    exact List.pairwise_iff_getElem.2 fun i j hi hj hij => by
      simp at hi hj ⊢
      exact hs i j (Nat.zero_le _) hij hj
  · rw [List.mem_map]
    constructor
    · rintro ⟨k, hk, rfl⟩
      exact hg k (List.mem_range.1 hk)
    · intro ht
      obtain ⟨k, k1, k2⟩ := pig l.length G hg (fun p q hp hq e => lx_irr (F := nth l) (G q) (by have := hs p q (Nat.zero_le _) hp hq; rwa [e] at this)) t ht
      exact ⟨k, List.mem_range.2 k1, k2⟩
end
end
section
open Go.RowKit

/-- The row of the sort holds the numbered nodes in the order of G. -/
def SG (F : Nat → Nd) (n : Nat) (w0 : World) (g : Nat) (pad : List Value) (W : World) (G : Nat → Nat) : Prop := ∃ d, SRel w0 g pad W d ∧ Rp F n d G
section
variable {F : Nat → Nd} {n : Nat} {w0 W W' : World} {g : Nat} {pad : List Value} {G : Nat → Nat}
theorem SG.below (h : SG F n w0 g pad W G) (k : Below W.heap.size W W') : SG F n w0 g pad W' G := by
  obtain ⟨d, h1, h2⟩ := h
  exact ⟨d, h1.below k, h2⟩
theorem SG.lt (h : SG F n w0 g pad W G) : g < W.heap.size := by
  obtain ⟨d, h1, _⟩ := h
  exact h1.2.lt
theorem SG.less {B : Nat} (hL : LessN B w0 g pad n) (h : SG F n w0 g pad W G) {i j : Nat} (hi : i < n) (hj : j < n) :
    Calls Tryz.prog 80 #[.int .i64 (i : Int), .int .i64 (j : Int), .pointer (some ⟨B, 0, none⟩)] W fun e W' => e = .returned (.bool (nlt (F (G i)) (F (G j)))) ∧ Below W.heap.size W W' := by
  obtain ⟨d, h1, h2⟩ := h
  rw [← h2.2 i hi, ← h2.2 j hj]
  exact hL W d h1 h2.1 i j hi hj
theorem SG.swap {sf : Nat} {sb : Array Value} (hSw : ∀ w1, SwapN sf sb w1 g pad n) (h : SG F n w0 g pad W G) {i j : Nat} (hi : i < n) (hj : j < n) (hij : i ≠ j) :
    ∃ W', (callFunc sf (#[.int .i64 (i : Int), .int .i64 (j : Int)] ++ sb)).run Tryz.prog W = .ok (.value (.tuple #[])) W' ∧ SG F n w0 g pad W' (sw i j G) ∧ W.grownBy W' (some g) := by
  obtain ⟨d, h1, h2⟩ := h
  obtain ⟨W', r, s, _⟩ := hSw W W d (SRel.start h1.2) h2.1 i j hi hj hij
  exact ⟨W', r, ⟨_, s.base h1.1, h2.swap hi hj⟩, s.1⟩
theorem has_aside {w1 : World} (k : w1.grownBy W (some g)) {X : Nat} {t : TypeId} {cs : Array Value} (hX : Has w1 X t cs) (hne : X ≠ g) : Has W X t cs := (k.block X hX.lt (fun e => hne (Option.some.inj e))).trans hX
theorem grown_of (k : Below W.heap.size W W') : W.grownBy W' (some g) := ⟨k.os, k.tape, k.output, k.size, fun i hi _ => k.block i hi⟩
end
/-- What such a call leaves. -/
def SwP (F : Nat → Nd) (n : Nat) (w0 : World) (g : Nat) (pad : List Value) (G' : Nat → Nat) (w : World) (e : Ending) (w' : World) : Prop := e = .returned (.tuple #[]) ∧ w.grownBy w' (some g) ∧ SG F n w0 g pad w' G'

set_option maxRecDepth 100000 in
set_option maxHeartbeats 1600000 in
theorem swapR (F : Nat → Nd) (B g n : Nat) (pad : List Value) (w0 : World) (sf : Nat) (sb : Array Value) (hSw : ∀ w1, SwapN sf sb w1 g pad n) (hn : n ≤ 1000000) (a b m : Nat) (hab : a + m ≤ b) (hb : b + m ≤ n) (G : Nat → Nat) (w : World) (hs : SG F n w0 g pad w G) :
    Calls Tryz.prog 111 #[.agg #[.func (.func 80) #[] #[.pointer (some ⟨B, 0, none⟩)], .func (.func sf) #[] sb], .int .i64 (a : Int), .int .i64 (b : Int), .int .i64 (m : Int)] w (SwP F n w0 g pad (swr a b m G) w) := by
  obtain ⟨w1, hw1⟩ : ∃ w1, w1 = w.alloc (.cells #[.func (.func 80) #[] #[.pointer (some ⟨B, 0, none⟩)], .func (.func sf) #[] sb] 137) := ⟨_, rfl⟩
  have hbw : Below w.heap.size w w1 := by rw [hw1]; exact (Below.refl _ _).alloc (Nat.le_refl _) _
  have hX : Has w1 w.heap.size 137 #[.func (.func 80) #[] #[.pointer (some ⟨B, 0, none⟩)], .func (.func sf) #[] sb] := by rw [hw1]; exact Has.new _ _ _
  have hXg : w.heap.size ≠ g := by have := hs.lt; omega
  have HK := Lib.hid (grown_of (g := g) hbw)
  have HSW := Lib.hid (fun (W : World) (G' : Nat → Nat) (h : SG F n w0 g pad W G') (i j : Nat) (hi : i < n) (hj : j < n) (hij : i ≠ j) => h.swap hSw hi hj hij)
  have hs1 := hs.below hbw
  clear hs hSw hbw
  go_enter Tryz.func111, Tryz.ntmps111
  go_wp2_with fail
  rw [← hw1]
  clear hw1
  go_loopw [8] (fun vi wr => ∃ i : Nat, vi = .int .i64 (i : Int) ∧ i ≤ m ∧ w1.grownBy wr (some g) ∧ SG F n w0 g pad wr (swr a b i G)) (fun vi _ => m - (intOf vi).toNat)
  case atStart => exact ⟨0, rfl, Nat.zero_le _, grownBy_refl _ _, by rw [swr_zero]; exact hs1⟩
  case round =>
    clear hs1
    obtain ⟨i, rfl, him, hgr, hs⟩ := hrel
    by_cases hlt : i < m
    · have hX2 := has_aside hgr hX hXg
      have x1 := hX2.cell 1
      obtain ⟨w2, hr2, hs2, hg2⟩ := HSW.out wr _ hs (a + i) (b + i) (by omega) (by omega) (by omega)
      rw [swr_next (by omega)] at hs2
      rw [show ((a + i : Nat) : Int) = (a : Int) + (i : Int) by omega, show ((b + i : Nat) : Int) = (b : Int) + (i : Int) by omega] at hr2
      have hz : (i : Int) < (m : Int) := by omega
      clear hX2 hs
      go_wp2_with fail
      exact ⟨⟨i + 1, by go_num, hlt, grownBy_trans hgr hg2, hs2⟩, by simp [intOf]; omega⟩
    · have e : i = m := by omega
      subst e
      have hz : ¬ (i : Int) < (i : Int) := by omega
      go_wp2_with fail
      go_end0
      exact ⟨rfl, grownBy_trans HK.out hgr, hs⟩

set_option maxRecDepth 100000 in
set_option maxHeartbeats 1600000 in
theorem rotate (F : Nat → Nd) (B g n : Nat) (pad : List Value) (w0 : World) (sf : Nat) (sb : Array Value) (hSw : ∀ w1, SwapN sf sb w1 g pad n) (hn : n ≤ 1000000) (a m b : Nat) (ham : a < m) (hmb : m < b) (hb : b ≤ n) (G : Nat → Nat) (w : World) (hs : SG F n w0 g pad w G) :
    Calls Tryz.prog 110 #[.agg #[.func (.func 80) #[] #[.pointer (some ⟨B, 0, none⟩)], .func (.func sf) #[] sb], .int .i64 (a : Int), .int .i64 (m : Int), .int .i64 (b : Int)] w (SwP F n w0 g pad (rot a m b G) w) := by
  obtain ⟨w1, hw1⟩ : ∃ w1, w1 = w.alloc (.cells #[.func (.func 80) #[] #[.pointer (some ⟨B, 0, none⟩)], .func (.func sf) #[] sb] 137) := ⟨_, rfl⟩
  have hbw : Below w.heap.size w w1 := by rw [hw1]; exact (Below.refl _ _).alloc (Nat.le_refl _) _
  have hX : Has w1 w.heap.size 137 #[.func (.func 80) #[] #[.pointer (some ⟨B, 0, none⟩)], .func (.func sf) #[] sb] := by rw [hw1]; exact Has.new _ _ _
  have hXg : w.heap.size ≠ g := by have := hs.lt; omega
  have HK := Lib.hid (grown_of (g := g) hbw)
  have HR := Lib.hid (fun (W : World) (G' : Nat → Nat) (h : SG F n w0 g pad W G') (a b m : Nat) (h1 : a + m ≤ b) (h2 : b + m ≤ n) => swapR F B g n pad w0 sf sb hSw hn a b m h1 h2 G' W h)
  have hs1 := hs.below hbw
  have w1' : IntKind.i64.wrap ((m : Int) - (a : Int)) = ((m - a : Nat) : Int) := by rw [show (m : Int) - (a : Int) = ((m - a : Nat) : Int) by omega]; exact IntWalk.i64_in _ (by omega)
  have w2' : IntKind.i64.wrap ((b : Int) - (m : Int)) = ((b - m : Nat) : Int) := by rw [show (b : Int) - (m : Int) = ((b - m : Nat) : Int) by omega]; exact IntWalk.i64_in _ (by omega)
  clear hs hSw hbw
  go_enter Tryz.func110, Tryz.ntmps110
  go_wp2_with fail
  rw [← hw1]
  clear hw1
  go_loopw [8, 9] (fun vi vj wr => ∃ (i j : Nat) (H : Nat → Nat), vi = .int .i64 (i : Int) ∧ vj = .int .i64 (j : Int) ∧ 1 ≤ i ∧ 1 ≤ j ∧ i ≤ m - a ∧ j ≤ b - m ∧ w1.grownBy wr (some g) ∧ SG F n w0 g pad wr H ∧ Hid (rot (m - i) m (m + j) H = rot a m b G)) (fun vi vj _ => (intOf vi).toNat + (intOf vj).toNat)
  case atStart => exact ⟨m - a, b - m, G, by first | rfl | (congr 1; omega), by first | rfl | (congr 1; omega), by omega, by omega, Nat.le_refl _, Nat.le_refl _, grownBy_refl _ _, hs1, Lib.hid (by rw [show m - (m - a) = a by omega, show m + (b - m) = b by omega])⟩
  case round =>
    clear hs1 w1' w2'
    obtain ⟨i, j, H, rfl, rfl, hi1, hj1, him, hjb, hgr, hs, HE⟩ := hrel
    have hX2 := has_aside hgr hX hXg
    have x0 := hX2.cell 0
    have x1 := hX2.cell 1
    clear hX2
    rcases Nat.lt_trichotomy i j with hij | hij | hij
    · have hne : ((i : Int) != (j : Int)) = true := by simp; omega
      have hgt : ¬ (j : Int) < (i : Int) := by omega
      have HC := HR.out wr H hs (m - i) (m + j - i) i (by omega) (by omega)
      rw [show ((m - i : Nat) : Int) = (m : Int) - (i : Int) by omega, show ((m + j - i : Nat) : Int) = (m : Int) + (j : Int) - (i : Int) by omega] at HC
      have HC := Lib.hid HC
      have HRL := Lib.hid (rot_less (m := m) (i := i) (j := j) (by omega) hij H)
      clear hs
      go_wp2_with fail
      refine (HC.out).mono ?_
      rintro e w2 ⟨rfl, hg2, hs2⟩
      go_wp2_with fail
      exact ⟨⟨i, j - i, swr (m - i) (m + j - i) i H, rfl, by first | rfl | (congr 1; omega), hi1, by omega, him, by omega, grownBy_trans hgr hg2, hs2, Lib.hid (HRL.out.trans HE.out)⟩, by simp [intOf]; omega⟩
    · subst hij
      have hne : ((i : Int) != (i : Int)) = false := by simp
      have HC := HR.out wr H hs (m - i) m i (by omega) (by omega)
      rw [show ((m - i : Nat) : Int) = (m : Int) - (i : Int) by omega, rot_same (by omega), HE.out] at HC
      have HC := Lib.hid HC
      clear hs
      go_wp2_with fail
      refine (HC.out).mono ?_
      rintro e w2 ⟨rfl, hg2, hs2⟩
      go_wp2_with fail
      go_end0
      exact ⟨rfl, grownBy_trans HK.out (grownBy_trans hgr hg2), hs2⟩
    · have hne : ((i : Int) != (j : Int)) = true := by simp; omega
      have hgt : (j : Int) < (i : Int) := by omega
      have HC := HR.out wr H hs (m - i) m j (by omega) (by omega)
      rw [show ((m - i : Nat) : Int) = (m : Int) - (i : Int) by omega] at HC
      have HC := Lib.hid HC
      have HRL := Lib.hid (rot_more (m := m) (i := i) (j := j) (by omega) hij H)
      clear hs
      go_wp2_with fail
      refine (HC.out).mono ?_
      rintro e w2 ⟨rfl, hg2, hs2⟩
      go_wp2_with fail
      exact ⟨⟨i - j, j, swr (m - i) m j H, by first | rfl | (congr 1; omega), rfl, by omega, hj1, by omega, hjb, grownBy_trans hgr hg2, hs2, Lib.hid (HRL.out.trans HE.out)⟩, by simp [intOf]; omega⟩
end
section
open Go.RowKit

section
variable {F : Nat → Nd}
theorem one_sd {a i b : Nat} {G : Nat → Nat} (h2 : Sd F (a + 1) b G) (hi : a + 1 ≤ i) (hib : i ≤ b) (k1 : ∀ t, a + 1 ≤ t → t < i → Lx F (G t) (G a)) (k2 : ∀ t, i ≤ t → t < b → Lx F (G a) (G t)) : Sd F a b (rot a (a + 1) i G) := by
  have h := cut4 (F := F) (a := a) (s := a) (m := a + 1) (e := i) (b := b) (G := G) (fun p q p1 p2 p3 => by omega) h2 (Nat.le_refl _) (Nat.le_succ _) hi hib (fun _ h => k1 _ (by omega) (by omega)) (fun h => by omega)
  refine cut4_join h h.two ?_ (fun k p1 p2 => ⟨k, p1, p2, rfl⟩) (fun k p1 p2 => ⟨k, p1, p2, rfl⟩)
  intro p q p1 p2 p3
  by_cases hp : p < i
  · by_cases hq : q < i
    · exact h.three p q p1 p2 hq
    · rw [rot_hi G p1 hp, rot_out G hi (by omega) (Nat.le_succ _), show p - (i - (a + 1)) = a by omega]
      exact k2 q (by omega) p3
  · exact h.four p q (by omega) p2 p3
theorem two_sd {a i m : Nat} {G : Nat → Nat} (h1 : Sd F a m G) (hi : a ≤ i) (him : i ≤ m) (k1 : ∀ t, a ≤ t → t < i → Lx F (G t) (G m)) (k2 : ∀ t, i ≤ t → t < m → Lx F (G m) (G t)) : Sd F a (m + 1) (rot i m (m + 1) G) := by
  have h := cut4 (F := F) (a := a) (s := i) (m := m) (e := m + 1) (b := m + 1) (G := G) h1 (fun p q p1 p2 p3 => by omega) hi him (Nat.le_succ _) (Nat.le_refl _) (fun h _ => k2 _ (by omega) (by omega)) (fun _ h => by omega)
  refine cut4_join h ?_ ?_ (fun k p1 p2 => ⟨k, p1, p2, rfl⟩) (fun k p1 p2 => ⟨k, p1, p2, rfl⟩)
  · intro p q p1 p2 p3
    by_cases hq : q < i
    · exact h.one p q p1 p2 hq
    · rw [rot_out G (Nat.le_succ _) (by omega) him, rot_lo G (by omega) (by omega), show q + (m - i) = m by omega]
      exact k1 p p1 (by omega)
  · intro p q p1 p2 p3
    exact h.three p q p1 p2 p3
end
/-- What a merge leaves. -/
def MgP (F : Nat → Nd) (n : Nat) (w0 : World) (g : Nat) (pad : List Value) (a b : Nat) (G : Nat → Nat) (w : World) (e : Ending) (w' : World) : Prop := e = .returned (.tuple #[]) ∧ w.grownBy w' (some g) ∧ ∃ G', SG F n w0 g pad w' G' ∧ Wi a b G G' ∧ Sd F a b G'

set_option maxRecDepth 100000 in
set_option maxHeartbeats 3200000 in
theorem sym_one (F : Nat → Nd) (B g n : Nat) (pad : List Value) (w0 : World) (sf : Nat) (sb : Array Value) (hSw : ∀ w1, SwapN sf sb w1 g pad n) (hL : LessN B w0 g pad n) (hn : n ≤ 1000000) (a b : Nat) (hab : a + 1 < b) (hb : b ≤ n) (G : Nat → Nat) (w : World) (hs : SG F n w0 g pad w G) (h2 : Sd F (a + 1) b G) (ht : ∀ q, a + 1 ≤ q → q < b → G a < G q) :
    Calls Tryz.prog 108 #[.agg #[.func (.func 80) #[] #[.pointer (some ⟨B, 0, none⟩)], .func (.func sf) #[] sb], .int .i64 (a : Int), .int .i64 ((a + 1 : Nat) : Int), .int .i64 (b : Int)] w (MgP F n w0 g pad a b G w) := by
  obtain ⟨w1, hw1⟩ : ∃ w1, w1 = w.alloc (.cells #[.func (.func 80) #[] #[.pointer (some ⟨B, 0, none⟩)], .func (.func sf) #[] sb] 137) := ⟨_, rfl⟩
  have hbw : Below w.heap.size w w1 := by rw [hw1]; exact (Below.refl _ _).alloc (Nat.le_refl _) _
  have hX : Has w1 w.heap.size 137 #[.func (.func 80) #[] #[.pointer (some ⟨B, 0, none⟩)], .func (.func sf) #[] sb] := by rw [hw1]; exact Has.new _ _ _
  have hXg : w.heap.size ≠ g := by have := hs.lt; omega
  have HK := Lib.hid (grown_of (g := g) hbw)
  have hs1 := hs.below hbw
  have HSW := Lib.hid (fun (W : World) (G' : Nat → Nat) (h : SG F n w0 g pad W G') (i j : Nat) (hi : i < n) (hj : j < n) (hij : i ≠ j) => h.swap hSw hi hj hij)
  have HLE := Lib.hid (fun (W : World) (G' : Nat → Nat) (h : SG F n w0 g pad W G') (i j : Nat) (hi : i < n) (hj : j < n) => h.less hL hi hj)
  have H2 := Lib.hid h2
  have HT := Lib.hid ht
  have e1 : IntKind.i64.wrap (((a + 1 : Nat) : Int) - (a : Int)) = 1 := by rw [show ((a + 1 : Nat) : Int) - (a : Int) = 1 by omega]; decide
  obtain ⟨m, hm⟩ : ∃ m, m = a + 1 := ⟨_, rfl⟩
  rw [← hm] at e1 ⊢
  have HM := Lib.hid hm
  have hm0 : ((m : Int) - (a : Int) == 1) = true := by simp; omega
  clear hs hSw hL hbw h2 ht
  go_enter Tryz.func108, Tryz.ntmps108
  clear hm
  go_wp2_with fail
  rw [← hw1]
  clear hw1 e1 hm0
  go_loopw [8, 9] (fun vi vj wr => ∃ i j : Nat, vi = .int .i64 (i : Int) ∧ vj = .int .i64 (j : Int) ∧ a + 1 ≤ i ∧ i ≤ j ∧ j ≤ b ∧ w1.grownBy wr (some g) ∧ SG F n w0 g pad wr G ∧ Hid (∀ t, a + 1 ≤ t → t < i → Lx F (G t) (G a)) ∧ Hid (∀ t, j ≤ t → t < b → Lx F (G a) (G t))) (fun vi vj _ => (intOf vj).toNat - (intOf vi).toNat)
  case atStart => exact ⟨m, b, rfl, rfl, by rw [HM.out]; exact Nat.le_refl _, by rw [HM.out]; omega, Nat.le_refl _, grownBy_refl _ _, hs1, Lib.hid (fun t h1 h2 => by rw [HM.out] at h2; omega), Lib.hid (fun t h1 h2 => by omega)⟩
  case round =>
    clear hs1
    obtain ⟨i, j, rfl, rfl, hai, hij, hjb, hgr, hs, HA, HB⟩ := hrel
    by_cases hlt : i < j
    · have hltz : (i : Int) < (j : Int) := by omega
      obtain ⟨h, hh⟩ : ∃ h, h = (i + j) / 2 := ⟨_, rfl⟩
      have h1 : i ≤ h := by omega
      have h2 : h < j := by omega
      have w1' : IntKind.i64.wrap ((i : Int) + (j : Int)) = (i : Int) + (j : Int) := IntWalk.i64_in _ (by omega)
      have hd : ((i : Int) + (j : Int)) / 2 = (h : Int) := by omega
      have HC := HLE.out wr G hs h a (by omega) (by omega)
      have HTA := HT.out h (by omega) (by omega)
      have hX2 := has_aside hgr hX hXg
      have x0 := hX2.cell 0
      clear hh hX2
      cases hp : nlt (F (G h)) (F (G a))
      · have HZ : Hid (∀ t, h ≤ t → t < b → Lx F (G a) (G t)) := Lib.hid fun t t1 t2 => sd_ge H2.out (by omega) t1 t2 ((lx_dn HTA).2 hp)
        rw [hp] at HC
        have HC := Lib.hid HC
        clear hp
        go_wp2_with fail
        refine (HC.out).mono ?_
        rintro e w2 ⟨rfl, hb2⟩
        go_wp2_with fail
        exact ⟨⟨i, h, rfl, rfl, hai, h1, by omega, grownBy_trans hgr (grown_of hb2), hs.below hb2, HA, HZ⟩, by simp [intOf]; omega⟩
      · have HZ : Hid (∀ t, a + 1 ≤ t → t < h + 1 → Lx F (G t) (G a)) := Lib.hid fun t t1 t2 => sd_le H2.out t1 (show t ≤ h by omega) (by omega) ((lx_up HTA).2 hp)
        rw [hp] at HC
        have HC := Lib.hid HC
        clear hp
        go_wp2_with fail
        refine (HC.out).mono ?_
        rintro e w2 ⟨rfl, hb2⟩
        go_wp2_with fail
        exact ⟨⟨h + 1, j, by go_num, rfl, by omega, by omega, hjb, grownBy_trans hgr (grown_of hb2), hs.below hb2, HZ, HB⟩, by simp [intOf]; omega⟩
    · have e : i = j := by omega
      subst e
      have hltz : ¬ (i : Int) < (i : Int) := by omega
      have w1' : IntKind.i64.wrap ((i : Int) - 1) = (i : Int) - 1 := IntWalk.i64_in _ (by omega)
      have HS := Lib.hid (one_sd H2.out hai hjb HA.out HB.out)
      clear HA HB
      go_wp2_with fail
      go_loopw [11] (fun vk wz => ∃ k : Nat, vk = .int .i64 (k : Int) ∧ a ≤ k ∧ k + 1 ≤ i ∧ w1.grownBy wz (some g) ∧ SG F n w0 g pad wz (rot a (a + 1) (k + 1) G)) (fun vk _ => i - (intOf vk).toNat)
      case atStart => exact ⟨a, rfl, Nat.le_refl _, hai, hgr, by rw [rot_right (Nat.le_succ a)]; exact hs⟩
      case round =>
        clear hs hgr
        obtain ⟨k, rfl, hak, hki, hgr, hs⟩ := hrel
        by_cases hk2 : k + 1 < i
        · have hX2 := has_aside hgr hX hXg
          have x1 := hX2.cell 1
          obtain ⟨w2, hr2, hs2, hg2⟩ := HSW.out _ _ hs k (k + 1) (by omega) (by omega) (by omega)
          rw [rot_up hak] at hs2
          rw [show ((k + 1 : Nat) : Int) = (k : Int) + 1 by omega] at hr2
          have hz : (k : Int) < (i : Int) - 1 := by omega
          clear hX2 hs
          go_wp2_with fail
          exact ⟨⟨k + 1, by go_num, by omega, by omega, grownBy_trans hgr hg2, hs2⟩, by simp [intOf]; omega⟩
        · have e : k + 1 = i := by omega
          rw [e] at hs
          have hz : ¬ (k : Int) < (i : Int) - 1 := by omega
          have HR := Lib.hid hs
          clear hs e
          go_wp2_with fail
          go_end0
          exact ⟨rfl, grownBy_trans HK.out hgr, _, HR.out, (rot_wi (Nat.le_succ a) hai G).mono (Nat.le_refl _) hjb, HS.out⟩

set_option maxRecDepth 100000 in
set_option maxHeartbeats 3200000 in
theorem sym_two (F : Nat → Nd) (B g n : Nat) (pad : List Value) (w0 : World) (sf : Nat) (sb : Array Value) (hSw : ∀ w1, SwapN sf sb w1 g pad n) (hL : LessN B w0 g pad n) (hn : n ≤ 1000000) (a m : Nat) (ham : a + 1 < m) (hb : m + 1 ≤ n) (G : Nat → Nat) (w : World) (hs : SG F n w0 g pad w G) (h2 : Sd F a m G) (ht : ∀ p, a ≤ p → p < m → G p < G m) :
    Calls Tryz.prog 108 #[.agg #[.func (.func 80) #[] #[.pointer (some ⟨B, 0, none⟩)], .func (.func sf) #[] sb], .int .i64 (a : Int), .int .i64 (m : Int), .int .i64 ((m + 1 : Nat) : Int)] w (MgP F n w0 g pad a (m + 1) G w) := by
  obtain ⟨w1, hw1⟩ : ∃ w1, w1 = w.alloc (.cells #[.func (.func 80) #[] #[.pointer (some ⟨B, 0, none⟩)], .func (.func sf) #[] sb] 137) := ⟨_, rfl⟩
  have hbw : Below w.heap.size w w1 := by rw [hw1]; exact (Below.refl _ _).alloc (Nat.le_refl _) _
  have hX : Has w1 w.heap.size 137 #[.func (.func 80) #[] #[.pointer (some ⟨B, 0, none⟩)], .func (.func sf) #[] sb] := by rw [hw1]; exact Has.new _ _ _
  have hXg : w.heap.size ≠ g := by have := hs.lt; omega
  have HK := Lib.hid (grown_of (g := g) hbw)
  have hs1 := hs.below hbw
  have HSW := Lib.hid (fun (W : World) (G' : Nat → Nat) (h : SG F n w0 g pad W G') (i j : Nat) (hi : i < n) (hj : j < n) (hij : i ≠ j) => h.swap hSw hi hj hij)
  have HLE := Lib.hid (fun (W : World) (G' : Nat → Nat) (h : SG F n w0 g pad W G') (i j : Nat) (hi : i < n) (hj : j < n) => h.less hL hi hj)
  have H2 := Lib.hid h2
  have HT := Lib.hid ht
  have e1 : IntKind.i64.wrap ((m : Int) - (a : Int)) = (m : Int) - (a : Int) := IntWalk.i64_in _ (by omega)
  have hm0 : ((m : Int) - (a : Int) == 1) = false := by simp; omega
  have e2 : IntKind.i64.wrap (((m + 1 : Nat) : Int) - (m : Int)) = 1 := by rw [show ((m + 1 : Nat) : Int) - (m : Int) = 1 by omega]; decide
  obtain ⟨b, hb2⟩ : ∃ b, b = m + 1 := ⟨_, rfl⟩
  rw [← hb2] at e2 ⊢
  have HM := Lib.hid hb2
  have hm1 : ((b : Int) - (m : Int) == 1) = true := by simp; omega
  clear hs hSw hL hbw h2 ht
  go_enter Tryz.func108, Tryz.ntmps108
  clear hb2
  go_wp2_with fail
  rw [← hw1]
  clear hw1 e1 hm0 e2 hm1
  go_loopw [12, 13] (fun vi vj wr => ∃ i j : Nat, vi = .int .i64 (i : Int) ∧ vj = .int .i64 (j : Int) ∧ a ≤ i ∧ i ≤ j ∧ j ≤ m ∧ w1.grownBy wr (some g) ∧ SG F n w0 g pad wr G ∧ Hid (∀ t, a ≤ t → t < i → Lx F (G t) (G m)) ∧ Hid (∀ t, j ≤ t → t < m → Lx F (G m) (G t))) (fun vi vj _ => (intOf vj).toNat - (intOf vi).toNat)
  case atStart => exact ⟨a, m, rfl, rfl, Nat.le_refl _, by omega, Nat.le_refl _, grownBy_refl _ _, hs1, Lib.hid (fun t h1 h2 => by omega), Lib.hid (fun t h1 h2 => by omega)⟩
  case round =>
    clear hs1
    obtain ⟨i, j, rfl, rfl, hai, hij, hjb, hgr, hs, HA, HB⟩ := hrel
    by_cases hlt : i < j
    · have hltz : (i : Int) < (j : Int) := by omega
      obtain ⟨h, hh⟩ : ∃ h, h = (i + j) / 2 := ⟨_, rfl⟩
      have h1 : i ≤ h := by omega
      have h2 : h < j := by omega
      have w1' : IntKind.i64.wrap ((i : Int) + (j : Int)) = (i : Int) + (j : Int) := IntWalk.i64_in _ (by omega)
      have hd : ((i : Int) + (j : Int)) / 2 = (h : Int) := by omega
      have HC := HLE.out wr G hs m h (by omega) (by omega)
      have HTA := HT.out h (by omega) (by omega)
      have hX2 := has_aside hgr hX hXg
      have x0 := hX2.cell 0
      clear hh hX2
      cases hp : nlt (F (G m)) (F (G h))
      · have HZ : Hid (∀ t, a ≤ t → t < h + 1 → Lx F (G t) (G m)) := Lib.hid fun t t1 t2 => sd_le H2.out t1 (show t ≤ h by omega) (by omega) ((lx_dn HTA).2 hp)
        rw [hp] at HC
        have HC := Lib.hid HC
        clear hp
        go_wp2_with fail
        refine (HC.out).mono ?_
        rintro e w2 ⟨rfl, hb2⟩
        go_wp2_with fail
        exact ⟨⟨h + 1, j, by go_num, rfl, by omega, by omega, hjb, grownBy_trans hgr (grown_of hb2), hs.below hb2, HZ, HB⟩, by simp [intOf]; omega⟩
      · have HZ : Hid (∀ t, h ≤ t → t < m → Lx F (G m) (G t)) := Lib.hid fun t t1 t2 => sd_ge H2.out (by omega) t1 t2 ((lx_up HTA).2 hp)
        rw [hp] at HC
        have HC := Lib.hid HC
        clear hp
        go_wp2_with fail
        refine (HC.out).mono ?_
        rintro e w2 ⟨rfl, hb2⟩
        go_wp2_with fail
        exact ⟨⟨i, h, rfl, rfl, hai, h1, by omega, grownBy_trans hgr (grown_of hb2), hs.below hb2, HA, HZ⟩, by simp [intOf]; omega⟩
    · have e : i = j := by omega
      subst e
      have hltz : ¬ (i : Int) < (i : Int) := by omega
      have HS := Lib.hid (two_sd H2.out hai hjb HA.out HB.out)
      clear HA HB
      go_wp2_with fail
      go_loopw [15] (fun vk wz => ∃ k : Nat, vk = .int .i64 (k : Int) ∧ i ≤ k ∧ k ≤ m ∧ w1.grownBy wz (some g) ∧ SG F n w0 g pad wz (rot k m (m + 1) G)) (fun vk _ => (intOf vk).toNat)
      case atStart => exact ⟨m, rfl, hjb, Nat.le_refl _, hgr, by rw [rot_left]; exact hs⟩
      case round =>
        clear hs hgr
        obtain ⟨k, rfl, hak, hki, hgr, hs⟩ := hrel
        by_cases hk2 : i < k
        · have hX2 := has_aside hgr hX hXg
          have x1 := hX2.cell 1
          obtain ⟨q, rfl⟩ : ∃ q, k = q + 1 := ⟨k - 1, by omega⟩
          obtain ⟨w2, hr2, hs2, hg2⟩ := HSW.out _ _ hs (q + 1) q (by omega) (by omega) (by omega)
          rw [rot_down (by omega)] at hs2
          have hz : (i : Int) < ((q + 1 : Nat) : Int) := by omega
          have hwq : IntKind.i64.wrap (((q + 1 : Nat) : Int) - 1) = (q : Int) := by rw [show ((q + 1 : Nat) : Int) - 1 = (q : Int) by omega]; exact IntWalk.i64_in _ (by omega)
          rw [show ((q + 1 : Nat) : Int) = (q : Int) + 1 by omega] at hr2
          clear hX2 hs
          go_wp2_with fail
          exact ⟨⟨q, by go_num, by omega, by omega, grownBy_trans hgr hg2, hs2⟩, by simp [intOf]⟩
        · have e : k = i := by omega
          subst e
          have hz : ¬ (k : Int) < (k : Int) := by omega
          have HR := Lib.hid hs
          clear hs
          go_wp2_with fail
          go_end0
          rw [HM.out]
          exact ⟨rfl, grownBy_trans HK.out hgr, _, HR.out, (rot_wi hki (Nat.le_succ m) G).mono hai (Nat.le_refl _), HS.out⟩
end
end Go.Proofs.YtjokbdhineilcaaGreatDoor
