/-
  The sort of the library beyond one block of twenty, plain: numbered nodes, the order that also looks at the numbers, exchanges, rotations, cuts. No condition.
-/
import Derived.Test.YtiafimbehcemcaaDoorKgA
namespace Go.Proofs.YtiafimbehcemcaaDoor
open Go.RowKit

/-- The order of numbered nodes: by nlt, then by number. -/
def Lx (F : Nat → Nd) (i j : Nat) : Prop := nlt (F j) (F i) = false ∧ (nlt (F i) (F j) = true ∨ i < j)
section
variable {F : Nat → Nd}
theorem lx_trans {i j k : Nat} (h : Lx F i j) (q : Lx F j k) : Lx F i k := by
  refine ⟨nlt_swo.ntrans _ _ _ q.1 h.1, ?_⟩
  cases e : nlt (F i) (F k)
  · right
    have h1 : nlt (F i) (F j) = false := nlt_swo.ntrans _ _ _ e q.1
    have h2 : nlt (F j) (F k) = false := nlt_swo.ntrans _ _ _ h.1 e
    have h3 := h.2
    have h4 := q.2
    rw [h1] at h3
    rw [h2] at h4
    simp at h3 h4
    omega
  · exact .inl rfl
theorem lx_irr (i : Nat) : ¬ Lx F i i := by
  rintro ⟨h1, h2 | h2⟩
  · rw [h1] at h2; cases h2
  · omega
theorem lx_up {i j : Nat} (h : j < i) : Lx F i j ↔ nlt (F i) (F j) = true := by
  constructor
  · rintro ⟨_, h2 | h2⟩
    · exact h2
    · omega
  · exact fun k => ⟨nlt_swo.asymmA k, .inl k⟩
theorem lx_dn {i j : Nat} (h : j < i) : Lx F j i ↔ nlt (F i) (F j) = false := ⟨fun k => k.1, fun k => ⟨k, .inr h⟩⟩
/-- Ascending between a and b. -/
def Sd (F : Nat → Nd) (a b : Nat) (G : Nat → Nat) : Prop := ∀ p q, a ≤ p → p < q → q < b → Lx F (G p) (G q)
/-- Only what lies between a and b has changed places. -/
def Wi (a b : Nat) (G G' : Nat → Nat) : Prop := (∀ k, (k < a ∨ b ≤ k) → G' k = G k) ∧ ∀ k, a ≤ k → k < b → ∃ k', a ≤ k' ∧ k' < b ∧ G' k = G k'
theorem Wi.refl (a b : Nat) (G : Nat → Nat) : Wi a b G G := ⟨fun _ _ => rfl, fun k h1 h2 => ⟨k, h1, h2, rfl⟩⟩
theorem Wi.trans {a b : Nat} {G H K : Nat → Nat} (h : Wi a b G H) (k : Wi a b H K) : Wi a b G K :=
  ⟨fun x hx => (k.1 x hx).trans (h.1 x hx), fun x h1 h2 => by
    obtain ⟨y, y1, y2, e⟩ := k.2 x h1 h2
    obtain ⟨z, z1, z2, e2⟩ := h.2 y y1 y2
    exact ⟨z, z1, z2, e.trans e2⟩⟩
theorem Wi.mono {a b a' b' : Nat} {G H : Nat → Nat} (h : Wi a b G H) (h1 : a' ≤ a) (h2 : b ≤ b') : Wi a' b' G H :=
  ⟨fun x hx => h.1 x (by omega), fun x k1 k2 => by
    by_cases hx : a ≤ x ∧ x < b
    · obtain ⟨y, y1, y2, e⟩ := h.2 x hx.1 hx.2
      exact ⟨y, by omega, by omega, e⟩
    · exact ⟨x, k1, k2, h.1 x (by omega)⟩⟩
theorem Wi.sd {a b c d : Nat} {G H : Nat → Nat} (h : Wi a b G H) (hs : Sd F c d G) (hd : d ≤ a ∨ b ≤ c) : Sd F c d H := fun p q h1 h2 h3 => by
  rw [h.1 p (by omega), h.1 q (by omega)]
  exact hs p q h1 h2 h3
/-- The numbers ahead of c are less than those from c on. -/
def Ts (n c : Nat) (G : Nat → Nat) : Prop := ∀ p q, p < c → c ≤ q → q < n → G p < G q
theorem Wi.ts {a b c n : Nat} {G H : Nat → Nat} (h : Wi a b G H) (hs : Ts n c G) (hd : c ≤ a ∨ b ≤ c) (hb : b ≤ n) : Ts n c H := fun p q h1 h2 h3 => by
  have hp : ∃ p', p' < c ∧ H p = G p' := by
    by_cases hx : a ≤ p ∧ p < b
    · obtain ⟨y, y1, y2, e⟩ := h.2 p hx.1 hx.2
      exact ⟨y, by omega, e⟩
    · exact ⟨p, h1, h.1 p (by omega)⟩
  have hq : ∃ q', c ≤ q' ∧ q' < n ∧ H q = G q' := by
    by_cases hx : a ≤ q ∧ q < b
    · obtain ⟨y, y1, y2, e⟩ := h.2 q hx.1 hx.2
      exact ⟨y, by omega, by omega, e⟩
    · exact ⟨q, h2, h3, h.1 q (by omega)⟩
  obtain ⟨p', p1, e1⟩ := hp
  obtain ⟨q', q1, q2, e2⟩ := hq
  rw [e1, e2]
  exact hs p' q' p1 q1 q2
/-- Exchanges. -/
def sw (i j : Nat) (G : Nat → Nat) : Nat → Nat := fun k => if k = j then G i else if k = i then G j else G k
def swr (a b n : Nat) (G : Nat → Nat) : Nat → Nat := fun k => if a ≤ k ∧ k < a + n then G (k + (b - a)) else if b ≤ k ∧ k < b + n then G (k - (b - a)) else G k
def rot (a m b : Nat) (G : Nat → Nat) : Nat → Nat := fun k => if a ≤ k ∧ k < a + (b - m) then G (k + (m - a)) else if a + (b - m) ≤ k ∧ k < b then G (k - (b - m)) else G k
theorem swr_zero (a b : Nat) (G : Nat → Nat) : swr a b 0 G = G := by
  funext k; unfold swr; rw [if_neg (by omega), if_neg (by omega)]
theorem swr_next {a b n : Nat} (h : a + n < b) (G : Nat → Nat) : sw (a + n) (b + n) (swr a b n G) = swr a b (n + 1) G := by
  funext k
  unfold sw swr
  by_cases h1 : k = b + n
  · subst h1
    rw [if_pos rfl, if_neg (by omega), if_neg (by omega), if_neg (by omega), if_pos (by omega)]
    congr 1; omega
  · rw [if_neg h1]
    by_cases h2 : k = a + n
    · subst h2
      rw [if_pos rfl, if_neg (by omega), if_neg (by omega), if_pos (by omega)]
      congr 1; omega
    · rw [if_neg h2]
      by_cases h3 : a ≤ k ∧ k < a + n
      · rw [if_pos h3, if_pos (by omega)]
      · by_cases h4 : b ≤ k ∧ k < b + n
        · rw [if_neg h3, if_pos h4, if_neg (by omega), if_pos (by omega)]
        · rw [if_neg h3, if_neg h4, if_neg (by omega), if_neg (by omega)]
theorem rot_more {m i j : Nat} (him : i ≤ m) (hij : j < i) (G : Nat → Nat) : rot (m - (i - j)) m (m + j) (swr (m - i) m j G) = rot (m - i) m (m + j) G := by
  funext k
  unfold rot swr
  by_cases h1 : k < m - i
  · rw [if_neg (by omega), if_neg (by omega), if_neg (by omega), if_neg (by omega), if_neg (by omega), if_neg (by omega)]
  · by_cases h2 : k < m - i + j
    · rw [if_neg (by omega), if_neg (by omega), if_pos (by omega), if_pos (by omega)]
    · by_cases h3 : k < m - (i - j) + j
      · rw [if_pos (by omega), if_neg (by omega), if_pos (by omega), if_neg (by omega), if_pos (by omega)]
        congr 1; omega
      · by_cases h4 : k < m + j
        · rw [if_neg (by omega), if_pos (by omega), if_neg (by omega), if_neg (by omega), if_neg (by omega), if_pos (by omega)]
        · rw [if_neg (by omega), if_neg (by omega), if_neg (by omega), if_neg (by omega), if_neg (by omega), if_neg (by omega)]
theorem rot_less {m i j : Nat} (him : i ≤ m) (hij : i < j) (G : Nat → Nat) : rot (m - i) m (m + (j - i)) (swr (m - i) (m + j - i) i G) = rot (m - i) m (m + j) G := by
  funext k
  unfold rot swr
  by_cases h1 : k < m - i
  · rw [if_neg (by omega), if_neg (by omega), if_neg (by omega), if_neg (by omega), if_neg (by omega), if_neg (by omega)]
  · by_cases h2 : k < m - i + (j - i)
    · by_cases h5 : k + i < m + j - i
      · rw [if_pos (by omega)]
        by_cases h6 : k + (m - (m - i)) < m - i + i
        · omega
        · rw [if_neg (by omega), if_neg (by omega), if_pos (by omega)]
      · omega
    · by_cases h3 : k < m + (j - i)
      · rw [if_neg (by omega), if_pos (by omega), if_pos (by omega), if_pos (by omega)]
        congr 1; omega
      · by_cases h4 : k < m + j
        · rw [if_neg (by omega), if_neg (by omega), if_neg (by omega), if_pos (by omega), if_neg (by omega), if_pos (by omega)]
          congr 1; omega
        · rw [if_neg (by omega), if_neg (by omega), if_neg (by omega), if_neg (by omega), if_neg (by omega), if_neg (by omega)]
theorem rot_same {m i : Nat} (him : i ≤ m) (G : Nat → Nat) : swr (m - i) m i G = rot (m - i) m (m + i) G := by
  funext k
  unfold rot swr
  by_cases h1 : k < m - i
  · rw [if_neg (by omega), if_neg (by omega), if_neg (by omega), if_neg (by omega)]
  · by_cases h2 : k < m
    · rw [if_pos (by omega), if_pos (by omega)]
    · by_cases h3 : k < m + i
      · rw [if_neg (by omega), if_pos (by omega), if_neg (by omega), if_pos (by omega)]
        congr 1; omega
      · rw [if_neg (by omega), if_neg (by omega), if_neg (by omega), if_neg (by omega)]
theorem rot_left (m b : Nat) (G : Nat → Nat) : rot m m b G = G := by
  funext k; unfold rot
  by_cases h : m ≤ k ∧ k < m + (b - m)
  · rw [if_pos h]; congr 1; omega
  · rw [if_neg h, if_neg (by omega)]
theorem rot_right {a m : Nat} (_h : a ≤ m) (G : Nat → Nat) : rot a m m G = G := by
  funext k; unfold rot
  rw [if_neg (by omega)]
  by_cases h : a + (m - m) ≤ k ∧ k < m
  · rw [if_pos h]; congr 1; omega
  · rw [if_neg h]
theorem rot_up {a k : Nat} (_h : a ≤ k) (G : Nat → Nat) : sw k (k + 1) (rot a (a + 1) (k + 1) G) = rot a (a + 1) (k + 2) G := by
  funext x
  unfold sw rot
  by_cases h1 : x = k + 1
  · subst h1
    rw [if_pos rfl, if_neg (by omega), if_pos (by omega), if_neg (by omega), if_pos (by omega)]
    congr 1; omega
  · rw [if_neg h1]
    by_cases h2 : x = k
    · subst h2
      rw [if_pos rfl, if_neg (by omega), if_neg (by omega), if_pos (by omega)]
      congr 1; omega
    · rw [if_neg h2]
      by_cases h3 : a ≤ x ∧ x < k
      · rw [if_pos (by omega), if_pos (by omega)]
      · rw [if_neg (by omega), if_neg (by omega), if_neg (by omega), if_neg (by omega)]
theorem rot_down {k m : Nat} (h : k < m) (G : Nat → Nat) : sw (k + 1) k (rot (k + 1) m (m + 1) G) = rot k m (m + 1) G := by
  funext x
  unfold sw rot
  by_cases h1 : x = k
  · subst h1
    rw [if_pos rfl, if_pos (by omega), if_pos (by omega)]
    congr 1; omega
  · rw [if_neg h1]
    by_cases h2 : x = k + 1
    · subst h2
      rw [if_pos rfl, if_neg (by omega), if_neg (by omega), if_neg (by omega), if_pos (by omega)]
      congr 1; omega
    · rw [if_neg h2]
      by_cases h3 : k + 1 < x ∧ x < m + 1
      · rw [if_neg (by omega), if_pos (by omega), if_neg (by omega), if_pos (by omega)]
      · rw [if_neg (by omega), if_neg (by omega), if_neg (by omega), if_neg (by omega)]
theorem rot_wi {a m b : Nat} (h1 : a ≤ m) (h2 : m ≤ b) (G : Nat → Nat) : Wi a b G (rot a m b G) := by
  refine ⟨fun k hk => ?_, fun k k1 k2 => ?_⟩
  · unfold rot; rw [if_neg (by omega), if_neg (by omega)]
  · unfold rot
    by_cases h : a ≤ k ∧ k < a + (b - m)
    · rw [if_pos h]; exact ⟨_, by omega, by omega, rfl⟩
    · rw [if_neg h, if_pos (by omega)]; exact ⟨_, by omega, by omega, rfl⟩
theorem rot_lo {a m b k : Nat} (G : Nat → Nat) (h1 : a ≤ k) (h2 : k < a + (b - m)) : rot a m b G k = G (k + (m - a)) := by unfold rot; rw [if_pos ⟨h1, h2⟩]
theorem rot_hi {a m b k : Nat} (G : Nat → Nat) (h1 : a + (b - m) ≤ k) (h2 : k < b) : rot a m b G k = G (k - (b - m)) := by unfold rot; rw [if_neg (by omega), if_pos ⟨h1, h2⟩]
theorem rot_out {a m b k : Nat} (G : Nat → Nat) (h1 : m ≤ b) (h : k < a ∨ b ≤ k) (h2 : a ≤ m) : rot a m b G k = G k := by unfold rot; rw [if_neg (by omega), if_neg (by omega)]
/-- Less or the same. -/
theorem sd_le {a b : Nat} {G : Nat → Nat} (h : Sd F a b G) {p q r : Nat} (h1 : a ≤ p) (h2 : p ≤ q) (h3 : q < b) (k : Lx F (G q) r) : Lx F (G p) r := by
  rcases Nat.lt_or_ge p q with h4 | h4
  · exact lx_trans (h p q h1 h4 h3) k
  · have : p = q := by omega
    subst this; exact k
theorem sd_ge {a b : Nat} {G : Nat → Nat} (h : Sd F a b G) {p q r : Nat} (h1 : a ≤ p) (h2 : p ≤ q) (h3 : q < b) (k : Lx F r (G p)) : Lx F r (G q) := by
  rcases Nat.lt_or_ge p q with h4 | h4
  · exact lx_trans k (h p q h1 h4 h3)
  · have : p = q := by omega
    subst this; exact k
/-- What a cut and a rotation leave: four ascending parts, the first two before the last two. -/
structure Cut4 (F : Nat → Nd) (a s c e b : Nat) (G : Nat → Nat) : Prop where
  one : Sd F a s G
  two : Sd F s c G
  three : Sd F c e G
  four : Sd F e b G
  lr : ∀ p q, a ≤ p → p < c → c ≤ q → q < b → Lx F (G p) (G q)
theorem cut4 {a s m e b : Nat} {G : Nat → Nat} (h1 : Sd F a m G) (h2 : Sd F m b G) (ha : a ≤ s) (hs : s ≤ m) (hm : m ≤ e) (he : e ≤ b)
    (k1 : s < m → m < e → Lx F (G (e - 1)) (G s)) (k2 : a < s → e < b → Lx F (G (s - 1)) (G e)) : Cut4 F a s (s + (e - m)) e b (rot s m e G) where
  one p q p1 p2 p3 := by
    rw [rot_out G hm (by omega) hs, rot_out G hm (by omega) hs]
    exact h1 p q p1 p2 (by omega)
  two p q p1 p2 p3 := by
    rw [rot_lo G (by omega) (by omega), rot_lo G (by omega) (by omega)]
    exact h2 _ _ (by omega) (by omega) (by omega)
  three p q p1 p2 p3 := by
    rw [rot_hi G (by omega) (by omega), rot_hi G (by omega) (by omega)]
    exact h1 _ _ (by omega) (by omega) (by omega)
  four p q p1 p2 p3 := by
    rw [rot_out G hm (by omega) hs, rot_out G hm (by omega) hs]
    exact h2 p q (by omega) p2 p3
  lr p q p1 p2 q1 q2 := by
    by_cases hp : p < s
    · rw [rot_out G hm (by omega) hs]
      by_cases hq : q < e
      · rw [rot_hi G q1 hq]
        exact h1 _ _ p1 (by omega) (by omega)
      · rw [rot_out G hm (by omega) hs]
        exact sd_le h1 p1 (show p ≤ s - 1 by omega) (by omega) (sd_ge h2 hm (show e ≤ q by omega) q2 (k2 (by omega) (by omega)))
    · rw [rot_lo G (by omega) (by omega)]
      by_cases hq : q < e
      · rw [rot_hi G q1 hq]
        exact sd_le h2 (by omega) (show p + (m - s) ≤ e - 1 by omega) (by omega) (sd_ge h1 ha (show s ≤ q - (e - m) by omega) (by omega) (k1 (by omega) (by omega)))
      · rw [rot_out G hm (by omega) hs]
        exact h2 _ _ (by omega) (by omega) q2
/-- The two halves, put together. -/
theorem cut4_join {a s c e b : Nat} {G H : Nat → Nat} (h : Cut4 F a s c e b G) (k1 : Sd F a c H) (k2 : Sd F c b H) (hl : ∀ k, a ≤ k → k < c → ∃ k', a ≤ k' ∧ k' < c ∧ H k = G k') (hr : ∀ k, c ≤ k → k < b → ∃ k', c ≤ k' ∧ k' < b ∧ H k = G k') : Sd F a b H := fun p q p1 p2 p3 => by
  by_cases hq : q < c
  · exact k1 p q p1 p2 hq
  · by_cases hp : c ≤ p
    · exact k2 p q hp p2 p3
    · obtain ⟨p', a1, a2, e1⟩ := hl p p1 (by omega)
      obtain ⟨q', b1, b2, e2⟩ := hr q (by omega) p3
      rw [e1, e2]
      exact h.lr p' q' a1 a2 b1 b2
end
end Go.Proofs.YtiafimbehcemcaaDoor
