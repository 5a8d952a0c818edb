/-
  Plain facts for the statements of chapter 2: the bytes of encodings are ordered as the lists are; decoding gives back what was encoded, and what is decoded is the encoding of what is given back. No condition.
-/
import Derived.Test.YtlnmpiigmedgkaaDoorKcM
namespace Go.Proofs.YtlnmpiigmedgkaaDoor
open Go.RowKit

/-- The order of byte strings, as a number. -/
def lx : List UInt8 → List UInt8 → Int
  | [], [] => 0
  | [], _ :: _ => -1
  | _ :: _, [] => 1
  | a :: x, b :: y => if a < b then -1 else if b < a then 1 else lx x y
theorem lx_lt : ∀ x y : List UInt8, (lx x y = -1 ↔ x < y) ∧ (lx x y = 1 ↔ y < x)
  | [], [] => by simp [lx]
  | [], _ :: _ => by simp [lx]
  | _ :: _, [] => by simp [lx]
  | a :: x, b :: y => by
    have ih := lx_lt x y
    unfold lx
    rw [List.cons_lt_cons_iff, List.cons_lt_cons_iff]
    by_cases h1 : a < b
    · have h2 : ¬ b < a := by simp only [UInt8.lt_iff_toNat_lt] at *; omega
      have h3 : b ≠ a := by intro e; subst e; exact h2 h1
      simp [h1, h2, h3]
    · by_cases h2 : b < a
      · have h3 : a ≠ b := by intro e; subst e; exact h1 h2
        simp [h1, h2, h3]
      · have h3 : a = b := by
          apply UInt8.toNat_inj.1
          simp only [UInt8.lt_iff_toNat_lt] at *; omega
        subst h3
        simp [h1]
        exact ih
theorem lx_bd : ∀ x y : List UInt8, lx x y = -1 ∨ lx x y = 0 ∨ lx x y = 1
  | [], [] => by simp [lx]
  | [], _ :: _ => by simp [lx]
  | _ :: _, [] => by simp [lx]
  | a :: x, b :: y => by
    have ih := lx_bd x y
    unfold lx
    split
    · exact .inl rfl
    · split
      · exact .inr (.inr rfl)
      · exact ih
theorem lx_append : ∀ r x y : List UInt8, lx (r ++ x) (r ++ y) = lx x y
  | [], _, _ => rfl
  | a :: r, x, y => by
    have h : ¬ a < a := by simp
    show (if a < a then (-1 : Int) else if a < a then 1 else lx (r ++ x) (r ++ y)) = _
    rw [if_neg h, if_neg h, lx_append r x y]

/-- Two byte strings part at a place within both. -/
def Parts2 (p q : List UInt8) (z : Int) : Prop := ∃ r u v s t, p = r ++ u :: s ∧ q = r ++ v :: t ∧ ((u < v ∧ z = -1) ∨ (v < u ∧ z = 1))
theorem Parts2.lx {p q : List UInt8} {z : Int} (h : Parts2 p q z) (x y : List UInt8) : lx (p ++ x) (q ++ y) = z := by
  obtain ⟨r, u, v, s, t, rfl, rfl, h⟩ := h
  rw [List.append_assoc, List.append_assoc, lx_append, List.cons_append, List.cons_append]
  unfold Go.Proofs.YtlnmpiigmedgkaaDoor.lx
  rcases h with ⟨h, rfl⟩ | ⟨h, rfl⟩
  · rw [if_pos h]
  · have h2 : ¬ u < v := by simp only [UInt8.lt_iff_toNat_lt] at *; omega
    rw [if_neg h2, if_pos h]
theorem Parts2.pre {p q : List UInt8} {z : Int} (h : Parts2 p q z) (r : List UInt8) : Parts2 (r ++ p) (r ++ q) z := by
  obtain ⟨r', u, v, s, t, rfl, rfl, h⟩ := h
  exact ⟨r ++ r', u, v, s, t, by rw [List.append_assoc], by rw [List.append_assoc], h⟩
theorem Parts2.post {p q : List UInt8} {z : Int} (h : Parts2 p q z) (x y : List UInt8) : Parts2 (p ++ x) (q ++ y) z := by
  obtain ⟨r', u, v, s, t, rfl, rfl, h⟩ := h
  exact ⟨r', u, v, s ++ x, t ++ y, by simp, by simp, h⟩
theorem Parts2.swap {p q : List UInt8} {z : Int} (h : Parts2 p q z) : Parts2 q p (-z) := by
  obtain ⟨r', u, v, s, t, rfl, rfl, h⟩ := h
  refine ⟨r', v, u, t, s, rfl, rfl, ?_⟩
  rcases h with ⟨h, rfl⟩ | ⟨h, rfl⟩
  · exact .inr ⟨h, rfl⟩
  · exact .inl ⟨h, rfl⟩
theorem neg_nat (c : UInt8) : (neg c).toNat = 255 - c.toNat := by
  unfold neg
  have := c.toNat_lt
  rw [UInt8.toNat_sub]
  simp
  omega
theorem neg_neg (c : UInt8) : neg (neg c) = c := by
  apply UInt8.toNat_inj.1
  rw [neg_nat, neg_nat]
  have := c.toNat_lt
  omega
theorem map_neg_neg (l : List UInt8) : (l.map neg).map neg = l := by
  induction l with
  | nil => rfl
  | cons a l ih => show neg (neg a) :: (l.map neg).map neg = _; rw [neg_neg, ih]
theorem Parts2.neg {p q : List UInt8} {z : Int} (h : Parts2 p q z) : Parts2 (p.map neg) (q.map neg) (-z) := by
  obtain ⟨r', u, v, s, t, rfl, rfl, h⟩ := h
  refine ⟨r'.map Go.Proofs.YtlnmpiigmedgkaaDoor.neg, Go.Proofs.YtlnmpiigmedgkaaDoor.neg u, Go.Proofs.YtlnmpiigmedgkaaDoor.neg v, s.map Go.Proofs.YtlnmpiigmedgkaaDoor.neg, t.map Go.Proofs.YtlnmpiigmedgkaaDoor.neg, by simp, by simp, ?_⟩
  have hu := u.toNat_lt
  have hv := v.toNat_lt
  simp only [UInt8.lt_iff_toNat_lt, neg_nat] at *
  rcases h with ⟨h, rfl⟩ | ⟨h, rfl⟩
  · exact .inr ⟨by omega, rfl⟩
  · exact .inl ⟨by omega, rfl⟩
theorem be_parts : ∀ (k m n : Nat), m < n → n < 256 ^ k → Parts2 (be m k) (be n k) (-1)
  | 0, m, n, h1, h2 => by simp at h2; omega
  | k + 1, m, n, h1, h2 => by
    show Parts2 (be (m / 256) k ++ _) (be (n / 256) k ++ _) _
    by_cases h : m / 256 < n / 256
    · exact (be_parts k _ _ h (by rw [Nat.pow_succ] at h2; omega)).post _ _
    · have e : m / 256 = n / 256 := by omega
      rw [e]
      refine ⟨be (n / 256) k, _, _, [], [], rfl, rfl, .inl ⟨?_, rfl⟩⟩
      rw [UInt8.lt_iff_toNat_lt]
      simp
      omega
theorem esc_parts : ∀ a b : List UInt8, a ≠ b → Parts2 (esc a ++ [0, 1]) (esc b ++ [0, 1]) (lx a b)
  | [], [], h => absurd rfl h
  | [], c :: b, _ => by
    show Parts2 [0, 1] (esc (c :: b) ++ [0, 1]) (-1)
    unfold esc
    by_cases hc : c = 0
    · rw [if_pos hc]
      exact ⟨[0], 1, 255, [], esc b ++ [0, 1], rfl, rfl, .inl ⟨by decide, rfl⟩⟩
    · rw [if_neg hc]
      refine ⟨[], 0, c, [1], esc b ++ [0, 1], rfl, rfl, .inl ⟨?_, rfl⟩⟩
      rw [UInt8.lt_iff_toNat_lt]
      have : c.toNat ≠ (0 : UInt8).toNat := fun e => hc (UInt8.toNat_inj.1 e)
      simp at this ⊢
      omega
  | c :: b, [], _ => by
    show Parts2 (esc (c :: b) ++ [0, 1]) [0, 1] 1
    unfold esc
    by_cases hc : c = 0
    · rw [if_pos hc]
      exact ⟨[0], 255, 1, esc b ++ [0, 1], [], rfl, rfl, .inr ⟨by decide, rfl⟩⟩
    · rw [if_neg hc]
      refine ⟨[], c, 0, esc b ++ [0, 1], [1], rfl, rfl, .inr ⟨?_, rfl⟩⟩
      rw [UInt8.lt_iff_toNat_lt]
      have : c.toNat ≠ (0 : UInt8).toNat := fun e => hc (UInt8.toNat_inj.1 e)
      simp at this ⊢
      omega
  | c :: a, d :: b, h => by
    by_cases e : c = d
    · subst e
      have ih := esc_parts a b (fun e => h (by rw [e]))
      have e2 : lx (c :: a) (c :: b) = lx a b := lx_append [c] a b
      rw [e2]
      unfold esc
      by_cases hc : c = 0
      · rw [if_pos hc, if_pos hc]
        exact ih.pre [0, 255]
      · rw [if_neg hc, if_neg hc]
        exact ih.pre [c]
    · have hz : ∀ x : List UInt8, ∀ y : UInt8, ∃ t, esc (y :: x) ++ [0, 1] = y :: t := fun x y => by
        unfold esc
        by_cases hy : y = 0
        · subst hy; exact ⟨_, rfl⟩
        · rw [if_neg hy]; exact ⟨_, rfl⟩
      obtain ⟨s, hs⟩ := hz a c
      obtain ⟨t, ht⟩ := hz b d
      rw [hs, ht]
      refine ⟨[], c, d, s, t, rfl, rfl, ?_⟩
      have hne : c.toNat ≠ d.toNat := fun k => e (UInt8.toNat_inj.1 k)
      unfold lx
      by_cases h1 : c < d
      · exact .inl ⟨h1, if_pos h1⟩
      · have h2 : d < c := by simp only [UInt8.lt_iff_toNat_lt] at *; omega
        exact .inr ⟨h2, by rw [if_neg h1, if_pos h2]⟩

theorem cmpT_lx (a b : ByteArray) : cmpT a b = lx a.data.toList b.data.toList := by
  have h := lx_lt a.data.toList b.data.toList
  have hb := lx_bd a.data.toList b.data.toList
  unfold cmpT
  have k1 := kl_iff a b
  have k2 := kl_iff b a
  rw [toList_data, toList_data] at k1 k2
  by_cases h1 : kl a b = true
  · rw [if_pos h1, (h.1.2 (k1.1 h1))]
  · rw [if_neg h1]
    by_cases h2 : kl b a = true
    · rw [if_pos h2, (h.2.2 (k2.1 h2))]
    · rw [if_neg h2]
      have n1 : lx a.data.toList b.data.toList ≠ -1 := fun e => h1 (k1.2 (h.1.1 e))
      have n2 : lx a.data.toList b.data.toList ≠ 1 := fun e => h2 (k2.2 (h.2.1 e))
      omega
theorem ba_ext {a b : ByteArray} (h : a.data.toList = b.data.toList) : a = b := toList_inj (by rw [toList_data, toList_data]; exact h)
theorem cmpT_zero {a b : ByteArray} (h : cmpT a b = 0) : a = b := by
  unfold cmpT at h
  cases h1 : kl a b
  · cases h2 : kl b a
    · exact kl_tri h1 h2
    · simp [h1, h2] at h
  · simp [h1] at h
theorem cmpI_zero {a b : Int} (h : cmpI a b = 0) : a = b := by
  unfold cmpI at h
  split at h
  · cases h
  · split at h
    · cases h
    · omega
theorem cmpF_zero {a b : Fd} (h : cmpF a b = 0) : a = b := by
  unfold cmpF at h
  by_cases h1 : cmpI a.kind b.kind = 0
  · rw [if_neg (by omega)] at h
    by_cases h2 : cmpI a.num b.num = 0
    · rw [if_neg (by omega)] at h
      obtain ⟨k, n, t⟩ := a
      obtain ⟨k', n', t'⟩ := b
      have e1 := cmpI_zero h1
      have e2 := cmpI_zero h2
      have e3 := cmpT_zero h
      simp only at e1 e2 e3
      rw [e1, e2, e3]
    · rw [if_pos h2] at h; exact absurd h h2
  · rw [if_pos h1] at h; exact absurd h h1

/-- A field that fits is one of three. -/
theorem fits_cases {c : Col} {f : Fd} (h : f.fits c = true) : f = Fd.zero ∨ (f.kind = 1 ∧ c.kind = 1 ∧ f.text = ⟨#[]⟩) ∨ (f.kind = 2 ∧ c.kind = 2 ∧ f.num = 0 ∧ f.text.size ≤ 16) := by
  obtain ⟨k, n, t⟩ := f
  have hs : t.size = 0 → t = ⟨#[]⟩ := fun e => ba_ext (List.eq_nil_of_length_eq_zero (by simpa using e))
  unfold Fd.fits at h
  split at h
  · rename_i h1
    simp only [Bool.and_eq_true, beq_iff_eq] at h
    obtain ⟨h2, h3⟩ := h
    simp only at h1 h2 h3
    refine .inl ?_
    rw [h1, h2, hs h3]
  · split at h
    · rename_i h1
      simp only [Bool.and_eq_true, beq_iff_eq] at h
      exact .inr (.inl ⟨h1, h.1, hs h.2⟩)
    · split at h
      · rename_i h1
        simp only [Bool.and_eq_true, beq_iff_eq, decide_eq_true_eq] at h
        exact .inr (.inr ⟨h1, h.1.1, h.1.2, h.2⟩)
      · cases h

theorem encF_parts {c : Col} {a b : Fd} (ha : a.fits c = true) (hb : b.fits c = true) (wa : a.wide) (wb : b.wide) (hne : cmpF a b ≠ 0) : Parts2 (encF a) (encF b) (cmpF a b) := by
  unfold Fd.wide at wa wb
  rcases fits_cases ha with rfl | ⟨a1, a2, a3⟩ | ⟨a1, a2, a3, a4⟩
  · rcases fits_cases hb with rfl | ⟨b1, b2, b3⟩ | ⟨b1, b2, b3, b4⟩
    · exact absurd (cmpF_self _) hne
    · have e : cmpF Fd.zero b = -1 := by unfold cmpF cmpI; simp [b1]
      rw [e]
      refine ⟨[], 1, 2, [], _, rfl, by unfold encF; rw [if_pos b1]; rfl, .inl ⟨by decide, rfl⟩⟩
    · have e : cmpF Fd.zero b = -1 := by unfold cmpF cmpI; simp [b1]
      rw [e]
      refine ⟨[], 1, 3, [], _, rfl, by unfold encF; rw [if_neg (by omega), if_pos b1]; rfl, .inl ⟨by decide, rfl⟩⟩
  · rcases fits_cases hb with rfl | ⟨b1, b2, b3⟩ | ⟨b1, b2, b3, b4⟩
    · have e : cmpF a Fd.zero = 1 := by unfold cmpF cmpI; simp [a1]
      rw [e]
      refine ⟨[], 2, 1, _, [], by unfold encF; rw [if_pos a1]; rfl, rfl, .inr ⟨by decide, rfl⟩⟩
    · have e : cmpF a b = cmpI a.num b.num := by
        have hk : cmpI a.kind b.kind = 0 := by rw [a1, b1]; rfl
        have ht : cmpT a.text b.text = 0 := by rw [a3, b3]; have := cmpT_neg ⟨#[]⟩ ⟨#[]⟩; omega
        unfold cmpF
        rw [if_neg (by omega), ht]
        split <;> omega
      rw [e] at hne ⊢
      unfold encF
      rw [if_pos a1, if_pos b1]
      unfold encI
      have hp : (256 : Nat) ^ 8 = 18446744073709551616 := by decide
      rcases Int.lt_trichotomy a.num b.num with h | h | h
      · have e2 : cmpI a.num b.num = -1 := by unfold cmpI; rw [if_pos h]
        rw [e2]
        exact (be_parts 8 _ _ (by omega) (by rw [hp]; omega)).pre [2]
      · exact absurd (by rw [h]; unfold cmpI; simp) hne
      · have e2 : cmpI a.num b.num = 1 := by unfold cmpI; rw [if_neg (by omega), if_pos h]
        rw [e2]
        exact (be_parts 8 _ _ (by omega) (by rw [hp]; omega)).swap.pre [2]
    · exact absurd (a2.symm.trans b2) (by decide)
  · rcases fits_cases hb with rfl | ⟨b1, b2, b3⟩ | ⟨b1, b2, b3, b4⟩
    · have e : cmpF a Fd.zero = 1 := by unfold cmpF cmpI; simp [a1]
      rw [e]
      refine ⟨[], 3, 1, _, [], by unfold encF; rw [if_neg (by omega), if_pos a1]; rfl, rfl, .inr ⟨by decide, rfl⟩⟩
    · exact absurd (a2.symm.trans b2) (by decide)
    · have e : cmpF a b = cmpT a.text b.text := by
        have hk : cmpI a.kind b.kind = 0 := by rw [a1, b1]; rfl
        have ht : cmpI a.num b.num = 0 := by rw [a3, b3]; rfl
        unfold cmpF
        rw [if_neg (by omega), if_neg (by omega)]
      rw [e] at hne ⊢
      unfold encF
      rw [if_neg (by omega), if_pos a1, if_neg (by omega), if_pos b1]
      unfold encT
      rw [cmpT_lx]
      refine (esc_parts _ _ ?_).pre [3]
      intro k
      rw [ba_ext k] at hne
      exact hne (by have := cmpT_neg b.text b.text; omega)
theorem encC_lx {c : Col} {a b : Fd} (ha : a.fits c = true) (hb : b.fits c = true) (wa : a.wide) (wb : b.wide) (x y : List UInt8) :
    lx (encC c a ++ x) (encC c b ++ y) = if cmpF a b = 0 then lx x y else if c.desc then -cmpF a b else cmpF a b := by
  by_cases h : cmpF a b = 0
  · rw [if_pos h, cmpF_zero h, lx_append]
  · rw [if_neg h]
    have hp := encF_parts ha hb wa wb h
    unfold encC
    by_cases hd : c.desc = true
    · rw [if_pos hd, if_pos hd, if_pos hd]; exact hp.neg.lx x y
    · rw [if_neg hd, if_neg hd, if_neg hd]; exact hp.lx x y
theorem encF_ne {f : Fd} : encF f ≠ [] := by
  unfold encF encI encT
  split
  · simp
  · split <;> simp
theorem encC_ne {c : Col} {f : Fd} : encC c f ≠ [] := by
  intro e
  have := encC_len c f
  rw [e] at this
  exact encF_ne (List.eq_nil_of_length_eq_zero this.symm)
/-- Encodings are ordered as the lists are. -/
theorem encR_lx : ∀ (s : List Col) (a b : List Fd), fitsR s a = true → fitsR s b = true → (∀ f ∈ a, f.wide) → (∀ f ∈ b, f.wide) → lx (encR s a) (encR s b) = cmpR s a b
  | [], [], [], _, _, _, _ => rfl
  | _ :: _, [], [], _, _, _, _ => rfl
  | [], _ :: _, _, h, _, _, _ => by cases h
  | [], [], _ :: _, _, h, _, _ => by cases h
  | c :: s, [], b :: y, _, _, _, _ => by
    show lx [] (encC c b ++ encR s y) = cmpI 0 (b :: y).length
    have e : cmpI 0 (b :: y).length = -1 := by unfold cmpI; rw [if_pos (by simp)]
    rw [e]
    have := @encC_ne c b
    cases h : encC c b with
    | nil => exact absurd h this
    | cons u t => rfl
  | c :: s, a :: x, [], _, _, _, _ => by
    show lx (encC c a ++ encR s x) [] = cmpI (a :: x).length 0
    have e : cmpI (a :: x).length 0 = 1 := by unfold cmpI; rw [if_neg (by simp; omega), if_pos (by simp)]
    rw [e]
    have := @encC_ne c a
    cases h : encC c a with
    | nil => exact absurd h this
    | cons u t => rfl
  | c :: s, a :: x, b :: y, h1, h2, w1, w2 => by
    simp only [fitsR, Bool.and_eq_true] at h1 h2
    show lx (encC c a ++ encR s x) (encC c b ++ encR s y) = if cmpF a b = 0 then cmpR s x y else if c.desc then -cmpF a b else cmpF a b
    rw [encC_lx h1.1 h2.1 (w1 a (.head _)) (w2 b (.head _)), encR_lx s x y h1.2 h2.2 (fun f hf => w1 f (.tail _ hf)) (fun f hf => w2 f (.tail _ hf))]
end Go.Proofs.YtlnmpiigmedgkaaDoor
