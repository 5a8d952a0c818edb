/-
  Plain facts for the statements of chapter 2: decoding gives back what was encoded, and what is decoded is the encoding of what is given back. No condition.
-/
import Derived.Test.YtlnmpiigmedgkaaDoorKcO
namespace Go.Proofs.YtlnmpiigmedgkaaDoor
open Go.RowKit

theorem val8_snoc' (l : List UInt8) (c : UInt8) : val8 (l ++ [c]) = val8 l * 256 + c.toNat := by simp [val8]
theorem val8_be : ∀ (k m : Nat), m < 256 ^ k → val8 (be m k) = m
  | 0, m, h => by simp at h; subst h; rfl
  | k + 1, m, h => by
    show val8 (be (m / 256) k ++ _) = m
    rw [val8_snoc', val8_be k _ (by rw [Nat.pow_succ] at h; omega)]
    simp
    omega
theorem val8_lt' : ∀ l : List UInt8, val8 l < 256 ^ l.length := by
  intro l
  have h : ∀ (l : List UInt8) (a k : Nat), a < 256 ^ k → List.foldl (fun a (c : UInt8) => a * 256 + c.toNat) a l < 256 ^ (k + l.length) := by
    intro l
    induction l with
    | nil => intro a k h; exact h
    | cons c l ih =>
      intro a k h
      have hc := c.toNat_lt
      have := ih (a * 256 + c.toNat) (k + 1) (by rw [Nat.pow_succ]; omega)
      rw [List.length_cons, show k + (l.length + 1) = k + 1 + l.length by omega]
      exact this
  have := h l 0 0 (by decide)
  rwa [Nat.zero_add] at this
theorem list_snoc {α : Type} : ∀ (k : Nat) (l : List α), l.length = k + 1 → ∃ r c, l = r ++ [c] ∧ r.length = k
  | 0, [c], _ => ⟨[], c, rfl, rfl⟩
  | k + 1, a :: l, h => by
    obtain ⟨r, c, e, hr⟩ := list_snoc k l (by simpa using h)
    exact ⟨a :: r, c, by rw [e]; rfl, by simp [hr]⟩
theorem be_val8 : ∀ (k : Nat) (l : List UInt8), l.length = k → be (val8 l) k = l
  | 0, l, h => (List.eq_nil_of_length_eq_zero h).symm
  | k + 1, l, h => by
    obtain ⟨r, c, rfl, hr⟩ := list_snoc k l h
    rw [val8_snoc']
    have hc := c.toNat_lt
    show be ((val8 r * 256 + c.toNat) / 256) k ++ [UInt8.ofNat ((val8 r * 256 + c.toNat) % 256)] = _
    rw [show (val8 r * 256 + c.toNat) / 256 = val8 r by omega, show (val8 r * 256 + c.toNat) % 256 = c.toNat by omega, be_val8 k r hr]
    simp

theorem decT_esc : ∀ (t : List UInt8) (i : Nat) (t0 r : List UInt8), decT i t0 (esc t ++ 0 :: 1 :: r) = some (t0 ++ t, i + (esc t).length + 2)
  | [], i, t0, r => by
    show decT i t0 (0 :: 1 :: r) = _
    unfold decT
    simp [esc]
  | c :: t, i, t0, r => by
    unfold esc
    by_cases hc : c = 0
    · rw [if_pos hc]
      show decT i t0 (0 :: 255 :: (esc t ++ 0 :: 1 :: r)) = _
      unfold decT
      rw [if_neg (by simp), if_pos rfl, decT_esc t]
      subst hc
      simp
      omega
    · rw [if_neg hc]
      obtain ⟨d, l, hd⟩ : ∃ d l, esc t ++ 0 :: 1 :: r = d :: l := by
        cases h : esc t ++ 0 :: 1 :: r with
        | nil => simp at h
        | cons d l => exact ⟨d, l, rfl⟩
      have ih := decT_esc t (i + 1) (t0 ++ [c]) r
      show decT i t0 (c :: (esc t ++ 0 :: 1 :: r)) = _
      rw [hd] at ih ⊢
      unfold decT
      rw [if_pos hc, ih]
      simp
      omega
/-- What a text is decoded from. -/
theorem decT_inv : ∀ (m : Nat) (l : List UInt8) (i : Nat) (t0 t : List UInt8) (n : Nat), l.length ≤ m → decT i t0 l = some (t, n) → ∃ t1 r, t = t0 ++ t1 ∧ l = esc t1 ++ 0 :: 1 :: r ∧ n = i + (esc t1).length + 2
  | m, [], i, t0, t, n, _, h => by unfold decT at h; cases h
  | m, [_], i, t0, t, n, _, h => by unfold decT at h; cases h
  | 0, _ :: _ :: _, i, t0, t, n, hm, h => by simp at hm
  | m + 1, c :: d :: l, i, t0, t, n, hm, h => by
    unfold decT at h
    by_cases hc : c = 0
    · rw [if_neg (by simpa using hc)] at h
      by_cases hd : d = 255
      · rw [if_pos hd] at h
        obtain ⟨t1, r, e1, e2, e3⟩ := decT_inv m l _ _ _ _ (by simp at hm; omega) h
        refine ⟨0 :: t1, r, by rw [e1]; simp, ?_, ?_⟩
        · rw [hc, hd, e2]; rfl
        · rw [e3]; show _ = i + (0 :: 255 :: esc t1).length + 2; simp; omega
      · rw [if_neg hd] at h
        by_cases h1 : d = 1
        · rw [if_pos h1] at h
          injection h with h
          injection h with e1 e2
          exact ⟨[], l, by rw [← e1]; simp, by rw [hc, h1]; rfl, by rw [← e2]; rfl⟩
        · rw [if_neg h1] at h; cases h
    · rw [if_pos hc] at h
      obtain ⟨t1, r, e1, e2, e3⟩ := decT_inv m (d :: l) _ _ _ _ (by simp at hm ⊢; omega) h
      have ee : esc (c :: t1) = c :: esc t1 := by show (if c = 0 then _ else _) = _; rw [if_neg hc]
      refine ⟨c :: t1, r, by rw [e1]; simp, ?_, ?_⟩
      · rw [ee, List.cons_append, ← e2]
      · rw [e3, ee]; simp; omega

theorem decFd_at (kind : Int) (c : UInt8) (r : List UInt8) : decFd kind (c :: r) = if c = 1 then some (Fd.zero, 1)
    else if c = 2 ∧ kind = 1 then (if 8 ≤ r.length then some (⟨1, (val8 (r.take 8) : Int) - 9223372036854775808, ⟨#[]⟩⟩, 9) else none)
    else if c = 3 ∧ kind = 2 then (match decT 1 [] r with | some (t, n) => if t.length ≤ 16 then some (⟨2, 0, ⟨t.toArray⟩⟩, n) else none | none => none)
    else none := rfl
theorem decFd_enc {c : Col} {f : Fd} (h : f.fits c = true) (w : f.wide) (r : List UInt8) : decFd c.kind (encF f ++ r) = some (f, (encF f).length) := by
  unfold Fd.wide at w
  rcases fits_cases h with rfl | ⟨a1, a2, a3⟩ | ⟨a1, a2, a3, a4⟩
  · show decFd c.kind (1 :: r) = _
    rw [decFd_at, if_pos rfl]
    rfl
  · have e : encF f = 2 :: be (f.num + 9223372036854775808).toNat 8 := by unfold encF; rw [if_pos a1]; rfl
    have hl := be_len (f.num + 9223372036854775808).toNat 8
    rw [e]
    show decFd c.kind (2 :: (be (f.num + 9223372036854775808).toNat 8 ++ r)) = _
    rw [decFd_at, if_neg (by decide), if_pos ⟨rfl, a2⟩, if_pos (by rw [List.length_append]; omega), List.take_append_of_le_length (by omega), List.take_of_length_le (by omega), val8_be 8 _ (by have : (256 : Nat) ^ 8 = 18446744073709551616 := (by decide); rw [this]; omega)]
    have hn : (((f.num + 9223372036854775808).toNat : Nat) : Int) - 9223372036854775808 = f.num := by omega
    rw [hn, List.length_cons, hl]
    obtain ⟨k, n, t⟩ := f
    simp only at a1 a3
    rw [a1, a3]
  · have e : encF f = 3 :: (esc f.text.data.toList ++ [0, 1]) := by unfold encF; rw [if_neg (by omega), if_pos a1]; rfl
    rw [e]
    show decFd c.kind (3 :: (esc f.text.data.toList ++ [0, 1] ++ r)) = _
    rw [decFd_at, if_neg (by decide), if_neg (fun k => absurd k.1 (by decide)), if_pos ⟨rfl, a2⟩, List.append_assoc]
    show (match decT 1 [] (esc f.text.data.toList ++ 0 :: 1 :: r) with | some (t, n) => if t.length ≤ 16 then some ((⟨2, 0, ⟨t.toArray⟩⟩ : Fd), n) else none | none => none) = _
    rw [decT_esc]
    simp only [List.nil_append]
    rw [if_pos (by simpa using a4)]
    obtain ⟨k, n, t⟩ := f
    simp only at a1 a3 ⊢
    rw [a1, a3]
    simp
    omega
/-- What a field is decoded from. -/
theorem decFd_inv {c : Col} {b : List UInt8} {f : Fd} {n : Nat} (h : decFd c.kind b = some (f, n)) : f.fits c = true ∧ f.wide ∧ n ≤ b.length ∧ b.take n = encF f := by
  cases b with
  | nil => unfold decFd at h; cases h
  | cons x r =>
    rw [decFd_at] at h
    by_cases h1 : x = 1
    · rw [if_pos h1] at h
      injection h with h
      injection h with e1 e2
      subst e1 e2 h1
      exact ⟨rfl, by simp [Fd.wide], by simp, rfl⟩
    · rw [if_neg h1] at h
      by_cases h2 : x = 2 ∧ c.kind = 1
      · rw [if_pos h2] at h
        by_cases h3 : 8 ≤ r.length
        · rw [if_pos h3] at h
          injection h with h
          injection h with e1 e2
          subst e1 e2
          have hl : (r.take 8).length = 8 := by simp; omega
          have hlt := val8_lt' (r.take 8)
          rw [hl] at hlt
          have hp : (256 : Nat) ^ 8 = 18446744073709551616 := by decide
          rw [hp] at hlt
          refine ⟨?_, ?_, by simp; omega, ?_⟩
          · unfold Fd.fits; rw [if_neg (by simp), if_pos rfl, h2.2]; rfl
          · simp only [Fd.wide]; omega
          · show (x :: r).take (8 + 1) = encI _
            unfold encI
            have e : ((val8 (r.take 8) : Int) - 9223372036854775808 + 9223372036854775808).toNat = val8 (r.take 8) := by omega
            rw [e, be_val8 8 _ hl, h2.1]
            rfl
        · rw [if_neg h3] at h; cases h
      · rw [if_neg h2] at h
        by_cases h3 : x = 3 ∧ c.kind = 2
        · rw [if_pos h3] at h
          cases hd : decT 1 [] r with
          | none => rw [hd] at h; cases h
          | some p =>
            obtain ⟨t, k⟩ := p
            rw [hd] at h
            simp only at h
            by_cases h4 : t.length ≤ 16
            · rw [if_pos h4] at h
              injection h with h
              injection h with e1 e2
              subst e1 e2
              obtain ⟨t1, r1, q1, q2, q3⟩ := decT_inv _ _ _ _ _ _ (Nat.le_refl _) hd
              rw [List.nil_append] at q1
              subst q1
              refine ⟨?_, by simp [Fd.wide], ?_, ?_⟩
              · unfold Fd.fits
                rw [if_neg (by simp), if_neg (by simp), if_pos rfl, h3.2]
                show ((2 : Int) == 2 && (0 : Int) == 0 && decide (t.length ≤ 16)) = true
                simp [h4]
              · rw [q2, q3]; simp; omega
              · show _ = encT _
                unfold encT
                rw [q3, q2, h3.1, show 1 + (esc t).length + 2 = (esc t).length + 2 + 1 by omega, List.take_succ_cons]
                congr 1
                rw [List.take_length_add_append]
                rfl
            · rw [if_neg h4] at h; cases h
        · rw [if_neg h3] at h; cases h
theorem decC_enc {c : Col} {f : Fd} (h : f.fits c = true) (w : f.wide) (r : List UInt8) : decFd c.kind (if c.desc then (encC c f ++ r).map neg else encC c f ++ r) = some (f, (encC c f).length) := by
  rw [encC_len]
  unfold encC
  by_cases hd : c.desc = true
  · rw [if_pos hd, if_pos hd, List.map_append, map_neg_neg, decFd_enc h w]
  · rw [if_neg hd, if_neg hd, decFd_enc h w]
/-- Lists come back from their encodings. -/
theorem decR_enc : ∀ (s : List Col) (l : List Fd), l.length = s.length → fitsR s l = true → (∀ f ∈ l, f.wide) → decR s (encR s l) = some l
  | [], [], _, _, _ => rfl
  | [], _ :: _, h, _, _ => by simp at h
  | _ :: _, [], h, _, _ => by simp at h
  | c :: s, f :: l, hl, h, w => by
    simp only [fitsR, Bool.and_eq_true] at h
    show decR (c :: s) (encC c f ++ encR s l) = _
    unfold decR
    rw [decC_enc h.1 (w f (.head _))]
    simp only
    rw [List.drop_left, decR_enc s l (by simpa using hl) h.2 (fun g hg => w g (.tail _ hg))]
    rfl
/-- Whatever is decoded is the encoding of what is given back. -/
theorem decR_inv : ∀ (s : List Col) (b : List UInt8) (l : List Fd), decR s b = some l → fitsR s l = true ∧ (∀ f ∈ l, f.wide) ∧ encR s l = b ∧ l.length = s.length
  | [], [], l, h => by
    unfold decR at h
    injection h with h
    subst h
    exact ⟨rfl, (fun f hf => by cases hf), rfl, rfl⟩
  | [], _ :: _, l, h => by unfold decR at h; cases h
  | c :: s, b, l, h => by
    unfold decR at h
    cases hd : decFd c.kind (if c.desc then b.map neg else b) with
    | none => rw [hd] at h; cases h
    | some p =>
      obtain ⟨f, n⟩ := p
      rw [hd] at h
      simp only at h
      cases hr : decR s (b.drop n) with
      | none => rw [hr] at h; cases h
      | some l' =>
        rw [hr] at h
        injection h with h
        subst h
        obtain ⟨q1, q2, q3, q4⟩ := decFd_inv hd
        obtain ⟨r1, r2, r3, r4⟩ := decR_inv s _ _ hr
        refine ⟨?_, ?_, ?_, by simp [r4]⟩
        · show (f.fits c && fitsR s l') = true
          rw [q1, r1]; rfl
        · intro g hg
          rcases List.mem_cons.1 hg with rfl | hg
          · exact q2
          · exact r2 g hg
        · show encC c f ++ encR s l' = b
          rw [r3]
          have e : encC c f = b.take n := by
            unfold encC
            by_cases hdd : c.desc = true
            · rw [if_pos hdd] at q4 ⊢
              rw [← q4, ← List.map_take, map_neg_neg]
            · rw [if_neg hdd] at q4 ⊢
              exact q4.symm
          rw [e, List.take_append_drop]
theorem Parts2.nopre {p q : List UInt8} {z : Int} (h : Parts2 p q z) (x y : List UInt8) : ¬ (p ++ x) <+: (q ++ y) := by
  obtain ⟨r, u, v, s, t, rfl, rfl, h⟩ := h
  rintro ⟨k, e⟩
  simp only [List.append_assoc, List.cons_append] at e
  have e2 := List.append_cancel_left e
  injection e2 with e3 e4
  subst e3
  rcases h with ⟨h, _⟩ | ⟨h, _⟩ <;> simp at h
/-- An encoding begins with another one exactly if the list does with the other list. -/
theorem encR_pre : ∀ (s : List Col) (a b : List Fd), fitsR s a = true → fitsR s b = true → (∀ f ∈ a, f.wide) → (∀ f ∈ b, f.wide) → a.length ≤ b.length → (encR s a <+: encR s b ↔ a = b.take a.length)
  | s, [], b, _, _, _, _, _ => by
    rw [encR_nil]
    simp
  | s, _ :: _, [], _, _, _, _, h => by simp at h
  | [], _ :: _, _ :: _, h, _, _, _, _ => by cases h
  | c :: s, a :: x, b :: y, h1, h2, w1, w2, hl => by
    simp only [fitsR, Bool.and_eq_true] at h1 h2
    show (encC c a ++ encR s x <+: encC c b ++ encR s y) ↔ a :: x = b :: y.take x.length
    by_cases h : cmpF a b = 0
    · have e := cmpF_zero h
      subst e
      rw [List.prefix_append_right_inj, encR_pre s x y h1.2 h2.2 (fun f hf => w1 f (.tail _ hf)) (fun f hf => w2 f (.tail _ hf)) (by simpa using hl)]
      simp
    · have hp := encF_parts h1.1 h2.1 (w1 a (.head _)) (w2 b (.head _)) h
      have hn : ¬ (encC c a ++ encR s x) <+: (encC c b ++ encR s y) := by
        unfold encC
        by_cases hd : c.desc = true
        · rw [if_pos hd, if_pos hd]; exact hp.neg.nopre _ _
        · rw [if_neg hd, if_neg hd]; exact hp.nopre _ _
      constructor
      · intro k; exact absurd k hn
      · intro k
        injection k with k1 k2
        subst k1
        exact absurd (cmpF_self a) h
end Go.Proofs.YtlnmpiigmedgkaaDoor
