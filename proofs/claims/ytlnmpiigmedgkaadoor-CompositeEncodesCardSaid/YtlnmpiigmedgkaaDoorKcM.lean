/-
  Plain facts for the statements of chapter 2: turned schemas. No condition.
-/
import Derived.Test.YtlnmpiigmedgkaaDoorKcP
namespace Go.Proofs.YtlnmpiigmedgkaaDoor
open Go.RowKit

def Col.flip (c : Col) : Col := ⟨c.kind, !c.desc⟩
theorem schOk_flip (s : List Col) : schOk (s.map Col.flip) = schOk s := by
  unfold schOk
  rw [List.length_map, List.all_map]
  rfl
theorem fits_flip (c : Col) (f : Fd) : f.fits c.flip = f.fits c := rfl
theorem fitsR_flip : ∀ (s : List Col) (l : List Fd), fitsR (s.map Col.flip) l = fitsR s l
  | [], [] => rfl
  | [], _ :: _ => rfl
  | _ :: _, [] => rfl
  | c :: s, f :: l => by
    show (f.fits c.flip && fitsR (s.map Col.flip) l) = _
    rw [fitsR_flip s l]; rfl
theorem fitsL_flip (s : List Col) (l : List Fd) : fitsL (s.map Col.flip) l = fitsL s l := by unfold fitsL; rw [schOk_flip, fitsR_flip]
theorem encR_flip : ∀ (s : List Col) (l : List Fd), (encR (s.map Col.flip) l).length = (encR s l).length
  | [], [] => rfl
  | [], _ :: _ => rfl
  | _ :: _, [] => rfl
  | c :: s, f :: l => by
    show (encC c.flip f ++ encR (s.map Col.flip) l).length = (encC c f ++ encR s l).length
    rw [List.length_append, List.length_append, encR_flip s l, encC_len, encC_len]
theorem encV_flip (s : List Col) (l : List Fd) : (encV (s.map Col.flip) l).2 = (encV s l).2 ∧ (encV (s.map Col.flip) l).1.size = (encV s l).1.size := by
  unfold encV
  rw [fitsL_flip, encR_flip]
  split
  · split
    · exact ⟨rfl, encR_flip s l⟩
    · exact ⟨rfl, rfl⟩
  · exact ⟨rfl, rfl⟩
theorem cmpI_neg (a b : Int) : cmpI a b = -cmpI b a := by
  unfold cmpI
  rcases Int.lt_trichotomy a b with h | h | h
  · rw [if_pos h, if_neg (by omega), if_pos h]
  · subst h; simp
  · rw [if_neg (by omega), if_pos h, if_pos h]; rfl
theorem cmpT_neg (a b : ByteArray) : cmpT a b = -cmpT b a := by
  unfold cmpT
  cases h1 : kl a b <;> cases h2 : kl b a
  · simp
  · simp
  · simp
  · exact absurd (kl_asymm h1) (by rw [h2]; simp)
theorem cmpF_neg (a b : Fd) : cmpF a b = -cmpF b a := by
  unfold cmpF
  rw [cmpI_neg a.kind b.kind, cmpI_neg a.num b.num, cmpT_neg a.text b.text]
  by_cases h1 : cmpI b.kind a.kind = 0 <;> by_cases h2 : cmpI b.num a.num = 0 <;> simp [h1, h2]
theorem cmpF_self (a : Fd) : cmpF a a = 0 := by have := cmpF_neg a a; omega
theorem cmpR_self : ∀ (s : List Col) (a : List Fd), cmpR s a a = 0
  | [], [] => rfl
  | _ :: _, [] => rfl
  | [], a :: x => by show cmpI _ _ = 0; have := cmpI_neg ((a :: x).length : Int) ((a :: x).length : Int); omega
  | c :: s, a :: x => by
    show (if cmpF a a = 0 then cmpR s x x else _) = 0
    rw [if_pos (cmpF_self a), cmpR_self s x]
theorem cmpL_self (s : List Col) (a : List Fd) : cmpL s a a = 0 := by
  unfold cmpL
  rw [cmpR_self]
  split <;> rfl
theorem cmpR_flip : ∀ (s : List Col) (a b : List Fd), a.length = b.length → a.length ≤ s.length → cmpR (s.map Col.flip) a b = cmpR s b a
  | [], [], [], _, _ => rfl
  | _ :: _, [], [], _, _ => rfl
  | _, [], _ :: _, h, _ => by simp at h
  | _, _ :: _, [], h, _ => by simp at h
  | [], _ :: _, _ :: _, _, h => by simp at h
  | c :: s, a :: x, b :: y, h1, h2 => by
    show (if cmpF a b = 0 then cmpR (s.map Col.flip) x y else if (!c.desc) = true then -cmpF a b else cmpF a b) = (if cmpF b a = 0 then cmpR s y x else if c.desc = true then -cmpF b a else cmpF b a)
    rw [cmpR_flip s x y (by simpa using h1) (by simpa using h2), cmpF_neg a b]
    generalize cmpF b a = z
    by_cases hz : z = 0
    · simp [hz]
    · cases c.desc <;> simp [hz]
theorem cmpL_flip (s : List Col) (a b : List Fd) (h1 : a.length = b.length) (h2 : a.length ≤ s.length) : cmpL (s.map Col.flip) a b = cmpL s b a := by
  unfold cmpL
  rw [fitsL_flip, fitsL_flip, cmpR_flip s a b h1 h2, Bool.and_comm]
end Go.Proofs.YtlnmpiigmedgkaaDoor
