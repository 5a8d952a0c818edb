/-
  Plain facts on schemas, fields and their encodings. No condition.
-/
import Derived.Test.YtlnmpiigmedgkaaDoorKsP
namespace Go.Proofs.YtlnmpiigmedgkaaDoor
open Go.RowKit

/-- A column, and a field, as the program holds them. -/
structure Col where
  kind : Int
  desc : Bool
structure Fd where
  kind : Int
  num : Int
  text : ByteArray
abbrev Col.val (c : Col) : Value := .agg #[.int .i64 c.kind, .bool c.desc]
abbrev Fd.val (f : Fd) : Value := .agg #[.int .i64 f.kind, .int .i64 f.num, .string f.text]
abbrev Fd.zero : Fd := ⟨0, 0, ⟨#[]⟩⟩
/-- What comes in fits its Go types. -/
def Fd.wide (f : Fd) : Prop := -9223372036854775808 ≤ f.num ∧ f.num ≤ 9223372036854775807

def Col.ok (c : Col) : Bool := c.kind == 1 || c.kind == 2
def schOk (s : List Col) : Bool := decide (1 ≤ s.length) && decide (s.length ≤ 6) && s.all Col.ok
def Fd.fits (c : Col) (f : Fd) : Bool :=
  if f.kind = 0 then f.num == 0 && f.text.size == 0
  else if f.kind = 1 then c.kind == 1 && f.text.size == 0
  else if f.kind = 2 then c.kind == 2 && f.num == 0 && decide (f.text.size ≤ 16)
  else false
def fitsR : List Col → List Fd → Bool
  | _, [] => true
  | [], _ :: _ => false
  | c :: s, f :: l => f.fits c && fitsR s l
def fitsL (s : List Col) (l : List Fd) : Bool := schOk s && fitsR s l
theorem fitsR_len : ∀ {s : List Col} {l : List Fd}, fitsR s l = true → l.length ≤ s.length
  | _, [], _ => by simp
  | [], _ :: _, h => by cases h
  | c :: s, f :: l, h => by
    simp only [fitsR, Bool.and_eq_true] at h
    have := fitsR_len h.2
    simp
    exact this
theorem fitsR_long : ∀ {s : List Col} {l : List Fd}, ¬ l.length ≤ s.length → fitsR s l = false := fun h => by
  cases e : fitsR _ _
  · rfl
  · exact absurd (fitsR_len e) h
theorem schOk_len {s : List Col} (h : schOk s = true) : 1 ≤ s.length ∧ s.length ≤ 6 := by
  simp only [schOk, Bool.and_eq_true, decide_eq_true_eq] at h
  exact h.1

/-- The order of fields of one column, ascending. -/
def cmpI (a b : Int) : Int := if a < b then -1 else if b < a then 1 else 0
def cmpT (a b : ByteArray) : Int := if kl a b then -1 else if kl b a then 1 else 0
def cmpF (a b : Fd) : Int := if cmpI a.kind b.kind ≠ 0 then cmpI a.kind b.kind else if cmpI a.num b.num ≠ 0 then cmpI a.num b.num else cmpT a.text b.text
def cmpR : List Col → List Fd → List Fd → Int
  | c :: s, a :: x, b :: y => if cmpF a b = 0 then cmpR s x y else if c.desc then -cmpF a b else cmpF a b
  | [], a :: x, b :: y => cmpI (a :: x).length (b :: y).length
  | _, [], y => cmpI 0 y.length
  | _, x, [] => cmpI x.length 0
def cmpL (s : List Col) (a b : List Fd) : Int := if fitsL s a && fitsL s b then cmpR s a b else 0

/-- The k bytes of a number, the highest first. -/
def be (m : Nat) : Nat → List UInt8
  | 0 => []
  | k + 1 => be (m / 256) k ++ [UInt8.ofNat (m % 256)]
theorem be_len (m : Nat) : ∀ k, (be m k).length = k := by
  intro k
  induction k generalizing m with
  | zero => rfl
  | succ k ih => simp [be, ih]
/-- A text's bytes, each 0 followed by 255. -/
def esc : List UInt8 → List UInt8
  | [] => []
  | c :: r => if c = 0 then 0 :: 255 :: esc r else c :: esc r
theorem esc_append : ∀ a b : List UInt8, esc (a ++ b) = esc a ++ esc b
  | [], _ => rfl
  | c :: a, b => by
    simp only [List.cons_append, esc]
    split <;> simp [esc_append a b]
theorem esc_len : ∀ l : List UInt8, l.length ≤ (esc l).length ∧ (esc l).length ≤ 2 * l.length
  | [] => by simp [esc]
  | c :: r => by
    have := esc_len r
    simp only [esc]
    split <;> simp <;> omega
def encI (n : Int) : List UInt8 := 2 :: be (n + 9223372036854775808).toNat 8
def encT (t : List UInt8) : List UInt8 := 3 :: (esc t ++ [0, 1])
def encF (f : Fd) : List UInt8 := if f.kind = 1 then encI f.num else if f.kind = 2 then encT f.text.data.toList else [1]
def neg (c : UInt8) : UInt8 := 255 - c
def encC (c : Col) (f : Fd) : List UInt8 := if c.desc then (encF f).map neg else encF f
def encR : List Col → List Fd → List UInt8
  | c :: s, f :: l => encC c f ++ encR s l
  | _, _ => []
theorem encI_len (n : Int) : (encI n).length = 9 := by simp [encI, be_len]
theorem encC_len (c : Col) (f : Fd) : (encC c f).length = (encF f).length := by unfold encC; split <;> simp
theorem encF_len {c : Col} {f : Fd} (h : f.fits c = true) : 1 ≤ (encF f).length ∧ (encF f).length ≤ 35 := by
  unfold encF
  unfold Fd.fits at h
  split
  · rw [encI_len]; omega
  · split
    · rename_i h1 h2
      rw [if_neg (by omega), if_neg h1, if_pos h2] at h
      simp only [Bool.and_eq_true, decide_eq_true_eq] at h
      have := esc_len f.text.data.toList
      have hs : f.text.data.toList.length ≤ 16 := h.2
      simp only [encT, List.length_cons, List.length_append, List.length_nil]
      omega
    · simp
theorem encR_len : ∀ {s : List Col} {l : List Fd}, fitsR s l = true → (encR s l).length ≤ l.length * 35
  | _, [], _ => by cases ‹List Col› <;> simp [encR]
  | [], _ :: _, h => by cases h
  | c :: s, f :: l, h => by
    simp only [fitsR, Bool.and_eq_true] at h
    have h1 := encF_len h.1
    have h2 := encR_len h.2
    simp only [encR, List.length_append, encC_len, List.length_cons]
    omega
theorem encR_nil (s : List Col) : encR s [] = [] := by cases s <;> rfl

/-- What Encode answers: the key and the error. -/
def encV (s : List Col) (l : List Fd) : ByteArray × Int := if fitsL s l then (if (encR s l).length ≤ 64 then (⟨(encR s l).toArray⟩, 0) else (⟨#[]⟩, 3)) else (⟨#[]⟩, 1)

/-- The fields at the beginning of bytes. -/
def val8 (l : List UInt8) : Nat := l.foldl (fun a c => a * 256 + c.toNat) 0
/-- A text from place i on, with t read before. -/
def decT (i : Nat) (t : List UInt8) : List UInt8 → Option (List UInt8 × Nat)
  | c :: d :: r => if c ≠ 0 then decT (i + 1) (t ++ [c]) (d :: r) else if d = 255 then decT (i + 2) (t ++ [0]) r else if d = 1 then some (t, i + 2) else none
  | _ => none
def decFd (kind : Int) : List UInt8 → Option (Fd × Nat)
  | [] => none
  | c :: r => if c = 1 then some (Fd.zero, 1)
    else if c = 2 ∧ kind = 1 then (if 8 ≤ r.length then some (⟨1, (val8 (r.take 8) : Int) - 9223372036854775808, ⟨#[]⟩⟩, 9) else none)
    else if c = 3 ∧ kind = 2 then (match decT 1 [] r with | some (t, n) => if t.length ≤ 16 then some (⟨2, 0, ⟨t.toArray⟩⟩, n) else none | none => none)
    else none
def decR : List Col → List UInt8 → Option (List Fd)
  | [], [] => some []
  | [], _ :: _ => none
  | c :: s, b => match decFd c.kind (if c.desc then b.map neg else b) with
    | none => none
    | some (f, n) => (decR s (b.drop n)).map (f :: ·)
end Go.Proofs.YtlnmpiigmedgkaaDoor
