/-
  The classes of nodes by a number that each node has: what adding a node does, and how classes by a finer number divide them. No condition.
-/
import Derived.Test.YtmhimkojegkalaaDoorKdG
namespace Go.Proofs.YtmhimkojegkalaaDoor
open Go.RowKit

/-- The number that a class has: that of its first node. -/
def kf (f : Nd → Nat) : List Nd → Option Nat
  | [] => none
  | y :: _ => some (f y)
/-- A node is put into the first class that has its number, or into a new one. -/
def insK (f : Nd → Nat) (x : Nd) : List (List Nd) → List (List Nd)
  | [] => [[x]]
  | c :: cs => if kf f c = some (f x) then (c ++ [x]) :: cs else c :: insK f x cs
def clsK (f : Nd → Nat) (l : List Nd) : List (List Nd) := l.foldl (fun cs x => insK f x cs) []
theorem clsK_next (f : Nd → Nat) {l : List Nd} {k : Nat} (h : k < l.length) : clsK f (l.take (k + 1)) = insK f l[k] (clsK f (l.take k)) := by
  unfold clsK
  rw [List.take_succ_eq_append_getElem h, List.foldl_append]
  rfl
theorem clsK_snoc (f : Nd → Nat) (l : List Nd) (x : Nd) : clsK f (l ++ [x]) = insK f x (clsK f l) := by
  unfold clsK
  rw [List.foldl_append]
  rfl
theorem kf_snoc {f : Nd → Nat} {c : List Nd} {n : Nat} (h : kf f c = some n) (x : Nd) : kf f (c ++ [x]) = some n := by
  cases c with
  | nil => cases h
  | cons y r => exact h
/-- Where a class has the number: it is the one at p, and none before it has it. -/
theorem insK_at (f : Nd → Nat) (x : Nd) : ∀ (cs : List (List Nd)) (p : Nat) (h : p < cs.length), (∀ j (hj : j < p), kf f (cs[j]'(by omega)) ≠ some (f x)) → kf f cs[p] = some (f x) → insK f x cs = cs.set p (cs[p] ++ [x])
  | [], p, h, _, _ => by simp at h
  | c :: cs, 0, _, _, hp => by
    show (if kf f c = some (f x) then _ else _) = _
    rw [if_pos (by simpa using hp)]
    rfl
  | c :: cs, p + 1, h, hj, hp => by
    show (if kf f c = some (f x) then _ else _) = _
    rw [if_neg (by simpa using hj 0 (by omega))]
    have h' : p < cs.length := by simpa using h
    rw [insK_at f x cs p h' (fun j hj' => by simpa using hj (j + 1) (by omega)) (by simpa using hp)]
    rfl
theorem insK_new (f : Nd → Nat) (x : Nd) : ∀ (cs : List (List Nd)), (∀ c ∈ cs, kf f c ≠ some (f x)) → insK f x cs = cs ++ [[x]]
  | [], _ => rfl
  | c :: cs, h => by
    show (if kf f c = some (f x) then _ else _) = _
    rw [if_neg (h c (by simp)), insK_new f x cs (fun d hd => h d (by simp [hd]))]
    rfl
/-- The first class that has a number. -/
def firstK (f : Nd → Nat) (k : Nat) : List (List Nd) → List Nd
  | [] => []
  | c :: cs => if kf f c = some k then c else firstK f k cs
theorem firstK_ins (f : Nd → Nat) (x : Nd) (k : Nat) : ∀ cs, firstK f k (insK f x cs) = if f x = k then firstK f k cs ++ [x] else firstK f k cs
  | [] => by
    show (if some (f x) = some k then [x] else []) = _
    by_cases h : f x = k
    · rw [if_pos h, if_pos (by rw [h])]; rfl
    · rw [if_neg h, if_neg (by simpa using h)]; rfl
  | c :: cs => by
    by_cases h : kf f c = some (f x)
    · have e : insK f x (c :: cs) = (c ++ [x]) :: cs := by show (if _ then _ else _) = _; rw [if_pos h]
      rw [e]
      show (if kf f (c ++ [x]) = some k then c ++ [x] else firstK f k cs) = if f x = k then (if kf f c = some k then c else firstK f k cs) ++ [x] else (if kf f c = some k then c else firstK f k cs)
      rw [kf_snoc h, h]
      by_cases hk : f x = k
      · simp [hk]
      · simp [hk]
    · have e : insK f x (c :: cs) = c :: insK f x cs := by show (if _ then _ else _) = _; rw [if_neg h]
      rw [e]
      show (if kf f c = some k then c else firstK f k (insK f x cs)) = if f x = k then (if kf f c = some k then c else firstK f k cs) ++ [x] else (if kf f c = some k then c else firstK f k cs)
      rw [firstK_ins f x k cs]
      by_cases hk : f x = k
      · subst hk
        rw [if_neg h, if_neg h]
      · simp only [if_neg hk]
theorem firstK_cls (f : Nd → Nat) (k : Nat) (l : List Nd) : firstK f k (clsK f l) = l.filter (fun x => decide (f x = k)) := by
  have : ∀ n, n ≤ l.length → firstK f k (clsK f (l.take n)) = (l.take n).filter (fun x => decide (f x = k)) := by
    intro n
    induction n with
    | zero => intro _; simp [clsK, firstK]
    | succ n ih =>
      intro hn
      have hlt : n < l.length := by omega
      rw [clsK_next f hlt, firstK_ins, ih (by omega), List.take_succ_eq_append_getElem hlt, List.filter_append]
      by_cases h : f l[n] = k <;> simp [h]
  have h := this l.length (Nat.le_refl _)
  rwa [List.take_length] at h
theorem len_ins (f : Nd → Nat) (x : Nd) : ∀ cs, (insK f x cs).length = cs.length + if firstK f (f x) cs = [] then 1 else 0
  | [] => rfl
  | c :: cs => by
    show (if kf f c = some (f x) then (c ++ [x]) :: cs else c :: insK f x cs).length = cs.length + 1 + if (if kf f c = some (f x) then c else firstK f (f x) cs) = [] then 1 else 0
    by_cases h : kf f c = some (f x)
    · have hc : c ≠ [] := by rintro rfl; cases h
      simp [h, hc]
    · rw [if_neg h, if_neg h, List.length_cons, len_ins f x cs]
      omega
/-- A measure of classes, added up. -/
theorem sum_ins (f : Nd → Nat) (m : List Nd → Nat) (h0 : m [] = 0) (x : Nd) : ∀ cs, ((insK f x cs).map m).sum + m (firstK f (f x) cs) = (cs.map m).sum + m (firstK f (f x) cs ++ [x])
  | [] => by simp [insK, firstK, h0]
  | c :: cs => by
    show ((if kf f c = some (f x) then (c ++ [x]) :: cs else c :: insK f x cs).map m).sum + m (if kf f c = some (f x) then c else firstK f (f x) cs) = m c + (cs.map m).sum + m ((if kf f c = some (f x) then c else firstK f (f x) cs) ++ [x])
    by_cases h : kf f c = some (f x)
    · simp only [if_pos h, List.map_cons, List.sum_cons]
      omega
    · have := sum_ins f m h0 x cs
      simp only [if_neg h, List.map_cons, List.sum_cons]
      omega
theorem sum_len (f : Nd → Nat) (l : List Nd) : ((clsK f l).map List.length).sum = l.length := by
  have : ∀ n, n ≤ l.length → ((clsK f (l.take n)).map List.length).sum = n := by
    intro n
    induction n with
    | zero => intro _; simp [clsK]
    | succ n ih =>
      intro hn
      have hlt : n < l.length := by omega
      have h := sum_ins f List.length rfl l[n] (clsK f (l.take n))
      rw [← clsK_next f hlt, ih (by omega), List.length_append] at h
      simp at h
      omega
  have h := this l.length (Nat.le_refl _)
  rwa [List.take_length] at h
theorem ne_iff_mem {l : List Nd} : ¬ l = [] ↔ ∃ y, y ∈ l := by
  cases l with
  | nil => simp
  | cons a l => simp only [reduceCtorEq, not_false_eq_true, true_iff]; exact ⟨a, by simp⟩
/-- Into how many parts a bit divides a class. -/
def prt (b : Nd → Bool) (c : List Nd) : Nat := (if c.any b then 1 else 0) + if c.any (fun x => !b x) then 1 else 0
theorem prt_snoc (b : Nd → Bool) (c : List Nd) (x : Nd) : prt b (c ++ [x]) = prt b c + if c.any (fun y => b y == b x) then 0 else 1 := by
  unfold prt
  simp only [List.any_append, List.any_cons, List.any_nil, Bool.or_false]
  cases hb : b x
  · have e : (fun y => b y == false) = fun y => !b y := by funext y; cases b y <;> rfl
    rw [e]
    cases c.any b <;> cases c.any (fun x => !b x) <;> simp
  · have e : (fun y => b y == true) = b := by funext y; cases b y <;> rfl
    rw [e]
    cases c.any b <;> cases c.any (fun x => !b x) <;> simp
theorem sum_prt (f g : Nd → Nat) (b : Nd → Bool) (l : List Nd) (hg : ∀ x ∈ l, ∀ y ∈ l, (g x = g y ↔ f x = f y ∧ b x = b y)) : ((clsK f l).map (prt b)).sum = (clsK g l).length := by
  have : ∀ n, n ≤ l.length → ((clsK f (l.take n)).map (prt b)).sum = (clsK g (l.take n)).length := by
    intro n
    induction n with
    | zero => intro _; simp [clsK]
    | succ n ih =>
      intro hn
      have hlt : n < l.length := by omega
      have h := sum_ins f (prt b) rfl l[n] (clsK f (l.take n))
      rw [← clsK_next f hlt, ih (by omega), prt_snoc] at h
      rw [clsK_next g hlt, len_ins, firstK_cls]
      rw [firstK_cls] at h
      have e : ((l.take n).filter (fun x => decide (f x = f l[n]))).any (fun y => b y == b l[n]) = true ↔ ¬ (l.take n).filter (fun x => decide (g x = g l[n])) = [] := by
        rw [List.any_eq_true, ne_iff_mem]
        refine exists_congr fun y => ?_
        rw [List.mem_filter, List.mem_filter]
        constructor
        · rintro ⟨⟨h1, h2⟩, h3⟩
          exact ⟨h1, by simpa using (hg y (List.mem_of_mem_take h1) _ (List.getElem_mem hlt)).2 ⟨by simpa using h2, by simpa using h3⟩⟩
        · rintro ⟨h1, h2⟩
          obtain ⟨h3, h4⟩ := (hg y (List.mem_of_mem_take h1) _ (List.getElem_mem hlt)).1 (by simpa using h2)
          exact ⟨⟨h1, by simpa using h3⟩, by simpa using h4⟩
      by_cases hy : (l.take n).filter (fun x => decide (g x = g l[n])) = []
      · have e2 : ¬ _ := fun k => e.1 k hy
        rw [if_neg e2] at h
        rw [if_pos hy]
        omega
      · rw [if_pos (e.2 hy)] at h
        rw [if_neg hy]
        omega
  have h := this l.length (Nat.le_refl _)
  rwa [List.take_length] at h
/-- All nodes of a class have its number; the class is not empty; its nodes are of the list. -/
def Pure_ (f : Nd → Nat) (l : List Nd) (cs : List (List Nd)) : Prop := ∀ c ∈ cs, ∀ z ∈ c, z ∈ l ∧ kf f c = some (f z)
theorem pure_ins {f : Nd → Nat} {l : List Nd} {x : Nd} (hx : x ∈ l) : ∀ {cs}, Pure_ f l cs → Pure_ f l (insK f x cs)
  | [], _ => by
    intro c hc z hz
    have hc' : c = [x] := by simpa [insK] using hc
    subst hc'
    have hz' : z = x := by simpa using hz
    subst hz'
    exact ⟨hx, rfl⟩
  | d :: cs, h => by
    have ht : Pure_ f l cs := fun c hc => h c (by simp [hc])
    intro c hc z hz
    by_cases hk : kf f d = some (f x)
    · have e : insK f x (d :: cs) = (d ++ [x]) :: cs := by show (if _ then _ else _) = _; rw [if_pos hk]
      rw [e] at hc
      rcases List.mem_cons.1 hc with rfl | hc
      · rcases List.mem_append.1 hz with hz | hz
        · obtain ⟨h1, h2⟩ := h d (by simp) z hz
          exact ⟨h1, kf_snoc h2 x⟩
        · have hz' : z = x := by simpa using hz
          subst hz'
          exact ⟨hx, kf_snoc hk _⟩
      · exact ht c hc z hz
    · have e : insK f x (d :: cs) = d :: insK f x cs := by show (if _ then _ else _) = _; rw [if_neg hk]
      rw [e] at hc
      rcases List.mem_cons.1 hc with rfl | hc
      · exact h _ (by simp) z hz
      · exact pure_ins hx ht c hc z hz
theorem pure_cls (f : Nd → Nat) (l : List Nd) : Pure_ f l (clsK f l) := by
  have : ∀ n, n ≤ l.length → Pure_ f l (clsK f (l.take n)) := by
    intro n
    induction n with
    | zero => intro _ c hc; simp [clsK] at hc
    | succ n ih =>
      intro hn
      have hlt : n < l.length := by omega
      rw [clsK_next f hlt]
      exact pure_ins (List.getElem_mem hlt) (ih (by omega))
  have h := this l.length (Nat.le_refl _)
  rwa [List.take_length] at h
theorem ins_ne {f : Nd → Nat} {x : Nd} : ∀ {cs : List (List Nd)}, (∀ c ∈ cs, c ≠ []) → ∀ c ∈ insK f x cs, c ≠ []
  | [], _, c, hc => by
    have hc' : c = [x] := by simpa [insK] using hc
    subst hc'
    simp
  | d :: cs, h, c, hc => by
    by_cases hk : kf f d = some (f x)
    · have e : insK f x (d :: cs) = (d ++ [x]) :: cs := by show (if _ then _ else _) = _; rw [if_pos hk]
      rw [e] at hc
      rcases List.mem_cons.1 hc with rfl | hc
      · simp
      · exact h c (by simp [hc])
    · have e : insK f x (d :: cs) = d :: insK f x cs := by show (if _ then _ else _) = _; rw [if_neg hk]
      rw [e] at hc
      rcases List.mem_cons.1 hc with rfl | hc
      · exact h _ (by simp)
      · exact ins_ne (fun c hc => h c (by simp [hc])) c hc
theorem cls_ne (f : Nd → Nat) (l : List Nd) : ∀ c ∈ clsK f l, c ≠ [] := by
  have : ∀ n, n ≤ l.length → ∀ c ∈ clsK f (l.take n), c ≠ [] := by
    intro n
    induction n with
    | zero => intro _ c hc; simp [clsK] at hc
    | succ n ih =>
      intro hn
      have hlt : n < l.length := by omega
      rw [clsK_next f hlt]
      exact ins_ne (ih (by omega))
  have h := this l.length (Nat.le_refl _)
  rwa [List.take_length] at h
theorem cls_len (f : Nd → Nat) (l : List Nd) : (clsK f l).length ≤ l.length := by
  have h : ∀ (cs : List (List Nd)), (∀ c ∈ cs, c ≠ []) → cs.length ≤ (cs.map List.length).sum := by
    intro cs
    induction cs with
    | nil => intro _; simp
    | cons c cs ih =>
      intro h
      have h1 := ih (fun d hd => h d (by simp [hd]))
      have h2 : c.length ≠ 0 := fun e => h c (by simp) (List.eq_nil_of_length_eq_zero e)
      simp only [List.length_cons, List.map_cons, List.sum_cons]
      omega
  have h2 := h _ (cls_ne f l)
  rw [sum_len] at h2
  exact h2
/-- The lowest bits of a node's word. -/
def lowK (h : Nat) (x : Nd) : Nat := x.word % 2 ^ h
theorem low_cm {a b h : Nat} (ha : a < 4294967296) (hb : b < 4294967296) (hh : h ≤ 16) : h ≤ cm a b ↔ a % 2 ^ h = b % 2 ^ h := by
  rw [le_cm ha hb, low_eq]
  exact ⟨fun k => k.2, fun k => ⟨hh, k⟩⟩
theorem low_cm_int {a b : Nat} {h : Int} (ha : a < 4294967296) (hb : b < 4294967296) (hh : h ≤ 16) : h ≤ (cm a b : Int) ↔ a % 2 ^ h.toNat = b % 2 ^ h.toNat := by
  rw [← low_cm ha hb (by omega)]
  omega
theorem low_next (a b h : Nat) : a % 2 ^ (h + 1) = b % 2 ^ (h + 1) ↔ a % 2 ^ h = b % 2 ^ h ∧ a.testBit h = b.testBit h := by
  rw [low_eq, low_eq]
  constructor
  · exact fun k => ⟨fun i hi => k i (by omega), k h (by omega)⟩
  · rintro ⟨k, e⟩ i hi
    rcases Nat.lt_or_ge i h with h1 | h1
    · exact k i h1
    · obtain rfl : i = h := by omega
      exact e
end Go.Proofs.YtmhimkojegkalaaDoor
