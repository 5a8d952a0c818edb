/-
  The classes of nodes by a number that each node has: what adding a node does, and how classes by a finer number divide them. No condition.
  Classes of package word: the lists of the nodes whose words agree up to a level. Condition: the nodes can be read.
  Classes of the reference of chapter 4. Condition: the nodes can be read.
-/
import Derived.Test.YtjokbdhineilcaaGreatDoorLdG
import Derived.Test.YtjokbdhineilcaaGreatDoorLdX
import Derived.Test.YtjokbdhineilcaaGreatDoorKwU
import Derived.Maps.OwnSet
import Derived.Maps.OwnOps
import Derived.Carry
namespace Go.Proofs.YtjokbdhineilcaaGreatDoor
section
open Go.RowKit

/-- The number that a class has: that of its first node. -/
def kf (f : Nd → Nat) : List Nd → Option Nat
  | [] => none
  | y :: _ => some (f y)
/-- A node is put into the first class that has its number, or into a new one. -/
def insK (f : Nd → Nat) (x : Nd) : List (List Nd) → List (List Nd)
  | [] => [[x]]
  | c :: cs => if kf f c = some (f x) then (c ++ [x]) :: cs else c :: insK f x cs
def clsK (f : Nd → Nat) (l : List Nd) : List (List Nd) := l.foldl (fun cs x => insK f x cs) []
theorem clsK_next (f : Nd → Nat) {l : List Nd} {k : Nat} (h : k < l.length) : clsK f (l.take (k + 1)) = insK f l[k] (clsK f (l.take k)) := by
  unfold clsK
  rw [List.take_succ_eq_append_getElem h, List.foldl_append]
  rfl
theorem clsK_snoc (f : Nd → Nat) (l : List Nd) (x : Nd) : clsK f (l ++ [x]) = insK f x (clsK f l) := by
  unfold clsK
  rw [List.foldl_append]
  rfl
theorem kf_snoc {f : Nd → Nat} {c : List Nd} {n : Nat} (h : kf f c = some n) (x : Nd) : kf f (c ++ [x]) = some n := by
  cases c with
  | nil => cases h
  | cons y r => exact h
/-- Where a class has the number: it is the one at p, and none before it has it. -/
theorem insK_at (f : Nd → Nat) (x : Nd) : ∀ (cs : List (List Nd)) (p : Nat) (h : p < cs.length), (∀ j (hj : j < p), kf f (cs[j]'(by omega)) ≠ some (f x)) → kf f cs[p] = some (f x) → insK f x cs = cs.set p (cs[p] ++ [x])
  | [], p, h, _, _ => by simp at h
  | c :: cs, 0, _, _, hp => by
    show (if kf f c = some (f x) then _ else _) = _
    rw [if_pos (by simpa using hp)]
    rfl
  | c :: cs, p + 1, h, hj, hp => by
    show (if kf f c = some (f x) then _ else _) = _
    rw [if_neg (by simpa using hj 0 (by omega))]
    have h' : p < cs.length := by simpa using h
    rw [insK_at f x cs p h' (fun j hj' => by simpa using hj (j + 1) (by omega)) (by simpa using hp)]
    rfl
theorem insK_new (f : Nd → Nat) (x : Nd) : ∀ (cs : List (List Nd)), (∀ c ∈ cs, kf f c ≠ some (f x)) → insK f x cs = cs ++ [[x]]
  | [], _ => rfl
  | c :: cs, h => by
    show (if kf f c = some (f x) then _ else _) = _
    rw [if_neg (h c (by simp)), insK_new f x cs (fun d hd => h d (by simp [hd]))]
    rfl
/-- The first class that has a number. -/
def firstK (f : Nd → Nat) (k : Nat) : List (List Nd) → List Nd
  | [] => []
  | c :: cs => if kf f c = some k then c else firstK f k cs
theorem firstK_ins (f : Nd → Nat) (x : Nd) (k : Nat) : ∀ cs, firstK f k (insK f x cs) = if f x = k then firstK f k cs ++ [x] else firstK f k cs
  | [] => by
    show (if some (f x) = some k then [x] else []) = _
    by_cases h : f x = k
    · rw [if_pos h, if_pos (by rw [h])]; rfl
    · rw [if_neg h, if_neg (by simpa using h)]; rfl
  | c :: cs => by
    by_cases h : kf f c = some (f x)
    · have e : insK f x (c :: cs) = (c ++ [x]) :: cs := by show (if _ then _ else _) = _; rw [if_pos h]
      rw [e]
      show (if kf f (c ++ [x]) = some k then c ++ [x] else firstK f k cs) = if f x = k then (if kf f c = some k then c else firstK f k cs) ++ [x] else (if kf f c = some k then c else firstK f k cs)
      rw [kf_snoc h, h]
      by_cases hk : f x = k
      · simp [hk]
      · simp [hk]
    · have e : insK f x (c :: cs) = c :: insK f x cs := by show (if _ then _ else _) = _; rw [if_neg h]
      rw [e]
      show (if kf f c = some k then c else firstK f k (insK f x cs)) = if f x = k then (if kf f c = some k then c else firstK f k cs) ++ [x] else (if kf f c = some k then c else firstK f k cs)
      rw [firstK_ins f x k cs]
      by_cases hk : f x = k
      · subst hk
        rw [if_neg h, if_neg h]
      · simp only [if_neg hk]
theorem firstK_cls (f : Nd → Nat) (k : Nat) (l : List Nd) : firstK f k (clsK f l) = l.filter (fun x => decide (f x = k)) := by
  have : ∀ n, n ≤ l.length → firstK f k (clsK f (l.take n)) = (l.take n).filter (fun x => decide (f x = k)) := by
    intro n
    induction n with
    | zero => intro _; simp [clsK, firstK]
    | succ n ih =>
      intro hn
      have hlt : n < l.length := by omega
      rw [clsK_next f hlt, firstK_ins, ih (by omega), List.take_succ_eq_append_getElem hlt, List.filter_append]
      by_cases h : f l[n] = k <;> simp [h]
  have h := this l.length (Nat.le_refl _)
  rwa [List.take_length] at h
theorem len_ins (f : Nd → Nat) (x : Nd) : ∀ cs, (insK f x cs).length = cs.length + if firstK f (f x) cs = [] then 1 else 0
  | [] => rfl
  | c :: cs => by
    show (if kf f c = some (f x) then (c ++ [x]) :: cs else c :: insK f x cs).length = cs.length + 1 + if (if kf f c = some (f x) then c else firstK f (f x) cs) = [] then 1 else 0
    by_cases h : kf f c = some (f x)
    · have hc : c ≠ [] := by rintro rfl; cases h
      simp [h, hc]
    · rw [if_neg h, if_neg h, List.length_cons, len_ins f x cs]
      omega
/-- A measure of classes, added up. -/
theorem sum_ins (f : Nd → Nat) (m : List Nd → Nat) (h0 : m [] = 0) (x : Nd) : ∀ cs, ((insK f x cs).map m).sum + m (firstK f (f x) cs) = (cs.map m).sum + m (firstK f (f x) cs ++ [x])
  | [] => by simp [insK, firstK, h0]
  | c :: cs => by
    show ((if kf f c = some (f x) then (c ++ [x]) :: cs else c :: insK f x cs).map m).sum + m (if kf f c = some (f x) then c else firstK f (f x) cs) = m c + (cs.map m).sum + m ((if kf f c = some (f x) then c else firstK f (f x) cs) ++ [x])
    by_cases h : kf f c = some (f x)
    · simp only [if_pos h, List.map_cons, List.sum_cons]
      omega
    · have := sum_ins f m h0 x cs
      simp only [if_neg h, List.map_cons, List.sum_cons]
      omega
theorem sum_len (f : Nd → Nat) (l : List Nd) : ((clsK f l).map List.length).sum = l.length := by
  have : ∀ n, n ≤ l.length → ((clsK f (l.take n)).map List.length).sum = n := by
    intro n
    induction n with
    | zero => intro _; simp [clsK]
    | succ n ih =>
      intro hn
      have hlt : n < l.length := by omega
      have h := sum_ins f List.length rfl l[n] (clsK f (l.take n))
      rw [← clsK_next f hlt, ih (by omega), List.length_append] at h
      simp at h
      omega
  have h := this l.length (Nat.le_refl _)
  rwa [List.take_length] at h
theorem ne_iff_mem {l : List Nd} : ¬ l = [] ↔ ∃ y, y ∈ l := by
  cases l with
  | nil => simp
  | cons a l => simp only [reduceCtorEq, not_false_eq_true, true_iff]; exact ⟨a, by simp⟩
/-- Into how many parts a bit divides a class. -/
def prt (b : Nd → Bool) (c : List Nd) : Nat := (if c.any b then 1 else 0) + if c.any (fun x => !b x) then 1 else 0
theorem prt_snoc (b : Nd → Bool) (c : List Nd) (x : Nd) : prt b (c ++ [x]) = prt b c + if c.any (fun y => b y == b x) then 0 else 1 := by
  unfold prt
  simp only [List.any_append, List.any_cons, List.any_nil, Bool.or_false]
  cases hb : b x
  · have e : (fun y => b y == false) = fun y => !b y := by funext y; cases b y <;> rfl
    rw [e]
    cases c.any b <;> cases c.any (fun x => !b x) <;> simp
  · have e : (fun y => b y == true) = b := by funext y; cases b y <;> rfl
    rw [e]
    cases c.any b <;> cases c.any (fun x => !b x) <;> simp
theorem sum_prt (f g : Nd → Nat) (b : Nd → Bool) (l : List Nd) (hg : ∀ x ∈ l, ∀ y ∈ l, (g x = g y ↔ f x = f y ∧ b x = b y)) : ((clsK f l).map (prt b)).sum = (clsK g l).length := by
  have : ∀ n, n ≤ l.length → ((clsK f (l.take n)).map (prt b)).sum = (clsK g (l.take n)).length := by
    intro n
    induction n with
    | zero => intro _; simp [clsK]
    | succ n ih =>
      intro hn
      have hlt : n < l.length := by omega
      have h := sum_ins f (prt b) rfl l[n] (clsK f (l.take n))
      rw [← clsK_next f hlt, ih (by omega), prt_snoc] at h
      rw [clsK_next g hlt, len_ins, firstK_cls]
      rw [firstK_cls] at h
      have e : ((l.take n).filter (fun x => decide (f x = f l[n]))).any (fun y => b y == b l[n]) = true ↔ ¬ (l.take n).filter (fun x => decide (g x = g l[n])) = [] := by
        rw [List.any_eq_true, ne_iff_mem]
        refine exists_congr fun y => ?_
        rw [List.mem_filter, List.mem_filter]
        constructor
        · rintro ⟨⟨h1, h2⟩, h3⟩
          exact ⟨h1, by simpa using (hg y (List.mem_of_mem_take h1) _ (List.getElem_mem hlt)).2 ⟨by simpa using h2, by simpa using h3⟩⟩
        · rintro ⟨h1, h2⟩
          obtain ⟨h3, h4⟩ := (hg y (List.mem_of_mem_take h1) _ (List.getElem_mem hlt)).1 (by simpa using h2)
          exact ⟨⟨h1, by simpa using h3⟩, by simpa using h4⟩
      by_cases hy : (l.take n).filter (fun x => decide (g x = g l[n])) = []
      · have e2 : ¬ _ := fun k => e.1 k hy
        rw [if_neg e2] at h
        rw [if_pos hy]
        omega
      · rw [if_pos (e.2 hy)] at h
        rw [if_neg hy]
        omega
  have h := this l.length (Nat.le_refl _)
  rwa [List.take_length] at h
/-- All nodes of a class have its number; the class is not empty; its nodes are of the list. -/
def Pure_ (f : Nd → Nat) (l : List Nd) (cs : List (List Nd)) : Prop := ∀ c ∈ cs, ∀ z ∈ c, z ∈ l ∧ kf f c = some (f z)
theorem pure_ins {f : Nd → Nat} {l : List Nd} {x : Nd} (hx : x ∈ l) : ∀ {cs}, Pure_ f l cs → Pure_ f l (insK f x cs)
  | [], _ => by
    intro c hc z hz
    have hc' : c = [x] := by simpa [insK] using hc
    subst hc'
    have hz' : z = x := by simpa using hz
    subst hz'
    exact ⟨hx, rfl⟩
  | d :: cs, h => by
    have ht : Pure_ f l cs := fun c hc => h c (by simp [hc])
    intro c hc z hz
    by_cases hk : kf f d = some (f x)
    · have e : insK f x (d :: cs) = (d ++ [x]) :: cs := by show (if _ then _ else _) = _; rw [if_pos hk]
      rw [e] at hc
      rcases List.mem_cons.1 hc with rfl | hc
      · rcases List.mem_append.1 hz with hz | hz
        · obtain ⟨h1, h2⟩ := h d (by simp) z hz
          exact ⟨h1, kf_snoc h2 x⟩
        · have hz' : z = x := by simpa using hz
          subst hz'
          exact ⟨hx, kf_snoc hk _⟩
      · exact ht c hc z hz
    · have e : insK f x (d :: cs) = d :: insK f x cs := by show (if _ then _ else _) = _; rw [if_neg hk]
      rw [e] at hc
      rcases List.mem_cons.1 hc with rfl | hc
      · exact h _ (by simp) z hz
      · exact pure_ins hx ht c hc z hz
theorem pure_cls (f : Nd → Nat) (l : List Nd) : Pure_ f l (clsK f l) := by
  have : ∀ n, n ≤ l.length → Pure_ f l (clsK f (l.take n)) := by
    intro n
    induction n with
    | zero => intro _ c hc; simp [clsK] at hc
    | succ n ih =>
      intro hn
      have hlt : n < l.length := by omega
      rw [clsK_next f hlt]
      exact pure_ins (List.getElem_mem hlt) (ih (by omega))
  have h := this l.length (Nat.le_refl _)
  rwa [List.take_length] at h
theorem ins_ne {f : Nd → Nat} {x : Nd} : ∀ {cs : List (List Nd)}, (∀ c ∈ cs, c ≠ []) → ∀ c ∈ insK f x cs, c ≠ []
  | [], _, c, hc => by
    have hc' : c = [x] := by simpa [insK] using hc
    subst hc'
    simp
  | d :: cs, h, c, hc => by
    by_cases hk : kf f d = some (f x)
    · have e : insK f x (d :: cs) = (d ++ [x]) :: cs := by show (if _ then _ else _) = _; rw [if_pos hk]
      rw [e] at hc
      rcases List.mem_cons.1 hc with rfl | hc
      · simp
      · exact h c (by simp [hc])
    · have e : insK f x (d :: cs) = d :: insK f x cs := by show (if _ then _ else _) = _; rw [if_neg hk]
      rw [e] at hc
      rcases List.mem_cons.1 hc with rfl | hc
      · exact h _ (by simp)
      · exact ins_ne (fun c hc => h c (by simp [hc])) c hc
theorem cls_ne (f : Nd → Nat) (l : List Nd) : ∀ c ∈ clsK f l, c ≠ [] := by
  have : ∀ n, n ≤ l.length → ∀ c ∈ clsK f (l.take n), c ≠ [] := by
    intro n
    induction n with
    | zero => intro _ c hc; simp [clsK] at hc
    | succ n ih =>
      intro hn
      have hlt : n < l.length := by omega
      rw [clsK_next f hlt]
      exact ins_ne (ih (by omega))
  have h := this l.length (Nat.le_refl _)
  rwa [List.take_length] at h
theorem cls_len (f : Nd → Nat) (l : List Nd) : (clsK f l).length ≤ l.length := by
  have h : ∀ (cs : List (List Nd)), (∀ c ∈ cs, c ≠ []) → cs.length ≤ (cs.map List.length).sum := by
    intro cs
    induction cs with
    | nil => intro _; simp
    | cons c cs ih =>
      intro h
      have h1 := ih (fun d hd => h d (by simp [hd]))
      have h2 : c.length ≠ 0 := fun e => h c (by simp) (List.eq_nil_of_length_eq_zero e)
      simp only [List.length_cons, List.map_cons, List.sum_cons]
      omega
  have h2 := h _ (cls_ne f l)
  rw [sum_len] at h2
  exact h2
/-- The lowest bits of a node's word. -/
def lowK (h : Nat) (x : Nd) : Nat := x.word % 2 ^ h
theorem low_cm {a b h : Nat} (ha : a < 4294967296) (hb : b < 4294967296) (hh : h ≤ 16) : h ≤ cm a b ↔ a % 2 ^ h = b % 2 ^ h := by
  rw [le_cm ha hb, low_eq]
  exact ⟨fun k => k.2, fun k => ⟨hh, k⟩⟩
theorem low_cm_int {a b : Nat} {h : Int} (ha : a < 4294967296) (hb : b < 4294967296) (hh : h ≤ 16) : h ≤ (cm a b : Int) ↔ a % 2 ^ h.toNat = b % 2 ^ h.toNat := by
  rw [← low_cm ha hb (by omega)]
  omega
theorem low_next (a b h : Nat) : a % 2 ^ (h + 1) = b % 2 ^ (h + 1) ↔ a % 2 ^ h = b % 2 ^ h ∧ a.testBit h = b.testBit h := by
  rw [low_eq, low_eq]
  constructor
  · exact fun k => ⟨fun i hi => k i (by omega), k h (by omega)⟩
  · rintro ⟨k, e⟩ i hi
    rcases Nat.lt_or_ge i h with h1 | h1
    · exact k i h1
    · obtain rfl : i = h := by omega
      exact e
end
section
open Go.RowKit Go.Maps

theorem lowest_val (x k : Nat) (hk : k ≤ 16) (hx : x < 4294967296) : bits .and .u32 (x : Int) ((2 ^ k - 1) % 4294967296) = ((x % 2 ^ k : Nat) : Int) := by
  have h2 : (2 : Nat) ^ k ≤ 2 ^ 16 := Nat.pow_le_pow_right (by decide) hk
  have h1 : 1 ≤ (2 : Nat) ^ k := Nat.one_le_two_pow
  have e1 : (2 ^ k : Int) = ((2 ^ k : Nat) : Int) := by simp
  rw [e1, show (((2 ^ k : Nat) : Int) - 1) % 4294967296 = ((2 ^ k - 1 : Nat) : Int) by omega]
  rw [bits_and_u32_nat x (2 ^ k - 1) hx (by omega), and_low]
set_option maxRecDepth 100000 in
set_option maxHeartbeats 400000 in
theorem lowest_any (x : Nat) (h : Int) (w : World) (hx : x < 4294967296) (hh : h ≤ 16) :
    Calls Tryz.prog 97 #[.int .u32 (x : Int), .int .i64 h] w fun e w' => e = .returned (.int .u32 ((x % 2 ^ h.toNat : Nat) : Int)) ∧ w = w' := by
  rcases Int.lt_or_le h 0 with h0 | h0
  · have e0 : h.toNat = 0 := by omega
    have HV := Lib.hid (lowest_val x 0 (by omega) hx)
    rw [e0]
    go_enter Tryz.func97, Tryz.ntmps97
    go_wp2_with fail
    go_ret
    exact ⟨ret_int (by rw [← HV.out]; rfl), rfl⟩
  · obtain ⟨k, rfl⟩ := Int.eq_ofNat_of_zero_le h0
    have hk : k ≤ 16 := by omega
    have HV := Lib.hid (lowest_val x k hk hx)
    rw [Int.toNat_natCast]
    go_enter Tryz.func97, Tryz.ntmps97
    go_wp2_with fail
    go_ret
    exact ⟨ret_int HV.out, rfl⟩

/-- Rows of rows in new memory. -/
def RwsP (ls : List (List Nd)) (w : World) (e : Ending) (w' : World) : Prop := ∃ A c, e = .returned (.slice A ls.length c) ∧ Rws w' w'.heap.size A ls ∧ Below w.heap.size w w'
/-- What Classes gives. -/
def clsV (l : List Nd) (h : Int) : List (List Nd) := if 16 < h then [] else clsK (lowK h.toNat) l
/-- The map: at the number of each class its place. -/
def Plc {H : Type} (f : Nd → Nat) (cs : List (List Nd)) (D : DataW H) : Prop :=
  (∀ (p : Nat) (h : p < cs.length) (n : Nat), kf f cs[p] = some n → Maps.has D (.int .u32 n) = true ∧ D.atKey (.int .u32 n) (.lit (.int .i64 0)) = .lit (.int .i64 p)) ∧ (∀ n : Nat, Maps.has D (.int .u32 n) = true → ∃ (p : Nat) (h : p < cs.length), kf f cs[p] = some n) ∧ (∀ (p q : Nat) (hp : p < cs.length) (hq : q < cs.length), kf f cs[p] = kf f cs[q] → p = q) ∧ ∀ c ∈ cs, c ≠ []
theorem Plc.nil {H : Type} (f : Nd → Nat) : Plc f [] (.map [] : DataW H) := ⟨fun _ h _ _ => absurd h (Nat.not_lt_zero _), fun _ h => (by cases h), fun _ _ h _ _ => absurd h (Nat.not_lt_zero _), fun _ h => (by cases h)⟩
theorem Plc.old {H : Type} {f : Nd → Nat} {cs : List (List Nd)} {D : DataW H} (h : Plc f cs D) {x : Nd} (hh : Maps.has D (.int .u32 (f x)) = true) : ∃ (p : Nat) (hp : p < cs.length), D.atKey (.int .u32 (f x)) (.lit (.int .i64 0)) = .lit (.int .i64 p) ∧ insK f x cs = cs.set p (cs[p] ++ [x]) ∧ Plc f (cs.set p (cs[p] ++ [x])) D := by
  obtain ⟨h1, h2, h3, h4⟩ := h
  obtain ⟨p, hp, hk⟩ := h2 _ hh
  refine ⟨p, hp, (h1 p hp _ hk).2, insK_at f x cs p hp (fun j hj he => ?_) hk, ?_⟩
  · have := h3 j p (by omega) hp (he.trans hk.symm)
    omega
  · have hset : ∀ (q : Nat) (hq : q < (cs.set p (cs[p] ++ [x])).length), kf f ((cs.set p (cs[p] ++ [x]))[q]) = kf f (cs[q]'(by simpa using hq)) := fun q hq => by
      rw [List.getElem_set]
      split
      · rename_i e
        subst e
        rw [kf_snoc hk x, hk]
      · rfl
    refine ⟨fun q hq n he => ?_, fun n he => ?_, fun q r hq hr he => ?_, fun c hc => ?_⟩
    · rw [hset] at he
      exact h1 q (by simpa using hq) n he
    · obtain ⟨q, hq, e⟩ := h2 n he
      exact ⟨q, by simpa using hq, by rw [hset]; exact e⟩
    · rw [hset, hset] at he
      exact h3 q r (by simpa using hq) (by simpa using hr) he
    · rcases List.mem_or_eq_of_mem_set hc with hc | rfl
      · exact h4 c hc
      · simp
theorem Plc.new {H : Type} {f : Nd → Nat} {cs : List (List Nd)} {D : DataW H} (h : Plc f cs D) (hm : IsMap D) {x : Nd} (hh : Maps.has D (.int .u32 (f x)) = false) : insK f x cs = cs ++ [[x]] ∧ Plc f (cs ++ [[x]]) (D.put (.int .u32 (f x)) (.lit (.int .i64 cs.length))) := by
  obtain ⟨h1, h2, h3, h4⟩ := h
  have hno : ∀ (p : Nat) (hp : p < cs.length), kf f cs[p] ≠ some (f x) := fun p hp he => by
    have := (h1 p hp _ he).1
    rw [hh] at this
    cases this
  have hin : ∀ (p : Nat) (hp : p < (cs ++ [[x]]).length), (∃ hp' : p < cs.length, kf f ((cs ++ [[x]])[p]) = kf f cs[p]) ∨ (p = cs.length ∧ kf f ((cs ++ [[x]])[p]) = some (f x)) := fun p hp => by
    rcases Nat.lt_or_ge p cs.length with h5 | h5
    · exact .inl ⟨h5, by rw [List.getElem_append_left h5]⟩
    · have : p = cs.length := by simp at hp; omega
      subst this
      exact .inr ⟨rfl, by simp [kf]⟩
  have hne : ∀ n : Nat, n ≠ f x → (Lit.int .u32 (n : Int)) ≠ .int .u32 (f x : Int) := fun n hn e => by
    injection e with _ e
    exact hn (by omega)
  refine ⟨insK_new f x cs (fun c hc => ?_), fun p hp n he => ?_, fun n he => ?_, fun p q hp hq he => ?_, fun c hc => ?_⟩
  · obtain ⟨p, hp, rfl⟩ := List.getElem_of_mem hc
    exact hno p hp
  · rcases hin p hp with ⟨hp', e⟩ | ⟨rfl, e⟩
    · rw [e] at he
      have hn : n ≠ f x := fun e2 => hno p hp' (by rw [he, e2])
      rw [has_put_other (hne n hn), atKey_put_other (hne n hn)]
      exact h1 p hp' n he
    · rw [e] at he
      have hn := Option.some.inj he
      subst hn
      exact ⟨has_put_same (k := .int .u32 (f x : Int)) hm trivial _, atKey_put_same (k := .int .u32 (f x : Int)) hm trivial _ _⟩
  · by_cases hn : n = f x
    · subst hn
      exact ⟨cs.length, by simp, by simp [kf]⟩
    · rw [has_put_other (hne n hn)] at he
      obtain ⟨p, hp, e⟩ := h2 n he
      exact ⟨p, by simp; omega, by rw [List.getElem_append_left hp]; exact e⟩
  · rcases hin p hp with ⟨hp', e⟩ | ⟨rfl, e⟩ <;> rcases hin q hq with ⟨hq', e'⟩ | ⟨rfl, e'⟩
    · rw [e, e'] at he
      exact h3 p q hp' hq' he
    · rw [e, e'] at he
      exact absurd he (hno p hp')
    · rw [e, e'] at he
      exact absurd he.symm (hno q hq')
    · rfl
  · rcases List.mem_append.1 hc with hc | hc
    · exact h4 c hc
    · have : c = [x] := by simpa using hc
      subst this
      simp
theorem lawU32 : Keyed Tryz.prog 23 := int_keyed Tryz.underlying23
theorem zeroInt (w : World) : (zeroValue 3).run Tryz.prog w = .ok (.int .i64 0) w := by kernel_rfl
theorem wf_u32n (n : Nat) (h : n < 4294967296) : (Lit.int .u32 (n : Int)).wf = true := WalkArith.wf_u32 (by omega)
theorem cls_row_len (f : Nd → Nat) (l : List Nd) : ∀ c ∈ clsK f l, c.length ≤ l.length := by
  have h : ∀ (cs : List (List Nd)), ∀ c ∈ cs, c.length ≤ (cs.map List.length).sum := by
    intro cs
    induction cs with
    | nil => intro c hc; cases hc
    | cons d cs ih =>
      intro c hc
      simp only [List.map_cons, List.sum_cons]
      rcases List.mem_cons.1 hc with rfl | hc
      · omega
      · have := ih c hc
        omega
  intro c hc
  have := h _ c hc
  rwa [sum_len] at this

set_option maxRecDepth 100000 in
set_option maxHeartbeats 3200000 in
theorem classes_any (A : Option Addr) (l : List Nd) (c : Nat) (h : Int) (w : World) (hl : Nds w w.heap.size A l) (hn : l.length ≤ 1000) (hwd : ∀ x ∈ l, x.word < 4294967296) :
    Calls Tryz.prog 87 #[.slice A l.length c, .int .i64 h] w (RwsP (clsV l h) w) := by
  obtain ⟨inf, hif, hif1, hif2, hif3⟩ := infoN_parts
  obtain ⟨inr, hir, hir1, hir2, hir3⟩ := infoR_parts
  by_cases hh : 16 < h
  · have e : clsV l h = [] := if_pos hh
    rw [e]
    clear hl hwd
    go_enter Tryz.func87, Tryz.ntmps87
    go_wp2_with fail
    go_ret
    exact ⟨none, 0, rfl, fun hn => absurd rfl hn, Below.refl _ _⟩
  have hh2 : h ≤ 16 := by omega
  have HV : Hid (clsV l h = clsK (lowK h.toNat) l) := Lib.hid (if_neg hh)
  clear hh
  have hmm := @run_makeMap Tryz.prog
  go_enter Tryz.func87, Tryz.ntmps87
  go_wp2_with fail
  go_loopw [5, 17] (fun b i wr => ∃ (v1 : Value) (k : Nat) (cs : List (List Nd)) (D : DataW Unit), v1 = b ∧ k ≤ l.length ∧ i = .int .i64 (k : Int) ∧ OwnR wr (w.heap.size + 1) v1 cs ∧ wr.ownsMap Tryz.prog 23 (plainElem Tryz.prog 3) w.heap.size k D ∧ Hid (Plc (lowK h.toNat) cs D) ∧ Hid (cs = clsK (lowK h.toNat) (l.take k)) ∧ Below w.heap.size w wr ∧ w.heap.size + 1 ≤ wr.heap.size ∧ cs.length ≤ k) (fun _ i _ => l.length - (intOf i).toNat)
  case atStart => exact ⟨_, 0, [], .map [], rfl, by omega, rfl, OwnR.nil _ _, World.ownsMap_made _ _ _ _, Lib.hid (Plc.nil _), Lib.hid rfl, (Below.refl _ _).alloc (Nat.le_refl _) _, by rw [World.size_alloc]; omega, by simp⟩
  case round =>
    obtain ⟨v1, k, cs, D, rfl, hk, rfl, ho1, hmap, HP, HL, hB, hbs, hlen⟩ := hrel
    by_cases hlt : k < l.length
    · obtain ⟨b, o, hA2, hb, f1, f2, f3⟩ := hl.at_ hlt
      subst hA2
      have hxw := hwd _ (List.getElem_mem hlt)
      have HN := Lib.hid (clsK_next (lowK h.toNat) hlt)
      replace f1 := (hB.cell (p := ⟨b, o + k * 3, none⟩) hb).trans f1
      replace f2 := (hB.cell (p := ⟨b, o + k * 3 + 1, none⟩) hb).trans f2
      replace f3 := (hB.cell (p := ⟨b, o + k * 3 + 2, none⟩) hb).trans f3
      generalize l[k] = y at *
      have i0 : (0 : Int) ≤ (k : Int) := by omega
      have i1 : (k : Int) < (l.length : Int) := by omega
      obtain ⟨yi, yk, yw⟩ := y
      have hX := Has.new wr 25 #[.int .i64 yi, .string yk, .int .u32 (yw : Int)]
      have x0 := hX.cell 0
      have x1 := hX.cell 1
      have x2 := hX.cell 2
      have hm2 := hmap.alloc (.cells #[.int .i64 yi, .string yk, .int .u32 (yw : Int)] 25)
      have hBX : Below w.heap.size w (wr.alloc (.cells #[.int .i64 yi, .string yk, .int .u32 (yw : Int)] 25)) := hB.alloc hB.size _
      have hXs : (wr.alloc (.cells #[.int .i64 yi, .string yk, .int .u32 (yw : Int)] 25)).heap.size = wr.heap.size + 1 := by rw [World.size_alloc]
      have hkey : keyOf Tryz.prog 23 (.int .u32 ((yw % 2 ^ h.toNat : Nat) : Int)) = some (.int .u32 ((yw % 2 ^ h.toNat : Nat) : Int)) := keyOf_int_mk Tryz.underlying23 (wf_u32n _ (Nat.lt_of_le_of_lt (Nat.mod_le _ _) hxw))
      have HRL := Lib.hid (fun (cs' : List (List Nd)) (e : cs' = clsK (lowK h.toNat) (l.take k)) (p : Nat) (hp : p < cs'.length) => (by subst e; exact Nat.le_trans (cls_row_len _ _ _ (List.getElem_mem hp)) (by rw [List.length_take]; omega) : (cs'[p]).length ≤ k))
      cases hh : Maps.has D (.int .u32 (lowK h.toNat ⟨yi, yk, yw⟩ : Int))
      · obtain ⟨hins, hplc⟩ := HP.out.new hmap.isMap hh
        have HI := Lib.hid hins
        have HP2 := Lib.hid hplc
        clear hins hplc
        change Maps.has D (.int .u32 ((yw % 2 ^ h.toNat : Nat) : Int)) = false at hh
        change Hid (Plc (lowK h.toNat) (cs ++ [[⟨yi, yk, yw⟩]]) (D.put (.int .u32 ((yw % 2 ^ h.toNat : Nat) : Int)) (.lit (.int .i64 cs.length)))) at HP2
        obtain ⟨N0, hN0⟩ : ∃ N0, N0 = cs.length := ⟨_, rfl⟩
        have HN0 := Lib.hid hN0
        have hoX := ho1.below ((Below.refl _ _).alloc (Nat.le_refl _) (.cells #[.int .i64 yi, .string yk, .int .u32 (yw : Int)] 25))
        obtain ⟨A3, c3, hv3, hnd⟩ := ho1.read
        clear hnd
        have hN3 := Lib.hid (ho1.lt)
        rw [← hN0] at hv3 HP2 hlen
        rw [hv3] at hN3
        subst hv3
        clear hN0
        go_wp2_with fail
        refine (lowest_any yw h _ hxw hh2).mono ?_
        rintro e w' ⟨rfl, rfl⟩
        generalize yw % 2 ^ h.toNat = n at *
        go_wp2_with (first | (at_lookup; refine wpList_lookup_own_ok_int _ rfl _ _ 140 rfl 23 3 .i64 lawU32 Tryz.underlying140 Tryz.underlying3 (zeroInt _) w.heap.size k D rfl hm2 _ _ rfl hkey ?_; intro c1 hat1 hwc1; rw [hh]) | (at_mapUpdate; refine wpList_mapUpdate_own _ rfl _ _ _ 140 rfl 23 3 lawU32 Tryz.underlying140 _ w.heap.size k D rfl hm2 (by unfold maxLen; omega) _ _ _ rfl rfl hkey (.lit (.int .i64 (N0 : Int))) [] (plainElem_int Tryz.underlying3 (WalkArith.wf_i64 (by omega))) ?_; intro w1 hm3 hgr3; have hoM := hoX.kept hgr3 (fun j e => (by have := Option.some.inj e; omega)); have hs3 := hgr3.size; have hB3 := hBX.grown hgr3 hBX.size (fun j e => (by have := Option.some.inj e; omega)); have hx3 := hgr3.block wr.heap.size (by omega) (fun e => (by have := Option.some.inj e; omega))) | (at_builtin; refine wpList_pushRow rfl _ _ 89 rfl (w.heap.size + 1) inr Tryz.underlying89 hir hir1 hir2 hir3 (.slice A3 N0 c3) cs w1 rfl hoM rfl (by have := HN0.out; omega) (by omega) ?_; intro v4 w4 ho4 hgr4 hlast4 hloc4))
        have hoX2 := ho4
        obtain ⟨g, cap, u, Ai, ci, hv, hg1, hg2, hcell, hu, hfr, hownp, hult, hung, hput0⟩ := ho4.open_ (p := cs.length) (by simp)
        have hlc : (cs ++ [[]] : List (List Nd)).length = cs.length + 1 := by simp
        have hlp0 : ((cs ++ [[]] : List (List Nd))[cs.length]'(by simp)) = [] := by simp
        have hu2 := hlast4 g cap (by rw [hv, hlc])
        rw [hcell] at hu2
        have hu2 := Option.some.inj hu2
        rw [hu2] at hu hcell hownp hult hung hput0
        clear hlast4 hu2
        obtain ⟨p, hpe⟩ : ∃ p, p = cs.length := ⟨_, rfl⟩
        obtain ⟨lp, hlp⟩ : ∃ lp : List Nd, lp = [] := ⟨_, rfl⟩
        obtain ⟨nl, hnl⟩ : ∃ nl, nl = lp.length := ⟨_, rfl⟩
        have hci : Ai = none ∧ nl = 0 ∧ ci = 0 := by
          rw [hlp0] at hu
          injection hu with h1 h2 h3
          exact ⟨h1.symm, by rw [hnl, hlp]; rfl, h3.symm⟩
        rw [hlp0, ← hlp] at hownp
        rw [← hpe] at hcell hfr hput0
        have e3 : (Value.slice none 0 0) = .slice Ai nl ci := by rw [hci.1, hci.2.1, hci.2.2]
        rw [e3] at hcell hownp hult hung hput0
        have hput := Lib.hid hput0
        obtain ⟨N, hN⟩ : ∃ N, N = (cs ++ [[]] : List (List Nd)).length := ⟨_, rfl⟩
        have HNL := Lib.hid (show lp.length = nl ∧ nl = 0 from ⟨hnl.symm, hci.2.1⟩)
        have hNp : p < N ∧ p = N0 ∧ N = N0 + 1 := by have := HN0.out; omega
        rw [← hN] at hv
        have HN1 := Lib.hid hN
        have HPE := Lib.hid hpe
        have HLP := Lib.hid hlp
        have hux : Value.ownBlock (.slice Ai nl ci) ≠ some wr.heap.size := by rw [← e3]; intro e; cases e
        have hn3 : ∀ j, Value.ownBlock (.slice A3 N0 c3) = some j → w.heap.size + 1 ≤ j ∧ j < wr.heap.size := hN3.out
        have hgX : g ≠ wr.heap.size := fun e => by
          rcases hloc4 with e4 | e4
          · rw [hv] at e4
            have := hn3 g e4.symm
            omega
          · rw [hv] at e4
            have e5 : g = w1.heap.size + 1 := Option.some.inj e4
            omega
        have hm4 := hm3.kept hgr4 (fun e => by have := (hn3 _ e.symm).1; omega)
        have hB4 := hB3.grown hgr4 hB3.size (fun j e => by have := (hn3 _ e).1; omega)
        have hs4 := hgr4.size
        have hWX : wr.heap.size < w4.heap.size := by omega
        have hx4 := (hgr4.block wr.heap.size (by omega) (fun e => by have := (hn3 _ e.symm).2; omega)).trans hx3
        replace x0 := (World.cell?_of_block (a := ⟨wr.heap.size, 0, none⟩) hx4).trans x0
        replace x1 := (World.cell?_of_block (a := ⟨wr.heap.size, 1, none⟩) hx4).trans x1
        replace x2 := (World.cell?_of_block (a := ⟨wr.heap.size, 2, none⟩) hx4).trans x2
        obtain rfl : (N0 : Nat) = p := hNp.2.1.symm
        have hNp2 := hNp.1
        have hNe := Lib.hid hNp.2.2
        clear hput0 hlc hlp0 hu hpe hlp hnl hci e3 hN hNp hx3 hx4 hgr4 ho4 hoX2 hgr3 hm3 hoM hoX ho1 hB3 hBX hXs hs3 hX hm2 hat1 hwc1 hloc4
        subst hv
        have hBy : Below w4.heap.size w4 w4 := Below.refl _ _
        have hmW := hm4
        have hBW := hB4
        generalize w4 = Wc at *
        have hgc : w.heap.size + 1 ≤ g := hg1
        have hS0 : Wc.drew.heap[wr.heap.size]? = Wc.heap[wr.heap.size]? := rfl
        have hS1 : (Wc.drew.alloc (.cells #[.int .i64 yi, .string yk, .int .u32 (yw : Int)] 25)).heap[wr.heap.size]? = Wc.heap[wr.heap.size]? := Below.heap_alloc Wc.drew _ _ hWX
        have hBd : Below Wc.heap.size Wc (Wc.drew.alloc (.cells #[.int .i64 yi, .string yk, .int .u32 (yw : Int)] 25)) := (Below.refl _ _).drew.trans (((Below.refl _ _).alloc (Nat.le_refl _) _).mono (Nat.le_refl _))
        have hNX := Has.new Wc.drew 25 #[.int .i64 yi, .string yk, .int .u32 (yw : Int)]
        have hq1 := hownp.below (hBy.trans (hBd.mono hBy.size))
        have hq2 : (Wc.drew.alloc (.cells #[.int .i64 yi, .string yk, .int .u32 (yw : Int)] 25)).cell? ⟨Wc.drew.heap.size, 0, none⟩ = some (.int .i64 yi) ∧ (Wc.drew.alloc (.cells #[.int .i64 yi, .string yk, .int .u32 (yw : Int)] 25)).cell? ⟨Wc.drew.heap.size, 1, none⟩ = some (.string yk) ∧ (Wc.drew.alloc (.cells #[.int .i64 yi, .string yk, .int .u32 (yw : Int)] 25)).cell? ⟨Wc.drew.heap.size, 2, none⟩ = some (.int .u32 (yw : Int)) := ⟨hNX.cell 0, hNX.cell 1, hNX.cell 2⟩
        have hq3 : w.heap.size + 1 ≤ (Wc.drew.alloc (.cells #[.int .i64 yi, .string yk, .int .u32 (yw : Int)] 25)).heap.size := by have := hBd.size; have := hBy.size; omega
        have hcW : Wc.cell? ⟨g, N0, none⟩ = some (.slice Ai nl ci) := (hBy.cell (p := ⟨g, N0, none⟩) hg2).trans hcell
        have hfW : Wc.frozen? ⟨g, N0, none⟩ = false := (hBy.frozen (p := ⟨g, N0, none⟩) hg2).trans hfr
        have hgW : g < Wc.heap.size := Nat.lt_of_lt_of_le hg2 hBy.size
        have hq4 : (Wc.drew.alloc (.cells #[.int .i64 yi, .string yk, .int .u32 (yw : Int)] 25)).cell? ⟨g, N0, none⟩ = some (.slice Ai nl ci) := (hBd.cell (p := ⟨g, N0, none⟩) hgW).trans hcW
        have hq5 : g < (Wc.drew.alloc (.cells #[.int .i64 yi, .string yk, .int .u32 (yw : Int)] 25)).heap.size := Nat.lt_of_lt_of_le hgW hBd.size
        have hq6 : (Wc.drew.alloc (.cells #[.int .i64 yi, .string yk, .int .u32 (yw : Int)] 25)).frozen? ⟨g, N0, none⟩ = false := (hBd.frozen (p := ⟨g, N0, none⟩) hgW).trans hfW
        have hqX : wr.heap.size < (Wc.drew.alloc (.cells #[.int .i64 yi, .string yk, .int .u32 (yw : Int)] 25)).heap.size := Nat.lt_of_lt_of_le hWX hBd.size
        have hq7 := hBy.trans (hBd.mono hBy.size)
        have hq8 := hmW.drew.alloc (.cells #[.int .i64 yi, .string yk, .int .u32 (yw : Int)] 25)
        have hq9 : Value.ownBlock (.slice Ai nl ci) ≠ some w.heap.size := fun e => by have := (hownp.lt _ e).1; omega
        have hq11 : ∀ k, Value.ownBlock (.slice Ai nl ci) = some k → w.heap.size ≤ k := fun k e => by have := (hownp.lt _ e).1; omega
        have hq10 : Below w.heap.size w (Wc.drew.alloc (.cells #[.int .i64 yi, .string yk, .int .u32 (yw : Int)] 25)) := hBW.trans (hBd.mono hBW.size)
        have hq12 : w.heap.size ≠ g := by omega
        have p0 : (0 : Int) ≤ (N0 : Int) := by omega
        have p1 : (N0 : Int) < (N : Int) := by omega
        refine wp_region_held_drew (S := fun W => W.heap[wr.heap.size]? = Wc.heap[wr.heap.size]?) (by kernel_rfl) hS0 (fun _ => ?_)
        refine takeH (i := 0) (d := some 41) (v := ?_) rfl rfl (by kernel_rfl) (by kernel_rfl) (by kernel_rfl) (fun _ _ _ h => h) (Or.inl ⟨by rfl, ?_⟩) (by assumption) ?_
        rotate_left
        · intro W hSw
          go_simp
          try with_reducible rfl
        try simp only [Act.put, List.setIfInBounds_toArray, List.set_cons_zero, List.set_cons_succ]
        refine takeH (i := 1) (d := some 42) (v := ?_) rfl rfl (by kernel_rfl) (by kernel_rfl) (by kernel_rfl) (fun _ _ _ h => h) (Or.inl ⟨by rfl, ?_⟩) (by assumption) ?_
        rotate_left
        · intro W hSw
          go_simp
          try with_reducible rfl
        try simp only [Act.put, List.setIfInBounds_toArray, List.set_cons_zero, List.set_cons_succ]
        refine takeH (i := 2) (d := some 43) (v := ?_) rfl rfl (by kernel_rfl) (by kernel_rfl) (by kernel_rfl) (fun _ _ _ h => h) (Or.inl ⟨by rfl, ?_⟩) (by assumption) ?_
        rotate_left
        · intro W hSw
          go_simp
          try with_reducible rfl
        try simp only [Act.put, List.setIfInBounds_toArray, List.set_cons_zero, List.set_cons_succ]
        refine takeH (i := 3) (d := some 44) (v := ?_) rfl rfl (by kernel_rfl) (by kernel_rfl) (by kernel_rfl) (fun _ _ _ h => h) (Or.inl ⟨by rfl, ?_⟩) (by assumption) ?_
        rotate_left
        · intro W hSw
          go_simp
          try with_reducible rfl
        try simp only [Act.put, List.setIfInBounds_toArray, List.set_cons_zero, List.set_cons_succ]
        refine takeH (i := 4) (d := some 45) (v := ?_) rfl rfl (by kernel_rfl) (by kernel_rfl) (by kernel_rfl) (fun _ _ _ h => h) (Or.inl ⟨by rfl, ?_⟩) (by assumption) ?_
        rotate_left
        · intro W hSw
          go_simp
          try with_reducible rfl
        try simp only [Act.put, List.setIfInBounds_toArray, List.set_cons_zero, List.set_cons_succ]
        refine takeH (i := 6) (d := some 47) (v := ?_) rfl rfl (by kernel_rfl) (by kernel_rfl) (by kernel_rfl) (fun _ _ _ h => h) (Or.inl ⟨by rfl, ?_⟩) (by assumption) ?_
        rotate_left
        · intro W hSw
          have z0 := (World.cell?_of_block (a := ⟨wr.heap.size, 0, none⟩) hSw).trans x0
          have z1 := (World.cell?_of_block (a := ⟨wr.heap.size, 1, none⟩) hSw).trans x1
          have z2 := (World.cell?_of_block (a := ⟨wr.heap.size, 2, none⟩) hSw).trans x2
          go_simp
          try with_reducible rfl
        try simp only [Act.put, List.setIfInBounds_toArray, List.set_cons_zero, List.set_cons_succ]
        refine wpAnyH_ready (rs := [5, 7]) (by kernel_rfl) (by simp) ?_
        refine AllReadyH.cons rfl (fun K hK => ?_) (AllReadyH.cons rfl (fun K hK => ?_) AllReadyH.nil)
        · go_simp
          refine hK.out _ _ hS0 (fun _ => ?_)
          clear hK K
          try simp only [Act.put, List.setIfInBounds_toArray, List.set_cons_zero, List.set_cons_succ]
          refine wpAnyH_ready (rs := [7]) (by kernel_rfl) (by simp) ?_
          refine AllReadyH.cons rfl (fun K hK => ?_) AllReadyH.nil
          go_simp
          refine hK.out _ _ hS1 (fun _ => ?_)
          clear hK K
          try simp only [Act.put, List.setIfInBounds_toArray, List.set_cons_zero, List.set_cons_succ]
          refine wpAnyH_ready (rs := [8]) (by kernel_rfl) (by simp) ?_
          refine AllReadyH.cons rfl (fun K hK => ?_) AllReadyH.nil
          refine step_pushN_at (w := Wc.drew.alloc (.cells #[.int .i64 yi, .string yk, .int .u32 (yw : Int)] 25)) (o := ⟨some 49, _, _, _, _, _⟩) rfl (.tmp 46) (.tmp 48) 28 (by rfl) (w.heap.size + 1) inf Tryz.underlying28 hif hif1 hif2 hif3 (.slice Ai nl ci) lp (by simp [Act.eval]) hq1 Wc.drew.heap.size 1 ⟨yi, yk, yw⟩ (by simp [Act.eval]) hq2 (by have := HNL.out; omega) hq3 ?_
          intro v' w5 ho5 hgr hat5
          obtain ⟨l5, hl5⟩ : ∃ l5, l5 = lp ++ [(⟨yi, yk, yw⟩ : Nd)] := ⟨_, rfl⟩
          rw [← hl5] at ho5
          have HL5 := Lib.hid hl5
          clear hl5
          obtain ⟨A5, c5, rfl, -⟩ := ho5.read
          have hS5 := (hgr.block wr.heap.size hqX (fun e => hux e.symm)).trans hS1
          have hc5 := hgr.cell hq4 (fun e => hung e.symm)
          have hf5 := (World.frozen?_of_block (a := ⟨g, N0, none⟩) (hgr.block g hq5 (fun e => hung e.symm))).trans hq6
          obtain ⟨hR5, hg6⟩ := hput.out _ w5 _ _ hq7 ho5 hgr hat5
          have hm5 := hq8.kept hgr (fun e => hq9 e.symm)
          have hB5 := hq10.grown hgr hq10.size hq11
          have hs5 := hgr.size
          have hS6 := (Below.heap_setCell w5 ⟨g, N0, none⟩ (.slice A5 l5.length c5) wr.heap.size (fun e => hgX e.symm)).trans hS5
          have hm6 := hm5.setCell (a := ⟨g, N0, none⟩) hq12 (.slice A5 l5.length c5)
          have hB6 := hB5.grown hg6 hB5.size (fun j e => by have := Option.some.inj e; omega)
          have hs6 := hg6.size
          refine hK.out _ _ hS5 (fun _ => ?_)
          clear hK K
          try simp only [Act.put, List.setIfInBounds_toArray, List.set_cons_zero, List.set_cons_succ]
          refine takeH (i := 9) (d := some 50) (v := ?_) rfl rfl (by kernel_rfl) (by kernel_rfl) (by kernel_rfl) (fun _ _ _ h => h) (Or.inl ⟨by rfl, ?_⟩) (by assumption) ?_
          rotate_left
          · intro W hSw
            go_simp
            try with_reducible rfl
          try simp only [Act.put, List.setIfInBounds_toArray, List.set_cons_zero, List.set_cons_succ]
          refine wpAnyH_ready (rs := [10]) (by kernel_rfl) (by simp) ?_
          refine AllReadyH.cons rfl (fun K hK => ?_) AllReadyH.nil
          go_simp
          refine hK.out _ _ hS6 (fun _ => ?_)
          clear hK K
          try simp only [Act.put, List.setIfInBounds_toArray, List.set_cons_zero, List.set_cons_succ]
          refine wpAnyH_done (by kernel_rfl) ?_ _
          clear hc5 hf5 hS5 hS6 hput hq1 hq2 hq4 hq6 hS0 hS1
          go_wp2_with fail
          have hfin : (cs ++ [[]] : List (List Nd)).set N0 l5 = cs ++ [[⟨yi, yk, yw⟩]] := by rw [HL5.out, HLP.out, HN0.out, List.set_append_right _ _ (Nat.le_refl _), Nat.sub_self]; rfl
          refine ⟨⟨_, k + 1, _, _, rfl, hlt, by go_num, hR5, (hm6.mono (by omega)), Lib.hid (by rw [hfin]; exact HP2.out), Lib.hid (by rw [HN.out, ← HL.out, HI.out, hfin]), hB6, by omega, by rw [List.length_set]; have := HN1.out; have := hNe.out; omega⟩, by simp [intOf]; omega⟩
        · go_simp
          refine hK.out _ _ hS1 (fun _ => ?_)
          clear hK K
          try simp only [Act.put, List.setIfInBounds_toArray, List.set_cons_zero, List.set_cons_succ]
          refine wpAnyH_ready (rs := [5]) (by kernel_rfl) (by simp) ?_
          refine AllReadyH.cons rfl (fun K hK => ?_) AllReadyH.nil
          go_simp
          refine hK.out _ _ hS1 (fun _ => ?_)
          clear hK K
          try simp only [Act.put, List.setIfInBounds_toArray, List.set_cons_zero, List.set_cons_succ]
          refine wpAnyH_ready (rs := [8]) (by kernel_rfl) (by simp) ?_
          refine AllReadyH.cons rfl (fun K hK => ?_) AllReadyH.nil
          refine step_pushN_at (w := Wc.drew.alloc (.cells #[.int .i64 yi, .string yk, .int .u32 (yw : Int)] 25)) (o := ⟨some 49, _, _, _, _, _⟩) rfl (.tmp 46) (.tmp 48) 28 (by rfl) (w.heap.size + 1) inf Tryz.underlying28 hif hif1 hif2 hif3 (.slice Ai nl ci) lp (by simp [Act.eval]) hq1 Wc.drew.heap.size 1 ⟨yi, yk, yw⟩ (by simp [Act.eval]) hq2 (by have := HNL.out; omega) hq3 ?_
          intro v' w5 ho5 hgr hat5
          obtain ⟨l5, hl5⟩ : ∃ l5, l5 = lp ++ [(⟨yi, yk, yw⟩ : Nd)] := ⟨_, rfl⟩
          rw [← hl5] at ho5
          have HL5 := Lib.hid hl5
          clear hl5
          obtain ⟨A5, c5, rfl, -⟩ := ho5.read
          have hS5 := (hgr.block wr.heap.size hqX (fun e => hux e.symm)).trans hS1
          have hc5 := hgr.cell hq4 (fun e => hung e.symm)
          have hf5 := (World.frozen?_of_block (a := ⟨g, N0, none⟩) (hgr.block g hq5 (fun e => hung e.symm))).trans hq6
          obtain ⟨hR5, hg6⟩ := hput.out _ w5 _ _ hq7 ho5 hgr hat5
          have hm5 := hq8.kept hgr (fun e => hq9 e.symm)
          have hB5 := hq10.grown hgr hq10.size hq11
          have hs5 := hgr.size
          have hS6 := (Below.heap_setCell w5 ⟨g, N0, none⟩ (.slice A5 l5.length c5) wr.heap.size (fun e => hgX e.symm)).trans hS5
          have hm6 := hm5.setCell (a := ⟨g, N0, none⟩) hq12 (.slice A5 l5.length c5)
          have hB6 := hB5.grown hg6 hB5.size (fun j e => by have := Option.some.inj e; omega)
          have hs6 := hg6.size
          refine hK.out _ _ hS5 (fun _ => ?_)
          clear hK K
          try simp only [Act.put, List.setIfInBounds_toArray, List.set_cons_zero, List.set_cons_succ]
          refine takeH (i := 9) (d := some 50) (v := ?_) rfl rfl (by kernel_rfl) (by kernel_rfl) (by kernel_rfl) (fun _ _ _ h => h) (Or.inl ⟨by rfl, ?_⟩) (by assumption) ?_
          rotate_left
          · intro W hSw
            go_simp
            try with_reducible rfl
          try simp only [Act.put, List.setIfInBounds_toArray, List.set_cons_zero, List.set_cons_succ]
          refine wpAnyH_ready (rs := [10]) (by kernel_rfl) (by simp) ?_
          refine AllReadyH.cons rfl (fun K hK => ?_) AllReadyH.nil
          go_simp
          refine hK.out _ _ hS6 (fun _ => ?_)
          clear hK K
          try simp only [Act.put, List.setIfInBounds_toArray, List.set_cons_zero, List.set_cons_succ]
          refine wpAnyH_done (by kernel_rfl) ?_ _
          clear hc5 hf5 hS5 hS6 hput hq1 hq2 hq4 hq6 hS0 hS1
          go_wp2_with fail
          have hfin : (cs ++ [[]] : List (List Nd)).set N0 l5 = cs ++ [[⟨yi, yk, yw⟩]] := by rw [HL5.out, HLP.out, HN0.out, List.set_append_right _ _ (Nat.le_refl _), Nat.sub_self]; rfl
          refine ⟨⟨_, k + 1, _, _, rfl, hlt, by go_num, hR5, (hm6.mono (by omega)), Lib.hid (by rw [hfin]; exact HP2.out), Lib.hid (by rw [HN.out, ← HL.out, HI.out, hfin]), hB6, by omega, by rw [List.length_set]; have := HN1.out; have := hNe.out; omega⟩, by simp [intOf]; omega⟩
      · obtain ⟨p, hp, hat, hins, hplc⟩ := HP.out.old hh
        have HI := Lib.hid hins
        have HP2 := Lib.hid hplc
        clear hins hplc
        change Maps.has D (.int .u32 ((yw % 2 ^ h.toNat : Nat) : Int)) = true at hh
        change D.atKey (.int .u32 ((yw % 2 ^ h.toNat : Nat) : Int)) _ = _ at hat
        have hpl := HRL.out cs HL.out p hp
        obtain ⟨g, cap, u, Ai, ci, hv, hg1, hg2, hcell, hu, hfr, hownp, hult, hung, hput0⟩ := ho1.open_ hp
        subst hu
        have hput := Lib.hid hput0
        clear hput0
        obtain ⟨N, hN⟩ : ∃ N, N = cs.length := ⟨_, rfl⟩
        obtain ⟨lp, hlp⟩ : ∃ lp, lp = cs[p] := ⟨_, rfl⟩
        obtain ⟨nl, hnl⟩ : ∃ nl, nl = lp.length := ⟨_, rfl⟩
        rw [← hlp] at hput hownp hung hcell hult HP2 HI hpl
        rw [← hnl] at hput hownp hung hcell hult hpl
        rw [← hN] at hv hp hlen
        have HLP := Lib.hid hlp
        have HN1 := Lib.hid hN
        have HNL := Lib.hid hnl
        clear hlp hN hnl
        subst hv
        have hux : Value.ownBlock (.slice Ai nl ci) ≠ some wr.heap.size := fun e => by have := hult _ e; omega
        have hgX : g ≠ wr.heap.size := by omega
        go_wp2_with fail
        refine (lowest_any yw h _ hxw hh2).mono ?_
        rintro e w' ⟨rfl, rfl⟩
        generalize yw % 2 ^ h.toNat = n at *
        go_wp2_with (at_lookup; refine wpList_lookup_own_ok_int _ rfl _ _ 140 rfl 23 3 .i64 lawU32 Tryz.underlying140 Tryz.underlying3 (zeroInt _) w.heap.size k D rfl hm2 _ _ rfl hkey ?_; intro c1 hat1 hwc1; rw [hat] at hat1; injection hat1 with hat1; injection hat1 with _ hat1; subst hat1; rw [hh])
        have hWX : wr.heap.size < (wr.alloc (.cells #[.int .i64 yi, .string yk, .int .u32 (yw : Int)] 25)).heap.size := by omega
        have hBy : Below wr.heap.size wr (wr.alloc (.cells #[.int .i64 yi, .string yk, .int .u32 (yw : Int)] 25)) := (Below.refl _ _).alloc (Nat.le_refl _) _
        have hmW := hm2
        have hBW := hBX
        clear hXs
        generalize wr.alloc (.cells #[.int .i64 yi, .string yk, .int .u32 (yw : Int)] 25) = Wc at *
        have hgc : w.heap.size + 1 ≤ g := hg1
        have hS0 : Wc.drew.heap[wr.heap.size]? = Wc.heap[wr.heap.size]? := rfl
        have hS1 : (Wc.drew.alloc (.cells #[.int .i64 yi, .string yk, .int .u32 (yw : Int)] 25)).heap[wr.heap.size]? = Wc.heap[wr.heap.size]? := Below.heap_alloc Wc.drew _ _ hWX
        have hBd : Below Wc.heap.size Wc (Wc.drew.alloc (.cells #[.int .i64 yi, .string yk, .int .u32 (yw : Int)] 25)) := (Below.refl _ _).drew.trans (((Below.refl _ _).alloc (Nat.le_refl _) _).mono (Nat.le_refl _))
        have hNX := Has.new Wc.drew 25 #[.int .i64 yi, .string yk, .int .u32 (yw : Int)]
        have hq1 := hownp.below (hBy.trans (hBd.mono hBy.size))
        have hq2 : (Wc.drew.alloc (.cells #[.int .i64 yi, .string yk, .int .u32 (yw : Int)] 25)).cell? ⟨Wc.drew.heap.size, 0, none⟩ = some (.int .i64 yi) ∧ (Wc.drew.alloc (.cells #[.int .i64 yi, .string yk, .int .u32 (yw : Int)] 25)).cell? ⟨Wc.drew.heap.size, 1, none⟩ = some (.string yk) ∧ (Wc.drew.alloc (.cells #[.int .i64 yi, .string yk, .int .u32 (yw : Int)] 25)).cell? ⟨Wc.drew.heap.size, 2, none⟩ = some (.int .u32 (yw : Int)) := ⟨hNX.cell 0, hNX.cell 1, hNX.cell 2⟩
        have hq3 : w.heap.size + 1 ≤ (Wc.drew.alloc (.cells #[.int .i64 yi, .string yk, .int .u32 (yw : Int)] 25)).heap.size := by have := hBd.size; have := hBy.size; omega
        have hcW : Wc.cell? ⟨g, p, none⟩ = some (.slice Ai nl ci) := (hBy.cell (p := ⟨g, p, none⟩) hg2).trans hcell
        have hfW : Wc.frozen? ⟨g, p, none⟩ = false := (hBy.frozen (p := ⟨g, p, none⟩) hg2).trans hfr
        have hgW : g < Wc.heap.size := Nat.lt_of_lt_of_le hg2 hBy.size
        have hq4 : (Wc.drew.alloc (.cells #[.int .i64 yi, .string yk, .int .u32 (yw : Int)] 25)).cell? ⟨g, p, none⟩ = some (.slice Ai nl ci) := (hBd.cell (p := ⟨g, p, none⟩) hgW).trans hcW
        have hq5 : g < (Wc.drew.alloc (.cells #[.int .i64 yi, .string yk, .int .u32 (yw : Int)] 25)).heap.size := Nat.lt_of_lt_of_le hgW hBd.size
        have hq6 : (Wc.drew.alloc (.cells #[.int .i64 yi, .string yk, .int .u32 (yw : Int)] 25)).frozen? ⟨g, p, none⟩ = false := (hBd.frozen (p := ⟨g, p, none⟩) hgW).trans hfW
        have hqX : wr.heap.size < (Wc.drew.alloc (.cells #[.int .i64 yi, .string yk, .int .u32 (yw : Int)] 25)).heap.size := Nat.lt_of_lt_of_le hWX hBd.size
        have hq7 := hBy.trans (hBd.mono hBy.size)
        have hq8 := hmW.drew.alloc (.cells #[.int .i64 yi, .string yk, .int .u32 (yw : Int)] 25)
        have hq9 : Value.ownBlock (.slice Ai nl ci) ≠ some w.heap.size := fun e => by have := (hownp.lt _ e).1; omega
        have hq11 : ∀ k, Value.ownBlock (.slice Ai nl ci) = some k → w.heap.size ≤ k := fun k e => by have := (hownp.lt _ e).1; omega
        have hq10 : Below w.heap.size w (Wc.drew.alloc (.cells #[.int .i64 yi, .string yk, .int .u32 (yw : Int)] 25)) := hBW.trans (hBd.mono hBW.size)
        have hq12 : w.heap.size ≠ g := by omega
        have p0 : (0 : Int) ≤ (p : Int) := by omega
        have p1 : (p : Int) < (N : Int) := by omega
        refine wp_region_held_drew (S := fun W => W.heap[wr.heap.size]? = Wc.heap[wr.heap.size]?) (by kernel_rfl) hS0 (fun _ => ?_)
        refine takeH (i := 0) (d := some 41) (v := ?_) rfl rfl (by kernel_rfl) (by kernel_rfl) (by kernel_rfl) (fun _ _ _ h => h) (Or.inl ⟨by rfl, ?_⟩) (by assumption) ?_
        rotate_left
        · intro W hSw
          go_simp
          try with_reducible rfl
        try simp only [Act.put, List.setIfInBounds_toArray, List.set_cons_zero, List.set_cons_succ]
        refine takeH (i := 1) (d := some 42) (v := ?_) rfl rfl (by kernel_rfl) (by kernel_rfl) (by kernel_rfl) (fun _ _ _ h => h) (Or.inl ⟨by rfl, ?_⟩) (by assumption) ?_
        rotate_left
        · intro W hSw
          go_simp
          try with_reducible rfl
        try simp only [Act.put, List.setIfInBounds_toArray, List.set_cons_zero, List.set_cons_succ]
        refine takeH (i := 2) (d := some 43) (v := ?_) rfl rfl (by kernel_rfl) (by kernel_rfl) (by kernel_rfl) (fun _ _ _ h => h) (Or.inl ⟨by rfl, ?_⟩) (by assumption) ?_
        rotate_left
        · intro W hSw
          go_simp
          try with_reducible rfl
        try simp only [Act.put, List.setIfInBounds_toArray, List.set_cons_zero, List.set_cons_succ]
        refine takeH (i := 3) (d := some 44) (v := ?_) rfl rfl (by kernel_rfl) (by kernel_rfl) (by kernel_rfl) (fun _ _ _ h => h) (Or.inl ⟨by rfl, ?_⟩) (by assumption) ?_
        rotate_left
        · intro W hSw
          go_simp
          try with_reducible rfl
        try simp only [Act.put, List.setIfInBounds_toArray, List.set_cons_zero, List.set_cons_succ]
        refine takeH (i := 4) (d := some 45) (v := ?_) rfl rfl (by kernel_rfl) (by kernel_rfl) (by kernel_rfl) (fun _ _ _ h => h) (Or.inl ⟨by rfl, ?_⟩) (by assumption) ?_
        rotate_left
        · intro W hSw
          go_simp
          try with_reducible rfl
        try simp only [Act.put, List.setIfInBounds_toArray, List.set_cons_zero, List.set_cons_succ]
        refine takeH (i := 6) (d := some 47) (v := ?_) rfl rfl (by kernel_rfl) (by kernel_rfl) (by kernel_rfl) (fun _ _ _ h => h) (Or.inl ⟨by rfl, ?_⟩) (by assumption) ?_
        rotate_left
        · intro W hSw
          have z0 := (World.cell?_of_block (a := ⟨wr.heap.size, 0, none⟩) hSw).trans x0
          have z1 := (World.cell?_of_block (a := ⟨wr.heap.size, 1, none⟩) hSw).trans x1
          have z2 := (World.cell?_of_block (a := ⟨wr.heap.size, 2, none⟩) hSw).trans x2
          go_simp
          try with_reducible rfl
        try simp only [Act.put, List.setIfInBounds_toArray, List.set_cons_zero, List.set_cons_succ]
        refine wpAnyH_ready (rs := [5, 7]) (by kernel_rfl) (by simp) ?_
        refine AllReadyH.cons rfl (fun K hK => ?_) (AllReadyH.cons rfl (fun K hK => ?_) AllReadyH.nil)
        · go_simp
          refine hK.out _ _ hS0 (fun _ => ?_)
          clear hK K
          try simp only [Act.put, List.setIfInBounds_toArray, List.set_cons_zero, List.set_cons_succ]
          refine wpAnyH_ready (rs := [7]) (by kernel_rfl) (by simp) ?_
          refine AllReadyH.cons rfl (fun K hK => ?_) AllReadyH.nil
          go_simp
          refine hK.out _ _ hS1 (fun _ => ?_)
          clear hK K
          try simp only [Act.put, List.setIfInBounds_toArray, List.set_cons_zero, List.set_cons_succ]
          refine wpAnyH_ready (rs := [8]) (by kernel_rfl) (by simp) ?_
          refine AllReadyH.cons rfl (fun K hK => ?_) AllReadyH.nil
          refine step_pushN_at (w := Wc.drew.alloc (.cells #[.int .i64 yi, .string yk, .int .u32 (yw : Int)] 25)) (o := ⟨some 49, _, _, _, _, _⟩) rfl (.tmp 46) (.tmp 48) 28 (by rfl) (w.heap.size + 1) inf Tryz.underlying28 hif hif1 hif2 hif3 (.slice Ai nl ci) lp (by simp [Act.eval]) hq1 Wc.drew.heap.size 1 ⟨yi, yk, yw⟩ (by simp [Act.eval]) hq2 (by have := HNL.out; omega) hq3 ?_
          intro v' w5 ho5 hgr hat5
          obtain ⟨l5, hl5⟩ : ∃ l5, l5 = lp ++ [(⟨yi, yk, yw⟩ : Nd)] := ⟨_, rfl⟩
          rw [← hl5] at ho5
          have HL5 := Lib.hid hl5
          clear hl5
          obtain ⟨A5, c5, rfl, -⟩ := ho5.read
          have hS5 := (hgr.block wr.heap.size hqX (fun e => hux e.symm)).trans hS1
          have hc5 := hgr.cell hq4 (fun e => hung e.symm)
          have hf5 := (World.frozen?_of_block (a := ⟨g, p, none⟩) (hgr.block g hq5 (fun e => hung e.symm))).trans hq6
          obtain ⟨hR5, hg6⟩ := hput.out _ w5 _ _ hq7 ho5 hgr hat5
          have hm5 := hq8.kept hgr (fun e => hq9 e.symm)
          have hB5 := hq10.grown hgr hq10.size hq11
          have hs5 := hgr.size
          have hS6 := (Below.heap_setCell w5 ⟨g, p, none⟩ (.slice A5 l5.length c5) wr.heap.size (fun e => hgX e.symm)).trans hS5
          have hm6 := hm5.setCell (a := ⟨g, p, none⟩) hq12 (.slice A5 l5.length c5)
          have hB6 := hB5.grown hg6 hB5.size (fun j e => by have := Option.some.inj e; omega)
          have hs6 := hg6.size
          refine hK.out _ _ hS5 (fun _ => ?_)
          clear hK K
          try simp only [Act.put, List.setIfInBounds_toArray, List.set_cons_zero, List.set_cons_succ]
          refine takeH (i := 9) (d := some 50) (v := ?_) rfl rfl (by kernel_rfl) (by kernel_rfl) (by kernel_rfl) (fun _ _ _ h => h) (Or.inl ⟨by rfl, ?_⟩) (by assumption) ?_
          rotate_left
          · intro W hSw
            go_simp
            try with_reducible rfl
          try simp only [Act.put, List.setIfInBounds_toArray, List.set_cons_zero, List.set_cons_succ]
          refine wpAnyH_ready (rs := [10]) (by kernel_rfl) (by simp) ?_
          refine AllReadyH.cons rfl (fun K hK => ?_) AllReadyH.nil
          go_simp
          refine hK.out _ _ hS6 (fun _ => ?_)
          clear hK K
          try simp only [Act.put, List.setIfInBounds_toArray, List.set_cons_zero, List.set_cons_succ]
          refine wpAnyH_done (by kernel_rfl) ?_ _
          clear hc5 hf5 hS5 hS6 hput hq1 hq2 hq4 hq6 hS0 hS1
          go_wp2_with fail
          refine ⟨⟨_, k + 1, cs.set p l5, D, rfl, hlt, by go_num, hR5, (hm6.mono (by omega)), Lib.hid (by rw [HL5.out]; exact HP2.out), Lib.hid (by rw [HN.out, ← HL.out, HI.out, HL5.out]), hB6, by omega, by rw [List.length_set]; have := HN1.out; omega⟩, by simp [intOf]; omega⟩
        · go_simp
          refine hK.out _ _ hS1 (fun _ => ?_)
          clear hK K
          try simp only [Act.put, List.setIfInBounds_toArray, List.set_cons_zero, List.set_cons_succ]
          refine wpAnyH_ready (rs := [5]) (by kernel_rfl) (by simp) ?_
          refine AllReadyH.cons rfl (fun K hK => ?_) AllReadyH.nil
          go_simp
          refine hK.out _ _ hS1 (fun _ => ?_)
          clear hK K
          try simp only [Act.put, List.setIfInBounds_toArray, List.set_cons_zero, List.set_cons_succ]
          refine wpAnyH_ready (rs := [8]) (by kernel_rfl) (by simp) ?_
          refine AllReadyH.cons rfl (fun K hK => ?_) AllReadyH.nil
          refine step_pushN_at (w := Wc.drew.alloc (.cells #[.int .i64 yi, .string yk, .int .u32 (yw : Int)] 25)) (o := ⟨some 49, _, _, _, _, _⟩) rfl (.tmp 46) (.tmp 48) 28 (by rfl) (w.heap.size + 1) inf Tryz.underlying28 hif hif1 hif2 hif3 (.slice Ai nl ci) lp (by simp [Act.eval]) hq1 Wc.drew.heap.size 1 ⟨yi, yk, yw⟩ (by simp [Act.eval]) hq2 (by have := HNL.out; omega) hq3 ?_
          intro v' w5 ho5 hgr hat5
          obtain ⟨l5, hl5⟩ : ∃ l5, l5 = lp ++ [(⟨yi, yk, yw⟩ : Nd)] := ⟨_, rfl⟩
          rw [← hl5] at ho5
          have HL5 := Lib.hid hl5
          clear hl5
          obtain ⟨A5, c5, rfl, -⟩ := ho5.read
          have hS5 := (hgr.block wr.heap.size hqX (fun e => hux e.symm)).trans hS1
          have hc5 := hgr.cell hq4 (fun e => hung e.symm)
          have hf5 := (World.frozen?_of_block (a := ⟨g, p, none⟩) (hgr.block g hq5 (fun e => hung e.symm))).trans hq6
          obtain ⟨hR5, hg6⟩ := hput.out _ w5 _ _ hq7 ho5 hgr hat5
          have hm5 := hq8.kept hgr (fun e => hq9 e.symm)
          have hB5 := hq10.grown hgr hq10.size hq11
          have hs5 := hgr.size
          have hS6 := (Below.heap_setCell w5 ⟨g, p, none⟩ (.slice A5 l5.length c5) wr.heap.size (fun e => hgX e.symm)).trans hS5
          have hm6 := hm5.setCell (a := ⟨g, p, none⟩) hq12 (.slice A5 l5.length c5)
          have hB6 := hB5.grown hg6 hB5.size (fun j e => by have := Option.some.inj e; omega)
          have hs6 := hg6.size
          refine hK.out _ _ hS5 (fun _ => ?_)
          clear hK K
          try simp only [Act.put, List.setIfInBounds_toArray, List.set_cons_zero, List.set_cons_succ]
          refine takeH (i := 9) (d := some 50) (v := ?_) rfl rfl (by kernel_rfl) (by kernel_rfl) (by kernel_rfl) (fun _ _ _ h => h) (Or.inl ⟨by rfl, ?_⟩) (by assumption) ?_
          rotate_left
          · intro W hSw
            go_simp
            try with_reducible rfl
          try simp only [Act.put, List.setIfInBounds_toArray, List.set_cons_zero, List.set_cons_succ]
          refine wpAnyH_ready (rs := [10]) (by kernel_rfl) (by simp) ?_
          refine AllReadyH.cons rfl (fun K hK => ?_) AllReadyH.nil
          go_simp
          refine hK.out _ _ hS6 (fun _ => ?_)
          clear hK K
          try simp only [Act.put, List.setIfInBounds_toArray, List.set_cons_zero, List.set_cons_succ]
          refine wpAnyH_done (by kernel_rfl) ?_ _
          clear hc5 hf5 hS5 hS6 hput hq1 hq2 hq4 hq6 hS0 hS1
          go_wp2_with fail
          refine ⟨⟨_, k + 1, cs.set p l5, D, rfl, hlt, by go_num, hR5, (hm6.mono (by omega)), Lib.hid (by rw [HL5.out]; exact HP2.out), Lib.hid (by rw [HN.out, ← HL.out, HI.out, HL5.out]), hB6, by omega, by rw [List.length_set]; have := HN1.out; omega⟩, by simp [intOf]; omega⟩
    · have hL2 : clsV l h = cs := by rw [HV.out, HL.out, List.take_of_length_le (by omega)]
      obtain ⟨A3, c3, rfl, hr3⟩ := ho1.read
      have HL2 := Lib.hid hL2
      clear hL2 HL HV HP
      go_wp2_with fail
      go_ret
      rw [HL2.out]
      exact ⟨A3, c3, rfl, hr3, hB⟩
end
section
open Go.RowKit

end
end Go.Proofs.YtjokbdhineilcaaGreatDoor
