/-
  Plain facts on joining and leaving: how many nodes are visited, at most the run; links beside a node that joins. Conditions: where said, the nodes are a roster.
  Plain facts on joining: links beside a node that joins, by places and by lists. No condition.
  What Insert and Remove answer (plain): the errors, the visits, the links that are not 0. Conditions: where said, the nodes are a roster.
  The example of chapter 10 (plain): two nodes. No condition.
  Plain facts on joining and leaving, by numbers: links as a function of numbers and levels, neighbours are mutual, chains to a side, what the owner of a key is beside. No condition.
-/
import Derived.Test.YtjokbdhineilcaaGreatDoorLuA
import Derived.Test.YtjokbdhineilcaaGreatDoorKvA
import Derived.Test.YtjokbdhineilcaaGreatDoorLdG
import Derived.Test.YtjokbdhineilcaaGreatDoorLpC
namespace Go.Proofs.YtjokbdhineilcaaGreatDoor
section
open Go.RowKit

/-! how many nodes are visited -/
/-- How many nodes are visited up to the first that p holds of, this one included; all, if there is none. -/
def upN (p : Nd → Bool) : List Nd → Nat
  | [] => 0
  | y :: L => if p y then 1 else upN p L + 1
theorem upN_le (p : Nd → Bool) : ∀ L : List Nd, upN p L ≤ L.length
  | [] => Nat.le_refl _
  | y :: L => by
    have := upN_le p L
    unfold upN
    split <;> simp <;> omega
/-- Before the visits end there are none that p holds of. -/
theorem upN_seg (p : Nd → Bool) : ∀ L : List Nd, ∃ A B, L = A ++ B ∧ (∀ y ∈ A, p y = false) ∧ upN p L ≤ A.length + 1
  | [] => ⟨[], [], rfl, fun _ h => by simp at h, by simp [upN]⟩
  | y :: L => by
    by_cases h : p y = true
    · exact ⟨[], y :: L, rfl, fun _ h => by simp at h, by simp [upN, h]⟩
    · obtain ⟨A, B, e, h1, h2⟩ := upN_seg p L
      refine ⟨y :: A, B, by rw [e]; rfl, fun z hz => ?_, by simp [upN, h]; omega⟩
      rcases List.mem_cons.1 hz with rfl | hz
      · simpa using h
      · exact h1 z hz
theorem upN_congr {p q : Nd → Bool} : ∀ {L : List Nd}, (∀ y ∈ L, p y = q y) → upN p L = upN q L
  | [], _ => rfl
  | y :: L, h => by
    unfold upN
    rw [h y (List.mem_cons_self ..), upN_congr fun z hz => h z (List.mem_cons_of_mem _ hz)]
/-- The visits, by a place: up to k all fail, at k it holds. -/
theorem upN_at {p : Nd → Bool} {L : List Nd} {k : Nat} (hk : k < L.length) (h1 : ∀ j (h : j < k), p (L[j]'(by omega)) = false) (h2 : p L[k] = true) : upN p L = k + 1 := by
  induction L generalizing k with
  | nil => simp at hk
  | cons y L ih =>
    cases k with
    | zero => simp at h2; simp [upN, h2]
    | succ k =>
      have h0 := h1 0 (by omega)
      simp at h0
      have := ih (k := k) (by simpa using hk) (fun j hj => by have := h1 (j + 1) (by omega); simpa using this) (by simpa using h2)
      simp [upN, h0, this]
theorem upN_all {p : Nd → Bool} : ∀ {L : List Nd}, (∀ y ∈ L, p y = false) → upN p L = L.length
  | [], _ => rfl
  | y :: L, h => by
    unfold upN
    rw [if_neg (by rw [h y (List.mem_cons_self ..)]; simp), upN_all fun z hz => h z (List.mem_cons_of_mem _ hz)]
    simp
/-- Nodes with the same bit of a level. -/
def bsB (t : Nat) (x y : Nd) : Bool := decide (wbit y.word (t : Int) = wbit x.word (t : Int))
theorem bsB_iff {t : Nat} (ht : t < 16) {x y : Nd} : bsB t x y = true ↔ y.word.testBit t = x.word.testBit t := by
  unfold bsB
  rw [decide_eq_true_eq, wbit_in ht, wbit_in ht]
  cases y.word.testBit t <;> cases x.word.testBit t <;> simp
theorem smB_iff {t : Nat} {x y : Nd} : smB t x y = true ↔ Agr y.word x.word t := by
  unfold smB lowK
  rw [decide_eq_true_eq]
  exact low_eq _ _ _
/-- The list of the next level: of this level's those with the same bit. -/
theorem smB_succ {t : Nat} (ht : t < 16) (x y : Nd) : smB (t + 1) x y = (smB t x y && bsB t x y) := by
  apply Bool.eq_iff_iff.2
  rw [Bool.and_eq_true, smB_iff, smB_iff, bsB_iff ht]
  constructor
  · exact fun h => ⟨fun i hi => h i (by omega), h t (by omega)⟩
  · rintro ⟨h1, h2⟩ i hi
    by_cases e : i = t
    · rw [e]; exact h2
    · exact h1 i (by omega)
theorem sm_next {t : Nat} (ht : t < 16) (x : Nd) (L : List Nd) : L.filter (smB (t + 1) x) = (L.filter (smB t x)).filter (bsB t x) := by
  rw [List.filter_filter]
  congr 1
  funext y
  rw [smB_succ ht, Bool.and_comm]
/-- The nearest node of the next level's list: the first on the way with the same bit. -/
theorem last_find {α : Type} (p : α → Bool) (L : List α) : (L.filter p).getLast? = L.reverse.find? p := by
  rw [List.getLast?_eq_head?_reverse, ← List.filter_reverse, List.head?_filter]
theorem nb_left {t : Nat} (ht : t < 16) (x : Nd) (U : List Nd) : (U.filter (smB (t + 1) x)).getLast? = (U.filter (smB t x)).reverse.find? (bsB t x) := by
  rw [sm_next ht, last_find]
theorem nb_right {t : Nat} (ht : t < 16) (x : Nd) (V : List Nd) : (V.filter (smB (t + 1) x)).head? = (V.filter (smB t x)).find? (bsB t x) := by
  rw [sm_next ht, List.head?_filter]
/-- The visits at a level on both sides of a node. -/
def vsS (t : Nat) (U : List Nd) (x : Nd) (V : List Nd) : Nat := upN (bsB t x) (U.filter (smB t x)).reverse + upN (bsB t x) (V.filter (smB t x))
/-- The same, by the list of the level. -/
def vsV (l : List Nd) (x : Nd) (t : Nat) : Nat := upN (bsB t x) ((grp (srt l) (t : Int) x.word).take (plc (grp (srt l) (t : Int) x.word) x.id)).reverse + upN (bsB t x) ((grp (srt l) (t : Int) x.word).drop (plc (grp (srt l) (t : Int) x.word) x.id + 1))
theorem grp_split {S U V : List Nd} {x : Nd} {t : Nat} (hS : S = U ++ x :: V) (hw : ∀ y ∈ S, y.word < 4294967296) (ht : t ≤ 16) : grp S (t : Int) x.word = U.filter (smB t x) ++ x :: V.filter (smB t x) := by
  rw [grp_filter hw (hw x (by rw [hS]; simp)) (by omega)]
  subst hS
  show (U ++ x :: V).filter (smB t x) = _
  rw [List.filter_append, List.filter_cons, smB_self]
  rfl
theorem vs_split {l U V : List Nd} {x : Nd} {t : Nat} (hc : chkV l = 0) (hS : srt l = U ++ x :: V) (ht : t ≤ 16) : vsV l x t = vsS t U x V := by
  have ha := (ros_of hc).apart
  have hq : plc (U.filter (smB t x) ++ x :: V.filter (smB t x)) x.id = (U.filter (smB t x)).length := plc_split fun y hy => by
    rw [hS] at ha
    exact ((List.pairwise_append.1 ha).2.2 y (mflt hy) x (by simp)).1
  unfold vsV vsS
  rw [grp_split hS (srt_wd hc) ht, hq, List.take_left', List.drop_append]
  · rw [List.drop_eq_nil_of_le (by omega), List.nil_append, Nat.add_sub_cancel_left]
    rfl
  · rfl
/-- At each level, on each side, at most one more than the run. -/
theorem vs_run {l : List Nd} (hc : chkV l = 0) {x : Nd} (hx : x ∈ l) {t : Nat} (ht : t < 16) : vsV l x t ≤ 2 * (runL l x t + 1) := by
  obtain ⟨U, V, hS⟩ := List.append_of_mem (srt_mem.2 hx)
  have ha := (ros_of hc).apart
  have hw := srt_wd hc
  rw [vs_split hc hS (by omega)]
  have hG := grp_split hS hw (show t ≤ 16 by omega)
  have key : ∀ y ∈ srt l, y.id ≠ x.id → bsB t x y = false → pin x t y = false := fun y hy hne hb => by
    unfold pin
    rw [decide_eq_false hne, Bool.false_or]
    refine decide_eq_false fun h => ?_
    have h2 := (le_cm (n := t + 1) (hw y hy) (hw x (srt_mem.2 hx))).1 (by omega)
    rw [(bsB_iff ht).2 (h2.2 t (by omega))] at hb
    cases hb
  have hU : ∀ y ∈ U, y ∈ srt l ∧ y.id ≠ x.id := fun y hy => by
    refine ⟨by rw [hS]; simp [hy], ?_⟩
    rw [hS] at ha
    exact ((List.pairwise_append.1 ha).2.2 y hy x (by simp)).1
  have hV : ∀ y ∈ V, y ∈ srt l ∧ y.id ≠ x.id := fun y hy => by
    refine ⟨by rw [hS]; simp [hy], ?_⟩
    rw [hS] at ha
    exact fun e => ((List.pairwise_cons.1 (List.pairwise_append.1 ha).2.1).1 y hy).1 e.symm
  have hL : upN (bsB t x) (U.filter (smB t x)).reverse ≤ runL l x t + 1 := by
    obtain ⟨A, B, e, h1, h2⟩ := upN_seg (bsB t x) (U.filter (smB t x)).reverse
    have e2 : U.filter (smB t x) = B.reverse ++ A.reverse := by rw [← List.reverse_append, ← e, List.reverse_reverse]
    have h3 := runF_seg (pin x t) B.reverse A.reverse (x :: V.filter (smB t x)) fun y hy => by
      have hy' : y ∈ A := List.mem_reverse.1 hy
      have hu := hU y (mflt (p := smB t x) (by rw [e2]; simp [hy']))
      exact key y hu.1 hu.2 (h1 y hy')
    have : runL l x t = runF (pin x t) (B.reverse ++ (A.reverse ++ x :: V.filter (smB t x))) 0 0 := by
      unfold runL
      rw [hG, e2, List.append_assoc]
    rw [List.length_reverse] at h3
    omega
  have hR : upN (bsB t x) (V.filter (smB t x)) ≤ runL l x t + 1 := by
    obtain ⟨A, B, e, h1, h2⟩ := upN_seg (bsB t x) (V.filter (smB t x))
    have h3 := runF_seg (pin x t) (U.filter (smB t x) ++ [x]) A B fun y hy => by
      have hu := hV y (mflt (p := smB t x) (by rw [e]; simp [hy]))
      exact key y hu.1 hu.2 (h1 y hy)
    have : runL l x t = runF (pin x t) ((U.filter (smB t x) ++ [x]) ++ (A ++ B)) 0 0 := by
      unfold runL
      rw [hG, ← e, List.append_assoc]
      rfl
    omega
  unfold vsS
  omega
end
section
open Go.RowKit

/-! links when a node joins -/
theorem hd_ins {p : Nd → Bool} {x : Nd} (B C : List Nd) : hdId ((B ++ x :: C).filter p) = if p x = true ∧ B.filter p = [] then x.id else hdId ((B ++ C).filter p) := by
  unfold hdId
  rw [List.filter_append, List.filter_append]
  cases h : B.filter p with
  | nil => by_cases hx : p x = true <;> simp [hx]
  | cons y L => simp
theorem lst_ins {p : Nd → Bool} {x : Nd} (A B : List Nd) : lstId ((A ++ x :: B).filter p) = if p x = true ∧ B.filter p = [] then x.id else lstId ((A ++ B).filter p) := by
  unfold lstId
  rw [List.filter_append, List.filter_append]
  by_cases hx : p x = true
  · rw [List.filter_cons_of_pos hx]
    cases h : B.filter p with
    | nil => simp [hx]
    | cons y L => simp
  · rw [List.filter_cons_of_neg hx, if_neg (fun k => hx k.1)]
theorem smB_comm (t : Nat) (x y : Nd) : smB t x y = smB t y x := by
  unfold smB
  apply Bool.eq_iff_iff.2
  rw [decide_eq_true_eq, decide_eq_true_eq]
  exact eq_comm
theorem smB_fun {t : Nat} {x y : Nd} (h : smB t x y = true) : smB t y = smB t x := by
  funext z
  unfold smB at *
  rw [decide_eq_true_eq] at h
  rw [h]
/-- A node on the left of one that joins. -/
theorem ins_left {A B C : List Nd} {x y : Nd} (t : Nat) : lnkS t A y (B ++ x :: C) = if smB t x y = true ∧ B.filter (smB t x) = [] then ⟨(lnkS t A y (B ++ C)).left, x.id⟩ else lnkS t A y (B ++ C) := by
  have h := hd_ins (p := smB t y) (x := x) B C
  unfold lnkS
  rw [h, smB_comm t y x]
  by_cases e : smB t x y = true
  · rw [smB_fun e]
    split
    · rfl
    · rfl
  · rw [if_neg (fun k => e k.1), if_neg (fun k => e k.1)]
/-- A node on the right of one that joins. -/
theorem ins_right {A B C : List Nd} {x y : Nd} (t : Nat) : lnkS t (A ++ x :: B) y C = if smB t x y = true ∧ B.filter (smB t x) = [] then ⟨x.id, (lnkS t (A ++ B) y C).right⟩ else lnkS t (A ++ B) y C := by
  have h := lst_ins (p := smB t y) (x := x) A B
  unfold lnkS
  rw [h, smB_comm t y x]
  by_cases e : smB t x y = true
  · rw [smB_fun e]
    split
    · rfl
    · rfl
  · rw [if_neg (fun k => e k.1), if_neg (fun k => e k.1)]
/-- A node's links when one beside it leaves, on its right and on its left. -/
theorem out_left {A B C : List Nd} {x y : Nd} (t : Nat) : lnkS t A y (B ++ C) = if smB t x y = true ∧ B.filter (smB t x) = [] then ⟨(lnkS t A y (B ++ x :: C)).left, hdId (C.filter (smB t x))⟩ else lnkS t A y (B ++ x :: C) := by
  by_cases e : smB t x y = true ∧ B.filter (smB t x) = []
  · rw [if_pos e]
    unfold lnkS
    rw [smB_fun e.1, List.filter_append, e.2]
    rfl
  · rw [ins_left, if_neg e, if_neg e]
theorem out_right {A B C : List Nd} {x y : Nd} (t : Nat) : lnkS t (A ++ B) y C = if smB t x y = true ∧ B.filter (smB t x) = [] then ⟨lstId (A.filter (smB t x)), (lnkS t (A ++ x :: B) y C).right⟩ else lnkS t (A ++ x :: B) y C := by
  by_cases e : smB t x y = true ∧ B.filter (smB t x) = []
  · rw [if_pos e]
    unfold lnkS
    rw [smB_fun e.1, List.filter_append, e.2, List.append_nil]
  · rw [ins_right, if_neg e, if_neg e]
theorem hd_mem {L : List Nd} (h : L ≠ []) : ∃ z ∈ L, hdId L = z.id := by
  cases L with
  | nil => exact absurd rfl h
  | cons y L => exact ⟨y, List.mem_cons_self .., rfl⟩
theorem lst_mem {L : List Nd} (h : L ≠ []) : ∃ z ∈ L, lstId L = z.id :=
  ⟨_, List.getLast_mem h, by unfold lstId; rw [List.getLast?_eq_some_getLast h]; rfl⟩
/-- x is the right neighbour just if the link says so. -/
theorem right_is {A B C : List Nd} {x y : Nd} (t : Nat) (h0 : x.id ≠ 0) (hB : ∀ z ∈ B, z.id ≠ x.id) (hC : ∀ z ∈ C, z.id ≠ x.id) : (lnkS t A y (B ++ x :: C)).right = x.id ↔ smB t x y = true ∧ B.filter (smB t x) = [] := by
  rw [ins_left]
  by_cases e : smB t x y = true ∧ B.filter (smB t x) = []
  · rw [if_pos e]
    exact ⟨fun _ => e, fun _ => rfl⟩
  · rw [if_neg e]
    refine ⟨fun h => ?_, fun h => absurd h e⟩
    unfold lnkS at h
    dsimp only at h
    by_cases hn : (B ++ C).filter (smB t y) = []
    · rw [hn] at h
      exact absurd h.symm h0
    · obtain ⟨z, hz, ez⟩ := hd_mem hn
      rw [ez] at h
      rcases List.mem_append.1 (mflt hz) with hz | hz
      · exact absurd h (hB z hz)
      · exact absurd h (hC z hz)
theorem left_is {A B C : List Nd} {x y : Nd} (t : Nat) (h0 : x.id ≠ 0) (hA : ∀ z ∈ A, z.id ≠ x.id) (hB : ∀ z ∈ B, z.id ≠ x.id) : (lnkS t (A ++ x :: B) y C).left = x.id ↔ smB t x y = true ∧ B.filter (smB t x) = [] := by
  rw [ins_right]
  by_cases e : smB t x y = true ∧ B.filter (smB t x) = []
  · rw [if_pos e]
    exact ⟨fun _ => e, fun _ => rfl⟩
  · rw [if_neg e]
    refine ⟨fun h => ?_, fun h => absurd h e⟩
    unfold lnkS at h
    dsimp only at h
    by_cases hn : (A ++ B).filter (smB t y) = []
    · rw [hn] at h
      exact absurd h.symm h0
    · obtain ⟨z, hz, ez⟩ := lst_mem hn
      rw [ez] at h
      rcases List.mem_append.1 (mflt hz) with hz | hz
      · exact absurd h (hA z hz)
      · exact absurd h (hB z hz)
/-! by places -/
theorem lnkI_at {S : List Nd} {t i : Nat} (h : i < S.length) : lnkI S t i = lnkS t (S.take i) S[i] (S.drop (i + 1)) := by
  have e := at_split h
  have := lnkI_split (U := S.take i) (V := S.drop (i + 1)) (x := S[i]) t
  rw [← e, List.length_take, Nat.min_eq_left (by omega)] at this
  exact this
/-- The links of a node on the left of the one that joins, by its place. -/
theorem join_left {U V : List Nd} {x : Nd} {t j : Nat} (hj : j < U.length) : lnkI (U ++ x :: V) t j = if smB t x U[j] = true ∧ (U.drop (j + 1)).filter (smB t x) = [] then ⟨(lnkI (U ++ V) t j).left, x.id⟩ else lnkI (U ++ V) t j := by
  have e1 : (U ++ x :: V)[j]'(by simp; omega) = U[j] := List.getElem_append_left hj
  have e2 : (U ++ V)[j]'(by simp; omega) = U[j] := List.getElem_append_left hj
  rw [lnkI_at (S := U ++ x :: V) (by simp; omega), lnkI_at (S := U ++ V) (by simp; omega), e1, e2, List.take_append_of_le_length (by omega), List.take_append_of_le_length (by omega), List.drop_append_of_le_length (by omega), List.drop_append_of_le_length (by omega)]
  exact ins_left t
/-- On the right of it. -/
theorem join_right {U V : List Nd} {x : Nd} {t k : Nat} (hk : k < V.length) : lnkI (U ++ x :: V) t (U.length + 1 + k) = if smB t x V[k] = true ∧ (V.take k).filter (smB t x) = [] then ⟨x.id, (lnkI (U ++ V) t (U.length + k)).right⟩ else lnkI (U ++ V) t (U.length + k) := by
  have h1 : U.length + 1 + k < (U ++ x :: V).length := by simp; omega
  have h2 : U.length + k < (U ++ V).length := by simp; omega
  have e1 : (U ++ x :: V)[U.length + 1 + k] = V[k] := by
    rw [List.getElem_append_right (by omega)]
    simp [show U.length + 1 + k - U.length = k + 1 by omega]
  have e2 : (U ++ V)[U.length + k] = V[k] := by
    rw [List.getElem_append_right (by omega)]
    simp
  have t1 : (U ++ x :: V).take (U.length + 1 + k) = U ++ x :: V.take k := by
    rw [List.take_append, List.take_of_length_le (by omega), show U.length + 1 + k - U.length = k + 1 by omega]
    rfl
  have t2 : (U ++ V).take (U.length + k) = U ++ V.take k := by
    rw [List.take_append, List.take_of_length_le (by omega), Nat.add_sub_cancel_left]
  have d1 : (U ++ x :: V).drop (U.length + 1 + k + 1) = V.drop (k + 1) := by
    rw [List.drop_append, List.drop_eq_nil_of_le (by omega), List.nil_append, show U.length + 1 + k + 1 - U.length = (k + 1) + 1 by omega]
    rfl
  have d2 : (U ++ V).drop (U.length + k + 1) = V.drop (k + 1) := by
    rw [List.drop_append, List.drop_eq_nil_of_le (by omega), List.nil_append, show U.length + k + 1 - U.length = k + 1 by omega]
  rw [lnkI_at h1, lnkI_at h2, e1, e2, t1, t2, d1, d2]
  exact ins_right t
/-- The sorted list with one node more. -/
theorem srt_join {l : List Nd} {x : Nd} (hc : chkV (l ++ [x]) = 0) : ∃ U V, srt l = U ++ V ∧ srt (l ++ [x]) = U ++ x :: V := by
  obtain ⟨U, V, hS⟩ := List.append_of_mem (srt_mem (l := l ++ [x]).2 (show x ∈ l ++ [x] by simp))
  refine ⟨U, V, ?_, hS⟩
  have ha := (ros_of hc).apart
  rw [hS] at ha
  have hw : l = wout (l ++ [x]) [x.id] := by
    have h3 := (chkV_zero.1 hc).2.2
    unfold wout
    rw [List.filter_append]
    have e1 : l.filter (fun y => !([x.id].contains y.id)) = l := List.filter_eq_self.2 fun y hy => by
      have := ((List.pairwise_append.1 h3).2.2 y hy x (by simp)).1
      simpa using this
    rw [e1]
    simp
  rw [hw, srt_wout hc, hS]
  unfold wout
  rw [List.filter_append, List.filter_cons]
  have f1 : U.filter (fun y => !([x.id].contains y.id)) = U := List.filter_eq_self.2 fun y hy => by
    have := ((List.pairwise_append.1 ha).2.2 y hy x (by simp)).1
    simpa using this
  have f2 : V.filter (fun y => !([x.id].contains y.id)) = V := List.filter_eq_self.2 fun y hy => by
    have := ((List.pairwise_cons.1 (List.pairwise_append.1 ha).2.1).1 y hy).1
    simpa using fun e => this e.symm
  rw [f1, f2]
  simp
end
section
open Go.RowKit

/-- What Insert answers: the error, and the visits. -/
def insE (l : List Nd) (k : List Ld) (x : Nd) (id h : Int) : Int := if lvB h = false then 2 else if exaB l k h = false then 1 else if chkV (l ++ [x]) ≠ 0 then chkV (l ++ [x]) else if l ≠ [] ∧ ¬ plc l id < l.length then 6 else 0
def insN (l : List Nd) (k : List Ld) (x : Nd) (id h : Int) : Nat := (rteR l k id x.key).length + sumR (vsV (l ++ [x]) x) h.toNat
/-- What Remove answers: the error, and the node's links that are not 0. -/
def remE (l : List Nd) (k : List Ld) (id h : Int) : Int := if lvB h = false then 2 else if exaB l k h = false then 1 else if plc l id < l.length then 0 else 6
def remN (k : List Ld) (id h : Int) : Nat := sumR (fun t => nzK (atV k id (t : Int))) (h + 1).toNat
theorem insE_cases (l : List Nd) (k : List Ld) (x : Nd) (id h : Int) : (lvB h = false ∧ insE l k x id h = 2) ∨ (lvB h = true ∧ exaB l k h = false ∧ insE l k x id h = 1) ∨ (lvB h = true ∧ exaB l k h = true ∧ chkV (l ++ [x]) ≠ 0 ∧ insE l k x id h = chkV (l ++ [x])) ∨ (lvB h = true ∧ exaB l k h = true ∧ chkV (l ++ [x]) = 0 ∧ l ≠ [] ∧ ¬ plc l id < l.length ∧ insE l k x id h = 6) ∨ (lvB h = true ∧ exaB l k h = true ∧ chkV (l ++ [x]) = 0 ∧ (l = [] ∨ plc l id < l.length) ∧ insE l k x id h = 0) := by
  unfold insE
  by_cases h1 : lvB h = false
  · exact .inl ⟨h1, if_pos h1⟩
  · rw [if_neg h1]
    have h1' : lvB h = true := by simpa using h1
    by_cases h2 : exaB l k h = false
    · exact .inr (.inl ⟨h1', h2, if_pos h2⟩)
    · rw [if_neg h2]
      have h2' : exaB l k h = true := by simpa using h2
      by_cases h3 : chkV (l ++ [x]) = 0
      · rw [if_neg (not_not_intro h3)]
        by_cases h4 : l ≠ [] ∧ ¬ plc l id < l.length
        · exact .inr (.inr (.inr (.inl ⟨h1', h2', h3, h4.1, h4.2, if_pos h4⟩)))
        · refine .inr (.inr (.inr (.inr ⟨h1', h2', h3, ?_, if_neg h4⟩)))
          by_cases h5 : l = []
          · exact .inl h5
          · exact .inr (Decidable.byContradiction fun h6 => h4 ⟨h5, h6⟩)
      · exact .inr (.inr (.inl ⟨h1', h2', h3, if_pos h3⟩))
theorem remE_cases (l : List Nd) (k : List Ld) (id h : Int) : (lvB h = false ∧ remE l k id h = 2) ∨ (lvB h = true ∧ exaB l k h = false ∧ remE l k id h = 1) ∨ (lvB h = true ∧ exaB l k h = true ∧ ¬ plc l id < l.length ∧ remE l k id h = 6) ∨ (lvB h = true ∧ exaB l k h = true ∧ plc l id < l.length ∧ remE l k id h = 0) := by
  unfold remE
  by_cases h1 : lvB h = false
  · exact .inl ⟨h1, if_pos h1⟩
  · rw [if_neg h1]
    have h1' : lvB h = true := by simpa using h1
    by_cases h2 : exaB l k h = false
    · exact .inr (.inl ⟨h1', h2, if_pos h2⟩)
    · rw [if_neg h2]
      have h2' : exaB l k h = true := by simpa using h2
      by_cases h3 : plc l id < l.length
      · exact .inr (.inr (.inr ⟨h1', h2', h3, if_pos h3⟩))
      · exact .inr (.inr (.inl ⟨h1', h2', h3, if_neg h3⟩))
theorem lvB_is {h : Int} (hl : lvB h = true) : ∃ n : Nat, h = (n : Int) ∧ n ≤ 16 := by
  have h2 : 0 ≤ h ∧ h ≤ 16 := by simpa [lvB] using hl
  exact ⟨h.toNat, by omega, by omega⟩
theorem exa_is {l : List Nd} {k : List Ld} {m : Nat} (h : exaB l k (m : Int) = true) : chkV l = 0 ∧ k = bldV l (m + 1) := by
  unfold exaB at h
  simp only [Bool.and_eq_true, decide_eq_true_eq] at h
  obtain ⟨h1, h2⟩ := h
  rw [show ((m : Int) + 1).toNat = m + 1 by omega] at h2
  refine ⟨?_, h2⟩
  unfold bldE at h1
  split at h1
  · assumption
  · cases h1
theorem vsS_le (t : Nat) (U : List Nd) (x : Nd) (V : List Nd) : vsS t U x V ≤ U.length + V.length := by
  unfold vsS
  have h1 := upN_le (bsB t x) (U.filter (smB t x)).reverse
  have h2 := upN_le (bsB t x) (V.filter (smB t x))
  have h3 := List.length_filter_le (smB t x) U
  have h4 := List.length_filter_le (smB t x) V
  rw [List.length_reverse] at h1
  omega
theorem vs_le {l : List Nd} (hc : chkV l = 0) {x : Nd} (hx : x ∈ l) {t : Nat} (ht : t ≤ 16) : vsV l x t < l.length := by
  obtain ⟨U, V, hS⟩ := List.append_of_mem (srt_mem.2 hx)
  rw [vs_split hc hS ht]
  have h1 := vsS_le t U x V
  have h2 : (srt l).length = l.length := (srt_srt l).1.length_eq
  rw [hS] at h2
  simp only [List.length_append, List.length_cons] at h2
  omega
theorem sum_le10 {f : Nat → Nat} {B : Nat} : ∀ {n : Nat}, (∀ t, t < n → f t ≤ B) → sumR f n ≤ n * B
  | 0, _ => by simp [sumR]
  | n + 1, h => by
    have h1 := sum_le10 (n := n) fun t ht => h t (by omega)
    have h2 := h n (by omega)
    unfold sumR
    rw [Nat.succ_mul]
    omega
theorem sum_mono {f g : Nat → Nat} : ∀ {n : Nat}, (∀ t, t < n → f t ≤ g t) → sumR f n ≤ sumR g n
  | 0, _ => Nat.le_refl _
  | n + 1, h => by
    have h1 := sum_mono (n := n) fun t ht => h t (by omega)
    have h2 := h n (by omega)
    unfold sumR
    omega
/-- The visits of all levels are at most twice one more than the runs. -/
theorem sum_run {l : List Nd} (hc : chkV l = 0) {x : Nd} (hx : x ∈ l) {n : Nat} (hn : n ≤ 16) : sumR (vsV l x) n ≤ sumR (fun t => 2 * (runL l x t + 1)) n :=
  sum_mono fun t ht => vs_run hc hx (by omega)
/-- On exact links. -/
theorem exa_bld {l : List Nd} (hc : chkV l = 0) {m : Nat} (hm : m ≤ 16) : exaB l (bldV l (m + 1)) (m : Int) = true := by
  unfold exaB
  have h1 : bldE l (m : Int) = 0 := by
    unfold bldE
    rw [if_pos hc, if_pos (by simp [lvB]; omega)]
  rw [h1, show ((m : Int) + 1).toNat = m + 1 by omega]
  simp
theorem ins_ok {l : List Nd} {x : Nd} (hc : chkV (l ++ [x]) = 0) {m : Nat} (hm : m ≤ 16) {id : Int} (hi : l = [] ∨ plc l id < l.length) : insE l (bldV l (m + 1)) x id (m : Int) = 0 := by
  have hl : chkV l = 0 := chk_sub hc (List.sublist_append_left _ _)
  unfold insE
  rw [if_neg (by simp [lvB]; omega), exa_bld hl hm, if_neg (by simp), hc, if_neg (by simp), if_neg]
  rintro ⟨h1, h2⟩
  rcases hi with h | h
  · exact h1 h
  · exact h2 h
theorem rem_ok {l : List Nd} (hc : chkV l = 0) {m : Nat} (hm : m ≤ 16) {id : Int} (hi : plc l id < l.length) : remE l (bldV l (m + 1)) id (m : Int) = 0 := by
  unfold remE
  rw [if_neg (by simp [lvB]; omega), exa_bld hc hm, if_neg (by simp), if_pos hi]
/-- A node out and in again. -/
theorem wout_perm10 {l : List Nd} (hc : chkV l = 0) {x : Nd} (hx : x ∈ l) : (wout l [x.id] ++ [x]).Perm l := by
  have ha := (chkV_zero.1 hc).2.2
  obtain ⟨A, B, e⟩ := List.append_of_mem hx
  subst e
  have hp := List.pairwise_append.1 ha
  have hA : ∀ y ∈ A, y.id ≠ x.id := fun y hy => (hp.2.2 y hy x (by simp)).1
  have hB : ∀ y ∈ B, y.id ≠ x.id := fun y hy e => ((List.pairwise_cons.1 hp.2.1).1 y hy).1 e.symm
  have e1 : wout (A ++ x :: B) [x.id] = A ++ B := by
    have f1 : A.filter (fun y => !([x.id].contains y.id)) = A := List.filter_eq_self.2 fun y hy => by simpa using hA y hy
    have f2 : B.filter (fun y => !([x.id].contains y.id)) = B := List.filter_eq_self.2 fun y hy => by simpa using hB y hy
    unfold wout
    rw [List.filter_append, List.filter_cons, f1, f2]
    simp
  rw [e1, List.append_assoc]
  exact List.Perm.append_left _ List.perm_append_comm
theorem chk_perm10 {l m : List Nd} (h : m.Perm l) (hc : chkV l = 0) : chkV m = 0 := by
  obtain ⟨h1, h2, h3⟩ := chkV_zero.1 hc
  exact chkV_zero.2 ⟨by rw [h.length_eq]; exact h1, List.all_eq_true.2 fun x hx => List.all_eq_true.1 h2 x (h.mem_iff.1 hx), (h.pairwise_iff Nd.apart.symm).2 h3⟩
theorem undo {l : List Nd} (hc : chkV l = 0) {x : Nd} (hx : x ∈ l) (M : Nat) : chkV (wout l [x.id] ++ [x]) = 0 ∧ bldV (wout l [x.id] ++ [x]) M = bldV l M ∧ wout (wout l [x.id] ++ [x]) [x.id] = wout l [x.id] := by
  have hp := wout_perm10 hc hx
  refine ⟨chk_perm10 hp hc, bld_perm hp hc M, ?_⟩
  unfold wout
  rw [List.filter_append, List.filter_filter]
  simp
theorem sum_range (f : Nat → Nat) : ∀ n : Nat, ((List.range n).map f).sum = sumR f n
  | 0 => rfl
  | n + 1 => by
    rw [List.range_succ, List.map_append, List.sum_append, sum_range f n]
    simp [sumR]
theorem sum_congr {f g : Nat → Nat} : ∀ {n : Nat}, (∀ t, t < n → f t = g t) → sumR f n = sumR g n
  | 0, _ => rfl
  | n + 1, h => by
    unfold sumR
    rw [sum_congr (n := n) fun t ht => h t (by omega), h n (by omega)]
/-- The links of a node that are not 0, in its element. -/
theorem rem_el {l : List Nd} (hc : chkV l = 0) {m : Nat} (hm : m ≤ 16) {i : Nat} (hi : i < (srt l).length) : remN (bldV l (m + 1)) (srt l)[i].id (m : Int) = nzE ((bldV l (m + 1))[i]'(by rw [bld_len, ← (srt_srt l).1.length_eq]; exact hi)) := by
  have hx : (srt l)[i] ∈ l := srt_mem.1 (List.getElem_mem hi)
  unfold remN
  rw [show ((m : Int) + 1).toNat = m + 1 by omega]
  have e : (bldV l (m + 1))[i]'(by rw [bld_len, ← (srt_srt l).1.length_eq]; exact hi) = ⟨(srt l)[i].id, (List.range (m + 1)).map fun (h : Nat) => lnk (srt l) (h : Int) (srt l)[i]⟩ := by
    unfold bldV
    rw [List.getElem_map]
  rw [e]
  unfold nzE
  dsimp only
  rw [List.map_map, sum_range]
  refine sum_congr fun t ht => ?_
  rw [at_bld hc (by omega) hx ht, (nb_in hc (h := (t : Int)) (by omega) (by omega) hx).2]
  rfl
/-- No level, no visits beside the hops. -/
theorem insN_zero (l : List Nd) (k : List Ld) (x : Nd) (id : Int) : insN l k x id 0 = (rteR l k id x.key).length := rfl
theorem rteR_nil (k : List Ld) (id : Int) (q : ByteArray) : rteR [] k id q = [] := by
  unfold rteR
  rw [if_neg]
  unfold rteE
  split
  · rw [if_neg (by simp [plc])]
    simp
  · simp
end
section
open Go.RowKit

/-- Where the node has no links, a search from it does not hop. -/
theorem rte_still {l : List Nd} {k : List Ld} {q : ByteArray} {x : Nd} (hc : chkV l = 0) (h : ∀ t : Nat, atV k x.id (t : Int) = ⟨0, 0⟩) : rteW l k q x = [] := by
  unfold rteW
  rw [rt_from hc (m := 0) (fun t _ => h t) 17 (by omega), rt_zero]
  unfold lstO
  rw [if_neg]
  · rfl
  · rintro ⟨_, h2, _⟩
    have := h 0
    rw [show ((0 : Nat) : Int) = 0 from rfl] at this
    dsimp only at h2
    rw [this] at h2
    exact plc_zero hc h2
def nA10 : Nd := ⟨1, ⟨#[97]⟩, 0⟩
def nB10 : Nd := ⟨2, ⟨#[98]⟩, 1⟩
theorem t_ok2 : chkV [nA10, nB10] = 0 := by
  refine chkV_zero.2 ⟨by decide, by decide +kernel, ?_⟩
  simp [Nd.apart, nA10, nB10]
theorem t_ok1 : chkV [nA10] = 0 := chk_sub t_ok2 (List.sublist_append_left [nA10] [nB10])
theorem t_srt2 : srt [nA10, nB10] = [nA10, nB10] := (srt_of ⟨List.Perm.refl _, by decide +kernel⟩ (chkV_zero.1 t_ok2).2.2).symm
theorem t_srt1 : srt [nA10] = [nA10] := (srt_of ⟨List.Perm.refl _, by decide +kernel⟩ (chkV_zero.1 t_ok1).2.2).symm
theorem t_bld2 : bldV [nA10, nB10] 2 = [⟨1, [⟨0, 2⟩, ⟨0, 0⟩]⟩, ⟨2, [⟨1, 0⟩, ⟨0, 0⟩]⟩] := by
  unfold bldV
  rw [t_srt2]
  decide +kernel
theorem t_bld1 : bldV [nA10] 2 = [⟨1, [⟨0, 0⟩, ⟨0, 0⟩]⟩] := by
  unfold bldV
  rw [t_srt1]
  decide +kernel
theorem t_bld0 (M : Nat) : bldV [] M = [] := List.eq_nil_of_length_eq_zero (bld_len _ _)
/-- A first node visits none. -/
theorem t_ins1 : insE [] [] nA10 7 1 = 0 ∧ insN [] [] nA10 7 1 = 0 ∧ bldV ([] ++ [nA10]) 2 = [⟨1, [⟨0, 0⟩, ⟨0, 0⟩]⟩] := by
  refine ⟨?_, ?_, t_bld1⟩
  · have := ins_ok (l := []) (x := nA10) t_ok1 (m := 1) (by omega) (id := 7) (.inl rfl)
    rw [t_bld0] at this
    exact this
  · have h := vs_le t_ok1 (x := nA10) (by simp) (t := 0) (by omega)
    unfold insN
    rw [rteR_nil]
    show 0 + (0 + vsV ([] ++ [nA10]) nA10 0) = 0
    rw [List.nil_append]
    simp only [List.length_cons, List.length_nil] at h
    omega
/-- A second one visits it. -/
theorem t_ins2 : insE [nA10] (bldV [nA10] 2) nB10 1 1 = 0 ∧ insN [nA10] (bldV [nA10] 2) nB10 1 1 = 1 := by
  refine ⟨ins_ok (l := [nA10]) (x := nB10) t_ok2 (m := 1) (by omega) (id := 1) (.inr (by decide)), ?_⟩
  have hf : fndV [nA10] 1 = nA10 := fnd_self (x := nA10) (chkV_zero.1 t_ok1).2.2 (by simp)
  have h1 : rteR [nA10] (bldV [nA10] 2) 1 nB10.key = [] := by
    unfold rteR
    split
    · rw [hf]
      refine rte_still t_ok1 fun t => ?_
      rw [t_bld1]
      match t with
      | 0 => rfl
      | 1 => rfl
      | t + 2 =>
        unfold atV
        simp [nA10]
        intro _
        rw [show ((t : Int) + 2).toNat = t + 2 by omega]
        rfl
    · rfl
  have h2 : vsV [nA10, nB10] nB10 0 = 1 := by
    rw [vs_split (U := [nA10]) (V := []) t_ok2 t_srt2 (by omega)]
    decide +kernel
  unfold insN
  rw [h1]
  show 0 + (0 + vsV [nA10, nB10] nB10 0) = 1
  rw [h2]
/-- It leaves: one link. -/
theorem t_rem : remE [nA10, nB10] (bldV [nA10, nB10] 2) 2 1 = 0 ∧ remN (bldV [nA10, nB10] 2) 2 1 = 1 ∧ wout [nA10, nB10] [2] = [nA10] := by
  refine ⟨rem_ok t_ok2 (m := 1) (by omega) (by decide), ?_, rfl⟩
  rw [t_bld2]
  rfl
end
section
open Go.RowKit

/-! links as a function of numbers and levels -/
def cnF (f : Int → Nat → Lk) (a b : Int) (t : Nat) : Int → Nat → Lk := fun j u => if u = t then ⟨if j = b then a else (f j u).left, if j = a then b else (f j u).right⟩ else f j u
/-- x between two neighbours. -/
def enF (f : Int → Nat → Lk) (x : Int) (y : Lk) (t : Nat) : Int → Nat → Lk := cnF (cnF f y.left x t) x y.right t
/-- Below the level p those of g. -/
def upF (g f : Int → Nat → Lk) (p : Nat) : Int → Nat → Lk := fun j u => if u < p then g j u else f j u
def lsF (ids : List Int) (M : Nat) (f : Int → Nat → Lk) : List Ld := ids.map fun i => ⟨i, (List.range M).map (f i)⟩
def nbF (l : List Nd) : Int → Nat → Lk := fun j u => nbL l j (u : Int)
def idsX (l : List Nd) : List Int := (srt l).map Nd.id
theorem upF_zero (g f : Int → Nat → Lk) : upF g f 0 = f := by funext j u; simp [upF]
theorem lsF_len (ids : List Int) (M : Nat) (f : Int → Nat → Lk) : (lsF ids M f).length = ids.length := by simp [lsF]
theorem lsF_at {ids : List Int} {M : Nat} {f : Int → Nat → Lk} {i : Nat} (h : i < (lsF ids M f).length) : (lsF ids M f)[i] = ⟨ids[i]'(by rwa [lsF_len] at h), (List.range M).map (f (ids[i]'(by rwa [lsF_len] at h)))⟩ := by
  simp [lsF]
theorem lsF_congr {ids : List Int} {M : Nat} {f g : Int → Nat → Lk} (h : ∀ i ∈ ids, ∀ t, t < M → f i t = g i t) : lsF ids M f = lsF ids M g := by
  unfold lsF
  refine List.map_congr_left fun i hi => ?_
  congr 1
  exact List.map_congr_left fun t ht => h i hi t (List.mem_range.1 ht)
theorem idsX_mem {l : List Nd} {i : Int} : i ∈ idsX l ↔ ∃ x ∈ l, x.id = i := by
  unfold idsX
  rw [List.mem_map]
  exact ⟨fun ⟨x, h, e⟩ => ⟨x, srt_mem.1 h, e⟩, fun ⟨x, h, e⟩ => ⟨x, srt_mem.2 h, e⟩⟩
theorem idsX_zero {l : List Nd} (hc : chkV l = 0) : (0 : Int) ∉ idsX l := fun h => by
  obtain ⟨x, hx, e⟩ := idsX_mem.1 h
  have := ros_ok hc hx
  omega
theorem idsX_nodup {l : List Nd} (hc : chkV l = 0) : (idsX l).Nodup := by
  unfold idsX
  rw [List.nodup_iff_pairwise_ne, List.pairwise_map]
  exact (srt_apart hc).imp fun h => h.1
theorem idsX_len (l : List Nd) : (idsX l).length = l.length := by
  unfold idsX
  rw [List.length_map, (srt_srt l).1.length_eq]
theorem ls_bld {l : List Nd} (hc : chkV l = 0) {M : Nat} (hM : M ≤ 17) : bldV l M = lsF (idsX l) M (nbF l) := by
  rw [bld_nb hc hM]
  unfold lsF idsX nbF
  rw [List.map_map]
  rfl
theorem ls_nrm (l : List Nd) (k : List Ld) (M : Nat) : nrmV l k M = lsF (idsX l) M (fun i t => atV k i (t : Int)) := by
  unfold nrmV lsF idsX
  rw [List.map_map]
  rfl
theorem nbF_none {l : List Nd} {j : Int} (h : ∀ x ∈ l, x.id ≠ j) (t : Nat) : nbF l j t = ⟨0, 0⟩ := by
  unfold nbF nbL
  rw [if_neg]
  unfold nbB
  have : ¬ plc l j < l.length := fun k => by
    obtain ⟨x, hx, e⟩ := plc_found.1 k
    exact h x hx e
  simp [this]
theorem at_bldA {l : List Nd} (hc : chkV l = 0) {M : Nat} (hM : M ≤ 17) (j : Int) {t : Nat} (ht : t < M) : atV (bldV l M) j (t : Int) = nbF l j t := by
  by_cases h : ∃ x ∈ l, x.id = j
  · obtain ⟨x, hx, rfl⟩ := h
    exact at_bld hc hM hx ht
  · have h' : ∀ x ∈ l, x.id ≠ j := fun x hx e => h ⟨x, hx, e⟩
    rw [nbF_none h']
    unfold atV
    have : (bldV l M).find? (fun x => decide (x.id = j)) = none := by
      rw [List.find?_eq_none]
      intro x hx
      have : x.id ∈ (bldV l M).map Ld.id := List.mem_map.2 ⟨x, hx, rfl⟩
      rw [bld_ids] at this
      obtain ⟨y, hy, e⟩ := List.mem_map.1 this
      simp only [decide_eq_true_eq]
      rw [← e]
      exact h' y (srt_mem.1 hy)
    rw [this]
/-- What is laid at first: the links as they were. -/
theorem nrm_old {l m : List Nd} (hc : chkV m = 0) {M : Nat} (hM : M ≤ 17) : nrmV l (bldV m M) M = lsF (idsX l) M (nbF m) := by
  rw [ls_nrm]
  exact lsF_congr fun i _ t ht => at_bldA hc hM i ht
/-! neighbours are mutual -/
theorem hd_not {L : List Nd} {i : Int} (h : ∀ y ∈ L, y.id ≠ i) (h0 : i ≠ 0) : hdId L ≠ i := by
  cases L with
  | nil => exact fun e => h0 e.symm
  | cons y L => exact h y (List.mem_cons_self ..)
theorem lst_not {L : List Nd} {i : Int} (h : ∀ y ∈ L, y.id ≠ i) (h0 : i ≠ 0) : lstId L ≠ i := by
  by_cases hL : L = []
  · subst hL; exact fun e => h0 e.symm
  · obtain ⟨z, hz, e⟩ := lst_mem hL
    rw [e]
    exact h z hz
theorem lst_is {p : Nd → Bool} {A B : List Nd} {z : Nd} (hA : ∀ y ∈ A, y.id ≠ z.id) (hB : ∀ y ∈ B, y.id ≠ z.id) (h0 : z.id ≠ 0) : lstId ((A ++ z :: B).filter p) = z.id ↔ p z = true ∧ B.filter p = [] := by
  rw [lst_ins]
  by_cases e : p z = true ∧ B.filter p = []
  · rw [if_pos e]; exact ⟨fun _ => e, fun _ => rfl⟩
  · rw [if_neg e]
    refine ⟨fun h => absurd h (lst_not (fun y hy => ?_) h0), fun h => absurd h e⟩
    rcases List.mem_append.1 (mflt hy) with h | h
    · exact hA y h
    · exact hB y h
theorem hd_is {p : Nd → Bool} {A B : List Nd} {z : Nd} (hA : ∀ y ∈ A, y.id ≠ z.id) (hB : ∀ y ∈ B, y.id ≠ z.id) (h0 : z.id ≠ 0) : hdId ((A ++ z :: B).filter p) = z.id ↔ p z = true ∧ A.filter p = [] := by
  rw [hd_ins]
  by_cases e : p z = true ∧ A.filter p = []
  · rw [if_pos e]; exact ⟨fun _ => e, fun _ => rfl⟩
  · rw [if_neg e]
    refine ⟨fun h => absurd h (hd_not (fun y hy => ?_) h0), fun h => absurd h e⟩
    rcases List.mem_append.1 (mflt hy) with h | h
    · exact hA y h
    · exact hB y h
theorem nb_split {l U V : List Nd} {x : Nd} {t : Nat} (hc : chkV l = 0) (hS : srt l = U ++ x :: V) (ht : t ≤ 16) : nbF l x.id t = lnkS t U x V := by
  have hx : x ∈ l := srt_mem.1 (by rw [hS]; simp)
  unfold nbF
  rw [(nb_in hc (h := (t : Int)) (by omega) (by omega) hx).2, lnk_split hS (srt_apart hc) (srt_wd hc) ht]
theorem ids_split {l U V : List Nd} {x : Nd} (hc : chkV l = 0) (hS : srt l = U ++ x :: V) : (∀ y ∈ U, y.id ≠ x.id) ∧ (∀ y ∈ V, y.id ≠ x.id) := by
  have ha := srt_apart hc
  rw [hS] at ha
  exact ⟨fun y hy => ((List.pairwise_append.1 ha).2.2 y hy x (by simp)).1, fun y hy e => ((List.pairwise_cons.1 (List.pairwise_append.1 ha).2.1).1 y hy).1 e.symm⟩
theorem nb_mutual {l : List Nd} (hc : chkV l = 0) {x z : Nd} (hx : x ∈ l) (hz : z ∈ l) {t : Nat} (ht : t ≤ 16) : (nbF l x.id t).right = z.id ↔ (nbF l z.id t).left = x.id := by
  have hx0 : x.id ≠ 0 := by have := ros_ok hc hx; omega
  have hz0 : z.id ≠ 0 := by have := ros_ok hc hz; omega
  obtain ⟨U, V, hS⟩ := List.append_of_mem (srt_mem.2 hx)
  obtain ⟨h1, h2⟩ := ids_split hc hS
  have hzS := srt_mem.2 hz
  rw [hS] at hzS
  have hm : z ∈ U ∨ z = x ∨ z ∈ V := by simpa using hzS
  rcases hm with hm | rfl | hm
  · -- z is on the left: both fail
    obtain ⟨A, B, rfl⟩ := List.append_of_mem hm
    have hS2 : srt l = A ++ z :: (B ++ x :: V) := by rw [hS]; simp
    obtain ⟨g1, g2⟩ := ids_split hc hS2
    rw [nb_split hc hS ht, nb_split hc hS2 ht]
    refine ⟨fun e => absurd e (hd_not (fun y hy => g2 y (by have := mflt hy; simp [this])) hz0), fun e => absurd e (lst_not (fun y hy => h1 y (by have := mflt hy; simp [this])) hx0)⟩
  · rw [nb_split hc hS ht]
    exact ⟨fun e => absurd e (hd_not (fun y hy => h2 y (mflt hy)) hz0), fun e => absurd e (lst_not (fun y hy => h1 y (mflt hy)) hz0)⟩
  · obtain ⟨A, B, rfl⟩ := List.append_of_mem hm
    have hS2 : srt l = (U ++ x :: A) ++ z :: B := by rw [hS]; simp
    obtain ⟨g1, g2⟩ := ids_split hc hS2
    rw [nb_split hc hS ht, nb_split hc hS2 ht]
    unfold lnkS
    dsimp only
    rw [hd_is (fun y hy => g1 y (by simp [hy])) g2 hz0, lst_is h1 (fun y hy => h2 y (by simp [hy])) hx0, smB_comm t z x]
    by_cases e : smB t x z = true
    · rw [smB_fun e]
    · simp [e]
/-- A node's links with one beside it and without. -/
theorem nb_out {l : List Nd} (hc : chkV l = 0) {x z : Nd} (hx : x ∈ l) (hz : z ∈ wout l [x.id]) {t : Nat} (ht : t ≤ 16) :
    nbF l z.id t = ⟨if z.id = (nbF l x.id t).right then x.id else (nbF (wout l [x.id]) z.id t).left, if z.id = (nbF l x.id t).left then x.id else (nbF (wout l [x.id]) z.id t).right⟩ ∧
    nbF (wout l [x.id]) z.id t = ⟨if z.id = (nbF l x.id t).right then (nbF l x.id t).left else (nbF l z.id t).left, if z.id = (nbF l x.id t).left then (nbF l x.id t).right else (nbF l z.id t).right⟩ := by
  have hzl : z ∈ l := (wo_sub l [x.id]).subset hz
  obtain ⟨h1, h2, h3, h4⟩ := local_of hc (h := (t : Int)) (by omega) (by omega) hx hz
  have m1 := nb_mutual hc hx hzl ht
  have m2 := nb_mutual hc hzl hx ht
  unfold nbF at *
  generalize nbL l z.id (t : Int) = a at *
  generalize nbL l x.id (t : Int) = b at *
  generalize nbL (wout l [x.id]) z.id (t : Int) = c at *
  obtain ⟨al, ar⟩ := a
  obtain ⟨bl, br⟩ := b
  obtain ⟨cl, cr⟩ := c
  simp only at *
  refine ⟨?_, ?_⟩
  · congr 1
    · by_cases e : z.id = br
      · rw [if_pos e]; exact m1.1 e.symm
      · rw [if_neg e]; exact h1.resolve_right fun k => e (m1.2 k).symm
    · by_cases e : z.id = bl
      · rw [if_pos e]; exact m2.2 e.symm
      · rw [if_neg e]; exact h2.resolve_right fun k => e (m2.1 k).symm
  · congr 1
    · by_cases e : z.id = br
      · rw [if_pos e]; exact h3 (m1.1 e.symm)
      · rw [if_neg e]; exact (h1.resolve_right fun k => e (m1.2 k).symm).symm
    · by_cases e : z.id = bl
      · rw [if_pos e]; exact h4 (m2.2 e.symm)
      · rw [if_neg e]; exact (h2.resolve_right fun k => e (m2.1 k).symm).symm
theorem nb_nex {l : List Nd} (hc : chkV l = 0) {x : Nd} (hx : x ∈ l) {t : Nat} (ht : t ≤ 16) : (nbF l x.id t).left ≠ x.id ∧ (nbF l x.id t).right ≠ x.id := by
  have hx0 : x.id ≠ 0 := by have := ros_ok hc hx; omega
  obtain ⟨U, V, hS⟩ := List.append_of_mem (srt_mem.2 hx)
  obtain ⟨h1, h2⟩ := ids_split hc hS
  rw [nb_split hc hS ht]
  exact ⟨lst_not (fun y hy => h1 y (mflt hy)) hx0, hd_not (fun y hy => h2 y (mflt hy)) hx0⟩
/-- A neighbour is 0 or a node. -/
theorem nb_has {l : List Nd} (hc : chkV l = 0) {x : Nd} (hx : x ∈ l) {t : Nat} (ht : t ≤ 16) : ((nbF l x.id t).left = 0 ∨ (nbF l x.id t).left ∈ idsX l) ∧ ((nbF l x.id t).right = 0 ∨ (nbF l x.id t).right ∈ idsX l) := by
  obtain ⟨U, V, hS⟩ := List.append_of_mem (srt_mem.2 hx)
  rw [nb_split hc hS ht]
  unfold lnkS
  dsimp only
  constructor
  · by_cases e : U.filter (smB t x) = []
    · left; rw [e]; rfl
    · right
      obtain ⟨z, hz, k⟩ := lst_mem e
      rw [k]
      exact idsX_mem.2 ⟨z, srt_mem.1 (by rw [hS]; simp [mflt hz]), rfl⟩
  · by_cases e : V.filter (smB t x) = []
    · left; rw [e]; rfl
    · right
      obtain ⟨z, hz, k⟩ := hd_mem e
      rw [k]
      exact idsX_mem.2 ⟨z, srt_mem.1 (by rw [hS]; simp [mflt hz]), rfl⟩
theorem wout_join {l : List Nd} {x : Nd} (hc : chkV (l ++ [x]) = 0) : wout (l ++ [x]) [x.id] = l := by
  have h3 := (chkV_zero.1 hc).2.2
  unfold wout
  rw [List.filter_append]
  have e1 : l.filter (fun y => !([x.id].contains y.id)) = l := List.filter_eq_self.2 fun y hy => by
    have := ((List.pairwise_append.1 h3).2.2 y hy x (by simp)).1
    simpa using this
  rw [e1]
  simp
/-- One level of a node that joins. -/
theorem join_lev {l : List Nd} {x : Nd} (hc : chkV (l ++ [x]) = 0) {t : Nat} (ht : t ≤ 16) {j : Int} (hj : j ∈ idsX (l ++ [x])) (u : Nat) : enF (upF (nbF (l ++ [x])) (nbF l) t) x.id (nbF (l ++ [x]) x.id t) t j u = upF (nbF (l ++ [x])) (nbF l) (t + 1) j u := by
  have hw := wout_join hc
  have hx : x ∈ l ++ [x] := by simp
  have hn := nb_nex hc hx ht
  unfold enF cnF upF
  by_cases hu : u = t
  · subst hu
    simp only [if_true, Nat.lt_irrefl, if_false, Nat.lt_succ_self]
    obtain ⟨z, hz, rfl⟩ := idsX_mem.1 hj
    rcases List.mem_append.1 hz with hz | hz
    · have hzx : z.id ≠ x.id := ((List.pairwise_append.1 (chkV_zero.1 hc).2.2).2.2 z hz x (by simp)).1
      have h := (nb_out hc hx (z := z) (by rw [hw]; exact hz) ht).1
      rw [hw] at h
      rw [h]
      congr 1
      · simp only [if_neg hzx]
      · rw [if_neg hzx]
    · obtain rfl : z = x := by simpa using hz
      generalize nbF (l ++ [z]) z.id u = y at *
      obtain ⟨yl, yr⟩ := y
      simp only at hn ⊢
      congr 1
      · rw [if_neg (Ne.symm hn.2), if_pos trivial]
  · by_cases h1 : u < t
    · rw [if_neg hu, if_neg hu, if_pos h1, if_pos (by omega)]
    · rw [if_neg hu, if_neg hu, if_neg h1, if_neg (by omega)]
/-- One level of a node that leaves. -/
theorem leave_lev {l : List Nd} {x : Nd} (hc : chkV l = 0) (hx : x ∈ l) {t : Nat} (ht : t ≤ 16) {j : Int} (hj : j ∈ idsX (wout l [x.id])) (u : Nat) : cnF (upF (nbF (wout l [x.id])) (nbF l) t) (nbF l x.id t).left (nbF l x.id t).right t j u = upF (nbF (wout l [x.id])) (nbF l) (t + 1) j u := by
  unfold cnF upF
  by_cases hu : u = t
  · subst hu
    simp only [if_true, Nat.lt_irrefl, if_false, Nat.lt_succ_self]
    obtain ⟨z, hz, rfl⟩ := idsX_mem.1 hj
    rw [(nb_out hc hx hz ht).2]
  · by_cases h1 : u < t
    · rw [if_neg hu, if_pos h1, if_pos (by omega)]
    · rw [if_neg hu, if_neg h1, if_neg (by omega)]
/-! chains to a side -/
def Chn10 (nx : Int → Int) : Int → List Nd → Prop
  | v, [] => v = 0
  | v, y :: L => v = y.id ∧ y.id ≠ 0 ∧ Chn10 nx (nx y.id) L
theorem chn_left {l : List Nd} (hc : chkV l = 0) {x : Nd} {t : Nat} (ht : t ≤ 16) : ∀ (n : Nat) (U W : List Nd), U.length = n → srt l = U ++ W → Chn10 (fun j => (nbF l j t).left) (lstId (U.filter (smB t x))) (U.filter (smB t x)).reverse
  | 0, U, W, hn, hS => by
    obtain rfl := List.eq_nil_of_length_eq_zero hn
    rfl
  | n + 1, U, W, hn, hS => by
    have hne : U ≠ [] := by rintro rfl; simp at hn
    have e := (List.dropLast_concat_getLast hne).symm
    generalize U.dropLast = A at e
    generalize U.getLast hne = y at e
    subst e
    have hS2 : srt l = A ++ y :: W := by rw [hS]; simp
    have ih := chn_left hc (x := x) ht n A (y :: W) (by simpa using hn) hS2
    have hy : y ∈ l := srt_mem.1 (by rw [hS2]; simp)
    rw [List.filter_append]
    by_cases hp : smB t x y = true
    · have e1 : [y].filter (smB t x) = [y] := by simp [hp]
      rw [e1, List.reverse_append]
      have e2 : lstId (A.filter (smB t x) ++ [y]) = y.id := by unfold lstId; simp
      refine ⟨e2, by have := ros_ok hc hy; omega, ?_⟩
      show Chn10 _ (nbF l y.id t).left _
      rw [nb_split hc hS2 ht]
      unfold lnkS
      rw [smB_fun hp]
      exact ih
    · have e1 : [y].filter (smB t x) = [] := by simp [hp]
      rw [e1, List.append_nil]
      exact ih
theorem chn_right {l : List Nd} (hc : chkV l = 0) {x : Nd} {t : Nat} (ht : t ≤ 16) : ∀ (V W : List Nd), srt l = W ++ V → Chn10 (fun j => (nbF l j t).right) (hdId (V.filter (smB t x))) (V.filter (smB t x))
  | [], W, hS => rfl
  | y :: V, W, hS => by
    have ih := chn_right hc (x := x) ht V (W ++ [y]) (by rw [hS]; simp)
    have hy : y ∈ l := srt_mem.1 (by rw [hS]; simp)
    by_cases hp : smB t x y = true
    · rw [List.filter_cons_of_pos hp]
      refine ⟨rfl, by have := ros_ok hc hy; omega, ?_⟩
      show Chn10 _ (nbF l y.id t).right _
      rw [nb_split hc hS ht]
      unfold lnkS
      rw [smB_fun hp]
      exact ih
    · rw [List.filter_cons_of_neg hp]
      exact ih
theorem Chn10.congr {nx nx' : Int → Int} : ∀ {v : Int} {L : List Nd}, (∀ y ∈ L, nx y.id = nx' y.id) → Chn10 nx v L → Chn10 nx' v L
  | _, [], _, h => h
  | _, y :: L, k, ⟨h1, h2, h3⟩ => ⟨h1, h2, by rw [← k y (List.mem_cons_self ..)]; exact Chn10.congr (fun z hz => k z (List.mem_cons_of_mem _ hz)) h3⟩
/-- What a search to a side finds: the number of the first that p holds of. -/
def fdI (p : Nd → Bool) (L : List Nd) : Int := ((L.find? p).map Nd.id).getD 0
theorem climb_is {l U V : List Nd} {x : Nd} (hc : chkV l = 0) (hS : srt l = U ++ x :: V) {t : Nat} (ht : t < 16) : nbF l x.id (t + 1) = ⟨fdI (bsB t x) (U.filter (smB t x)).reverse, fdI (bsB t x) (V.filter (smB t x))⟩ := by
  rw [nb_split hc hS (by omega)]
  unfold lnkS lstId hdId fdI
  rw [nb_left ht, nb_right ht]
/-- The neighbours at level 0, beside the owner of the key. -/
theorem beside_is {l : List Nd} {x : Nd} (hc : chkV (l ++ [x]) = 0) (h0 : l ≠ []) : (ownV (srt l) x.key) ∈ l ∧ nbF (l ++ [x]) x.id 0 = if kl x.key (ownV (srt l) x.key).key = true then ⟨0, (ownV (srt l) x.key).id⟩ else ⟨(ownV (srt l) x.key).id, (nbF l (ownV (srt l) x.key).id 0).right⟩ := by
  have hl : chkV l = 0 := chk_sub hc (List.sublist_append_left _ _)
  obtain ⟨U, V, hS, hS2⟩ := srt_join hc
  have hasc : Asc (U ++ x :: V) := by rw [← hS2]; exact (ros_of hc).asc
  have hU : ∀ y ∈ U, kl y.key x.key = true := fun y hy => (List.pairwise_append.1 hasc).2.2 y hy x (by simp)
  have hV : ∀ y ∈ V, kl x.key y.key = true := fun y hy => (List.pairwise_cons.1 (List.pairwise_append.1 hasc).2.1).1 y hy
  have hab : abv (srt l) x.key = U.length := by
    refine abv_uniq (by rw [hS]; simp) (fun j hj h => ?_) (fun j hj h => ?_)
    · have e : (srt l)[j] = U[j] := by simp only [hS]; exact List.getElem_append_left h
      rw [e]
      exact kl_asymm (hU _ (List.getElem_mem h))
    · have hj2 : j < (U ++ V).length := by rw [← hS]; exact hj
      have e : (srt l)[j] = V[j - U.length]'(by rw [List.length_append] at hj2; omega) := by simp only [hS]; exact List.getElem_append_right h
      rw [e]
      exact hV _ (List.getElem_mem _)
  have hf : ∀ L : List Nd, L.filter (smB 0 x) = L := fun L => List.filter_eq_self.2 fun y _ => by simp [smB, lowK, Nat.mod_one]
  rw [nb_split hc hS2 (by omega)]
  unfold lnkS
  rw [hf, hf]
  unfold ownV
  rw [hab, hS]
  by_cases hn : U = []
  · subst hn
    have hv : V ≠ [] := by
      rintro rfl
      refine h0 (List.eq_nil_of_length_eq_zero ?_)
      rw [← (srt_srt l).1.length_eq, hS]
      rfl
    obtain ⟨y, L, rfl⟩ := List.exists_cons_of_ne_nil hv
    simp only [List.length_nil, Nat.zero_sub, List.nil_append, List.getElem?_cons_zero, Option.getD_some]
    rw [if_pos (hV y (by simp))]
    exact ⟨srt_mem.1 (by rw [hS]; simp), rfl⟩
  · obtain ⟨A, y, rfl⟩ : ∃ A y, U = A ++ [y] := ⟨_, _, (List.dropLast_concat_getLast hn).symm⟩
    have e : ((A ++ [y]) ++ V)[(A ++ [y]).length - 1]? = some y := by
      rw [List.append_assoc, List.getElem?_append_right (by simp)]
      simp
    rw [e, Option.getD_some, if_neg (by rw [kl_asymm (hU y (by simp))]; simp)]
    have hS3 : srt l = A ++ y :: V := by rw [hS]; simp
    have hy : y ∈ l := srt_mem.1 (by rw [hS3]; simp)
    refine ⟨hy, ?_⟩
    rw [nb_split hl hS3 (by omega)]
    unfold lnkS
    have hf2 : ∀ L : List Nd, L.filter (smB 0 y) = L := fun L => List.filter_eq_self.2 fun z _ => by simp [smB, lowK, Nat.mod_one]
    rw [hf2, hf2]
    congr 1
    unfold lstId
    simp
end
end Go.Proofs.YtjokbdhineilcaaGreatDoor
