/-
  The parts that a map labels: numbers to the place of their part. No condition.
-/
import Derived.Test.YteepijefbdbhoaaGreatDoorLpA
namespace Go.Proofs.YteepijefbdbhoaaGreatDoor
open Go.RowKit

open Go.Maps

/-- The part in which a number stands, counted from one; 0 where there is none. -/
def labN (ps : List (List Int)) (x : Int) : Int := match ps.findIdx? (fun p => decide (x ∈ p)) with
  | some j => (j : Int) + 1
  | none => 0
def labO (ps : List (List Int)) (x : Int) : Option Value := (ps.findIdx? (fun p => decide (x ∈ p))).map fun j => .int .i64 ((j : Int) + 1)
theorem labO_get (ps : List (List Int)) (x : Int) : (labO ps x).getD (.int .i64 0) = .int .i64 (labN ps x) := by
  unfold labO labN
  cases ps.findIdx? (fun p => decide (x ∈ p)) <;> rfl
theorem idx_app_nil (ps : List (List Int)) (x : Int) : (ps ++ [[]]).findIdx? (fun p => decide (x ∈ p)) = ps.findIdx? (fun p => decide (x ∈ p)) := by
  rw [List.findIdx?_append]
  simp
theorem labO_nil (ps : List (List Int)) (x : Int) : labO (ps ++ [[]]) x = labO ps x := by
  unfold labO
  rw [idx_app_nil]
theorem idx_none {ps : List (List Int)} {x : Int} : ps.findIdx? (fun p => decide (x ∈ p)) = none ↔ x ∉ ps.flatten := by
  rw [List.findIdx?_eq_none_iff, List.mem_flatten]
  constructor
  · rintro h ⟨p, hp, hx⟩
    have := h p hp
    simp [hx] at this
  · intro h p hp
    simp only [decide_eq_false_iff_not]
    exact fun hx => h ⟨p, hp, hx⟩
theorem labN_no {ps : List (List Int)} {x : Int} (h : x ∉ ps.flatten) : labN ps x = 0 := by
  unfold labN
  rw [idx_none.2 h]
theorem labN_yes {ps : List (List Int)} {x : Int} (h : x ∈ ps.flatten) : labN ps x ≠ 0 := by
  unfold labN
  cases e : ps.findIdx? (fun p => decide (x ∈ p)) with
  | none => exact absurd h (idx_none.1 e)
  | some j => simp only; omega
theorem labO_some {ps : List (List Int)} {x : Int} (h : x ∈ ps.flatten) : (labO ps x).isSome = true := by
  unfold labO
  cases e : ps.findIdx? (fun p => decide (x ∈ p)) with
  | none => exact absurd h (idx_none.1 e)
  | some j => rfl
theorem labN_same {ps : List (List Int)} {x y : Int} (h : ∀ p ∈ ps, x ∈ p ↔ y ∈ p) : labN ps x = labN ps y := by
  have e : ps.findIdx? (fun p => decide (x ∈ p)) = ps.findIdx? (fun p => decide (y ∈ p)) := by
    induction ps with
    | nil => rfl
    | cons p ps ih =>
      rw [List.findIdx?_cons, List.findIdx?_cons, ih fun q hq => h q (List.mem_cons_of_mem _ hq), decide_eq_decide.2 (h p List.mem_cons_self)]
  unfold labN
  rw [e]
/-- One number more in the last part. -/
theorem labO_push {q : List (List Int)} {r : List Int} {x : Int} (h1 : x ∉ q.flatten) : ∀ y, updV (labO (q ++ [r])) x (.int .i64 ((q.length : Int) + 1)) y = labO (q ++ [r ++ [x]]) y := by
  intro y
  unfold updV labO
  rw [List.findIdx?_append, List.findIdx?_append]
  by_cases e : y = x
  · subst e
    rw [if_pos rfl, idx_none.2 h1]
    simp
  · rw [if_neg e]
    congr 2
    simp [e]
theorem len_of_sub {α : Type} : ∀ (a b : List α), a.Nodup → a ⊆ b → a.length ≤ b.length
  | [], _, _, _ => Nat.zero_le _
  | x :: a, b, hd, hs => by
    classical
    have hx : x ∈ b := hs List.mem_cons_self
    have h1 := len_of_sub a (b.erase x) (List.nodup_cons.1 hd).2 fun y hy => by
      have hne : y ≠ x := fun e => (List.nodup_cons.1 hd).1 (e ▸ hy)
      exact (List.mem_erase_of_ne hne).2 (hs (List.mem_cons_of_mem _ hy))
    rw [List.length_erase_of_mem hx] at h1
    have := List.length_pos_of_mem hx
    rw [List.length_cons]
    omega
/-- The entries of a map that have numbers of a list: as many at least. -/
theorem VMap.len {w : World} {b n : Nat} {z : Value} {f : Int → Option Value} (h : VMap w b n z f) {t e : TypeId} (ht : Tryz.prog.underlying t = some (.map 3 e)) (ids : List Int) (hd : ids.Nodup) (hi : ∀ i ∈ ids, (-9223372036854775808 ≤ i ∧ i ≤ 9223372036854775807) ∧ (f i).isSome = true) :
    ∃ s : Nat, ids.length ≤ s ∧ s ≤ n ∧ ∀ ty, (Builtin.len_ #[t] ty #[.map (some b)]).run Tryz.prog w = .ok (.int .i64 (s : Int)) w := by
  obtain ⟨D, h1, h2⟩ := h
  refine ⟨Maps.size D, ?_, h1.size_le, fun ty => h1.len ht ty⟩
  obtain ⟨es, rfl⟩ := h1.isMap
  rw [size_eq]
  have hsub : ids.map (fun i => (Lit.int .i64 i)) ⊆ es.map Prod.fst := by
    intro k hk
    obtain ⟨i, hi1, rfl⟩ := List.mem_map.1 hk
    obtain ⟨⟨a1, a2⟩, a3⟩ := hi i hi1
    have := (h2 i a1 a2).1
    rw [a3, has_eq, List.any_eq_true] at this
    obtain ⟨p, hp, hs⟩ := this
    refine List.mem_map.2 ⟨p, hp, ?_⟩
    obtain ⟨p1, p2⟩ := p
    by_cases e : p1 = .int .i64 i
    · exact e
    · rw [sameKey_ne e] at hs; cases hs
  have hnd : (ids.map (fun i => (Lit.int .i64 i))).Nodup := List.Pairwise.map _ (fun a b hab => fun e => hab (by injection e)) hd
  have := len_of_sub _ _ hnd hsub
  simpa using this
theorem flat_split {ps : List (List Int)} {i j : Nat} (hi : i < ps.length) (hj : j < ps[i].length) : ps.flatten = (ps.take i).flatten ++ (ps[i].take j ++ ps[i][j] :: (ps[i].drop (j + 1) ++ (ps.drop (i + 1)).flatten)) := by
  have e1 : ps = ps.take i ++ ps[i] :: ps.drop (i + 1) := by simp
  have e2 : ps[i] = ps[i].take j ++ ps[i][j] :: ps[i].drop (j + 1) := by simp
  calc ps.flatten = (ps.take i ++ ps[i] :: ps.drop (i + 1)).flatten := by rw [← e1]
    _ = (ps.take i).flatten ++ (ps[i] ++ (ps.drop (i + 1)).flatten) := by rw [List.flatten_append, List.flatten_cons]
    _ = _ := by
      congr 1
      generalize (ps.drop (i + 1)).flatten = t
      have e3 : ps[i] ++ t = (ps[i].take j ++ ps[i][j] :: ps[i].drop (j + 1)) ++ t := by rw [← e2]
      rw [e3, List.append_assoc, List.cons_append]
theorem parts_at {ps : List (List Int)} (hd : ps.flatten.Nodup) {i j : Nat} (hi : i < ps.length) (hj : j < ps[i].length) :
    ps[i][j] ∈ ps.flatten ∧ labN (ps.take i ++ [ps[i].take j]) ps[i][j] = 0 ∧ (∀ y, updV (labO (ps.take i ++ [ps[i].take j])) ps[i][j] (.int .i64 ((i : Int) + 1)) y = labO (ps.take i ++ [ps[i].take (j + 1)]) y) ∧ (ps.take i).flatten.length + j < ps.flatten.length := by
  have e := flat_split hi hj
  rw [e] at hd
  have h1 := List.nodup_append.1 hd
  have h2 := List.nodup_append.1 h1.2.1
  have hq : ps[i][j] ∉ (ps.take i).flatten := fun h => h1.2.2 _ h _ (by simp) rfl
  have hr : ps[i][j] ∉ ps[i].take j := fun h => h2.2.2 _ h _ (by simp) rfl
  have hl : (ps.take i).length = i := by rw [List.length_take]; omega
  refine ⟨by rw [e]; simp, labN_no ?_, fun y => ?_, ?_⟩
  · rw [List.flatten_append, List.mem_append]
    rintro (h | h)
    · exact hq h
    · simp at h; exact hr (by simpa using h)
  · have := labO_push (r := ps[i].take j) hq y
    rw [hl] at this
    rw [this, List.take_succ_eq_append_getElem hj]
  · rw [e]
    simp only [List.length_append, List.length_cons, List.length_take]
    omega
theorem parts_end {ps : List (List Int)} {i : Nat} (hi : i < ps.length) : ps.take i ++ [ps[i].take ps[i].length] = ps.take (i + 1) ∧ (ps.take i).flatten.length + ps[i].length = (ps.take (i + 1)).flatten.length := by
  refine ⟨by rw [List.take_length, List.take_succ_eq_append_getElem hi], ?_⟩
  rw [List.take_succ_eq_append_getElem hi, List.flatten_append, List.length_append, List.flatten_singleton]
/-- What InspectParts asks of the components of a level. -/
theorem parts_plain {l : List Nd} {ks : List Ld} (hc : chkV l = 0) {h : Int} (hh : lvB h = true) : (cmpV l ks h).flatten.Nodup ∧ (cmpV l ks h).flatten.length = l.length ∧ (idsV l).Nodup ∧ (idsV l).length = l.length ∧ (∀ x, x ∈ (cmpV l ks h).flatten ↔ x ∈ idsV l) ∧
    ∀ x ∈ l, labN (cmpV l ks h) x.id ≠ 0 ∧ (labN (cmpV l ks h) (atV ks x.id h).left = 0 ∨ labN (cmpV l ks h) (atV ks x.id h).left = labN (cmpV l ks h) x.id) ∧ (labN (cmpV l ks h) (atV ks x.id h).right = 0 ∨ labN (cmpV l ks h) (atV ks x.id h).right = labN (cmpV l ks h) x.id) := by
  have hpm : (cmpV l ks h).flatten.Perm (idsV l) := by
    unfold cmpV
    rw [if_pos ⟨hc, hh⟩]
    exact jnd_perm (ids_nodup hc)
  have hnd := ids_nodup hc
  have hln : (idsV l).length = l.length := by unfold idsV; rw [List.length_map, (srt_srt l).1.length_eq]
  have hone : ∀ x ∈ l, ∀ y, (y = (atV ks x.id h).left ∨ y = (atV ks x.id h).right) → labN (cmpV l ks h) y = 0 ∨ labN (cmpV l ks h) y = labN (cmpV l ks h) x.id := fun x hx y hy => by
    by_cases hm : y ∈ idsV l
    · exact .inr (labN_same fun p hp => (cmp_link hc hh hp hx hm hy).symm)
    · exact .inl (labN_no fun e => hm (hpm.mem_iff.1 e))
  exact ⟨hpm.nodup_iff.2 hnd, by rw [hpm.length_eq, hln], hnd, hln, fun x => hpm.mem_iff, fun x hx => ⟨labN_yes (hpm.mem_iff.2 (ids_mem.2 ⟨x, hx, rfl⟩)), hone x hx _ (.inl rfl), hone x hx _ (.inr rfl)⟩⟩
theorem cmp_small {l : List Nd} {ks : List Ld} {h : Int} (hn : l.length ≤ 64) : (cmpV l ks h).length ≤ 64 := by
  unfold cmpV
  split
  · unfold jnd prtF
    rw [List.length_map, List.length_map]
    refine Nat.le_trans (List.length_filter_le _ _) ?_
    rw [List.length_range]
    unfold idsV
    rw [List.length_map, (srt_srt l).1.length_eq]
    exact hn
  · exact Nat.zero_le _
end Go.Proofs.YteepijefbdbhoaaGreatDoor
