/-
  Plain facts on loading, merging and cutting: links by the nodes on both sides, what connecting the networks at each level gives, how many links it writes, a part of a network. No condition.
-/
import Derived.Test.YtjokbdhineilcaaGreatDoorLoA
namespace Go.Proofs.YtjokbdhineilcaaGreatDoor
open Go.RowKit

theorem mflt {α : Type} {p : α → Bool} {x : α} {l : List α} (h : x ∈ l.filter p) : x ∈ l := (List.mem_filter.1 h).1
/-- The number of the last node, and of the first one, of a list; 0 if it is empty. -/
def lstId (l : List Nd) : Int := (l.getLast?.map Nd.id).getD 0
def hdId (l : List Nd) : Int := (l.head?.map Nd.id).getD 0
/-- Nodes with the same lowest bits. -/
def smB (t : Nat) (x y : Nd) : Bool := decide (lowK t y = lowK t x)
theorem smB_self (t : Nat) (x : Nd) : smB t x x = true := by simp [smB]
/-- The links of a node in its list, by what lies on its sides. -/
def lnkS (t : Nat) (U : List Nd) (x : Nd) (V : List Nd) : Lk := ⟨lstId (U.filter (smB t x)), hdId (V.filter (smB t x))⟩
theorem plc_split {A B : List Nd} {x : Nd} (h : ∀ y ∈ A, y.id ≠ x.id) : plc (A ++ x :: B) x.id = A.length := by
  unfold plc
  rw [List.findIdx_append]
  have h1 : A.findIdx (fun y => y.id == x.id) = A.length := List.findIdx_eq_length.2 fun y hy => by simpa using h y hy
  rw [h1, if_neg (Nat.lt_irrefl _)]
  simp [List.findIdx_cons]
theorem lkAt_split (A B : List Nd) (x : Nd) : lkAt (A ++ x :: B) A.length = ⟨lstId A, hdId B⟩ := by
  unfold lkAt lstId hdId
  congr 1
  · by_cases h : A = []
    · subst h; rfl
    · have hl : 0 < A.length := List.length_pos_iff.2 h
      rw [if_neg (by omega), idAt_lt (by simp; omega), List.getElem_append_left (by omega), List.getLast?_eq_some_getLast h, List.getLast_eq_getElem]
      rfl
  · unfold idAt
    rw [List.getElem?_append_right (by omega), show A.length + 1 - A.length = 1 by omega, List.getElem?_cons_succ, List.head?_eq_getElem?]
/-- The lowest bits of the node at a place. -/
def btI (S : List Nd) (t p : Nat) : Nat := ((S[p]?).map (lowK t)).getD 0
theorem btI_at {S : List Nd} {t p : Nat} (h : p < S.length) : btI S t p = lowK t S[p] := by simp [btI, h]
/-- The place of the last node before p with these bits. -/
def lstI (S : List Nd) (t : Nat) : Nat → Nat → Option Nat
  | 0, _ => none
  | p + 1, b => if b = btI S t p then some p else lstI S t p b
theorem lstI_some {S : List Nd} {t b j : Nat} : ∀ {p : Nat}, lstI S t p b = some j ↔ j < p ∧ btI S t j = b ∧ ∀ k, j < k → k < p → btI S t k ≠ b
  | 0 => by simp [lstI]
  | p + 1 => by
    unfold lstI
    by_cases h : b = btI S t p
    · rw [if_pos h]
      constructor
      · intro e
        injection e with e
        subst e
        exact ⟨Nat.lt_succ_self _, h.symm, fun k h1 h2 => by omega⟩
      · rintro ⟨h1, h2, h3⟩
        by_cases e : j = p
        · rw [e]
        · exact absurd h.symm (h3 p (by omega) (by omega))
    · rw [if_neg h, lstI_some]
      constructor
      · rintro ⟨h1, h2, h3⟩
        refine ⟨by omega, h2, fun k k1 k2 => ?_⟩
        by_cases e : k = p
        · rw [e]; exact Ne.symm h
        · exact h3 k k1 (by omega)
      · rintro ⟨h1, h2, h3⟩
        refine ⟨?_, h2, fun k k1 k2 => h3 k k1 (by omega)⟩
        by_cases e : j = p
        · rw [e] at h2; exact absurd h2.symm h
        · omega
theorem lstI_elt {S : List Nd} {t b : Nat} : ∀ {p : Nat}, p ≤ S.length → ((S.take p).filter fun y => decide (lowK t y = b)).getLast? = (lstI S t p b).bind fun j => S[j]?
  | 0, _ => by simp [lstI]
  | p + 1, h => by
    have hp : p < S.length := h
    rw [List.take_succ_eq_append_getElem hp, List.filter_append]
    unfold lstI
    by_cases e : b = btI S t p
    · rw [if_pos e]
      have : lowK t S[p] = b := by rw [e, btI_at hp]
      simp [this, hp]
    · rw [if_neg e]
      have : ¬ lowK t S[p] = b := by rw [← btI_at hp]; exact Ne.symm e
      rw [show [S[p]].filter (fun y => decide (lowK t y = b)) = [] by simp [this], List.append_nil]
      exact lstI_elt (by omega)
theorem lstI_last {S : List Nd} {t b p : Nat} (hp : p ≤ S.length) : ((S.take p).filter fun y => decide (lowK t y = b)).getLast?.map Nd.id = (lstI S t p b).map fun j => idAt S j := by
  rw [lstI_elt hp]
  cases h : lstI S t p b with
  | none => rfl
  | some j =>
    have := (lstI_some.1 h).1
    simp [idAt, show j < S.length by omega]
/-- The place of the next node with the same bits; past the end, if there is none. -/
def nxtI (S : List Nd) (t i : Nat) : Nat := i + 1 + (S.drop (i + 1)).findIdx fun y => decide (lowK t y = btI S t i)
theorem nxtI_le {S : List Nd} {t i : Nat} (h : i < S.length) : nxtI S t i ≤ S.length := by
  unfold nxtI
  have := List.findIdx_le_length (xs := S.drop (i + 1)) (p := fun y => decide (lowK t y = btI S t i))
  rw [List.length_drop] at this
  omega
theorem nxtI_no {S : List Nd} {t i k : Nat} (h1 : i < k) (h2 : k < nxtI S t i) (hk : k < S.length) : btI S t k ≠ btI S t i := by
  have h3 : k - (i + 1) < (S.drop (i + 1)).findIdx fun y => decide (lowK t y = btI S t i) := by unfold nxtI at h2; omega
  have h4 := List.not_of_lt_findIdx h3
  rw [btI_at hk]
  have h5 : (S.drop (i + 1))[k - (i + 1)]'(by rw [List.length_drop]; omega) = S[k] := by
    rw [List.getElem_drop]; congr 1; omega
  simpa [h5] using h4
theorem nxtI_at {S : List Nd} {t i : Nat} (h : nxtI S t i < S.length) : btI S t (nxtI S t i) = btI S t i := by
  rw [btI_at h]
  have h3 : (S.drop (i + 1)).findIdx (fun y => decide (lowK t y = btI S t i)) < (S.drop (i + 1)).length := by unfold nxtI at h; rw [List.length_drop]; omega
  have h4 := List.findIdx_getElem (w := h3)
  rw [List.getElem_drop] at h4
  exact of_decide_eq_true h4
theorem nxt_prv {S : List Nd} {t i p : Nat} (hp : p < S.length) : lstI S t p (btI S t p) = some i ↔ i < p ∧ nxtI S t i = p := by
  rw [lstI_some]
  constructor
  · rintro ⟨h1, h2, h3⟩
    refine ⟨h1, ?_⟩
    rcases Nat.lt_trichotomy (nxtI S t i) p with h | h | h
    · have hi : i < nxtI S t i := by unfold nxtI; omega
      exact absurd ((nxtI_at (by omega)).trans h2) (h3 _ hi h)
    · exact h
    · exact absurd h2.symm (nxtI_no h1 h hp)
  · rintro ⟨h1, h2⟩
    refine ⟨h1, ?_, fun k k1 k2 => ?_⟩
    · have := nxtI_at (S := S) (t := t) (i := i) (by omega)
      rw [h2] at this
      exact this.symm
    · have h4 := nxtI_no k1 (by omega : k < nxtI S t i) (by omega)
      have := nxtI_at (S := S) (t := t) (i := i) (by omega)
      rw [h2] at this
      rw [this]
      exact h4
theorem nxt_elt {S : List Nd} {t i : Nat} : ((S.drop (i + 1)).filter fun y => decide (lowK t y = btI S t i)).head? = S[nxtI S t i]? := by
  unfold nxtI
  rw [List.head?_filter]
  by_cases hh : (S.drop (i + 1)).findIdx (fun y => decide (lowK t y = btI S t i)) < (S.drop (i + 1)).length
  · rw [← List.getElem?_drop, List.getElem?_eq_getElem hh]
    have h4 := List.findIdx_getElem (w := hh)
    rw [List.find?_eq_some_iff_getElem]
    exact ⟨h4, _, hh, rfl, fun j hj => by have := List.not_of_lt_findIdx hj; simpa using this⟩
  · have h5 : (S.drop (i + 1)).findIdx (fun y => decide (lowK t y = btI S t i)) = (S.drop (i + 1)).length := by
      have := List.findIdx_le_length (xs := S.drop (i + 1)) (p := fun y => decide (lowK t y = btI S t i))
      omega
    rw [List.getElem?_eq_none (by rw [h5, List.length_drop]; omega)]
    rw [List.find?_eq_none]
    intro x hx
    have := List.findIdx_eq_length.1 h5 x hx
    simpa using this
theorem nxt_head {S : List Nd} {t i : Nat} : hdId ((S.drop (i + 1)).filter fun y => decide (lowK t y = btI S t i)) = idAt S (nxtI S t i) := by
  unfold hdId idAt
  rw [nxt_elt]
/-- The links at a place and a level. -/
def lvI (ls : List Ld) (i t : Nat) : Lk := (((ls[i]?).map Ld.levels).bind fun m => m[t]?).getD ⟨0, 0⟩
/-- One number of a link is set. -/
def stL (ls : List Ld) (i t : Nat) (z : Int) : List Ld := ls.modify i fun x => ⟨x.id, x.levels.modify t fun y => ⟨z, y.right⟩⟩
def stR (ls : List Ld) (i t : Nat) (z : Int) : List Ld := ls.modify i fun x => ⟨x.id, x.levels.modify t fun y => ⟨y.left, z⟩⟩
/-- Every element has M levels. -/
def AllM (ls : List Ld) (M : Nat) : Prop := ∀ x ∈ ls, x.levels.length = M
theorem stL_len (ls : List Ld) (i t : Nat) (z : Int) : (stL ls i t z).length = ls.length := List.length_modify ..
theorem stR_len (ls : List Ld) (i t : Nat) (z : Int) : (stR ls i t z).length = ls.length := List.length_modify ..
theorem mod_ids (ls : List Ld) (i : Nat) (f : Ld → Ld) (h : ∀ x, (f x).id = x.id) : (ls.modify i f).map Ld.id = ls.map Ld.id := by
  refine List.ext_getElem (by simp) fun j h1 h2 => ?_
  simp only [List.getElem_map, List.getElem_modify]
  split
  · exact h _
  · rfl
theorem stL_ids (ls : List Ld) (i t : Nat) (z : Int) : (stL ls i t z).map Ld.id = ls.map Ld.id := mod_ids _ _ _ fun _ => rfl
theorem stR_ids (ls : List Ld) (i t : Nat) (z : Int) : (stR ls i t z).map Ld.id = ls.map Ld.id := mod_ids _ _ _ fun _ => rfl
theorem mod_all {ls : List Ld} {M i : Nat} {f : Ld → Ld} (h : AllM ls M) (hf : ∀ x, (f x).levels.length = x.levels.length) : AllM (ls.modify i f) M := fun x hx => by
  obtain ⟨j, hj, rfl⟩ := List.mem_iff_getElem.1 hx
  have hj' : j < ls.length := by simpa using hj
  rw [List.getElem_modify]
  split
  · rw [hf]; exact h _ (List.getElem_mem hj')
  · exact h _ (List.getElem_mem hj')
theorem stL_all {ls : List Ld} {M : Nat} (h : AllM ls M) (i t : Nat) (z : Int) : AllM (stL ls i t z) M := mod_all h fun x => by simp
theorem stR_all {ls : List Ld} {M : Nat} (h : AllM ls M) (i t : Nat) (z : Int) : AllM (stR ls i t z) M := mod_all h fun x => by simp
theorem lvI_at {ls : List Ld} {i t : Nat} (hi : i < ls.length) (ht : t < ls[i].levels.length) : lvI ls i t = ls[i].levels[t] := by simp [lvI, hi, ht]
theorem lvI_L {ls : List Ld} {M : Nat} (h : AllM ls M) {i t : Nat} (z : Int) (hi : i < ls.length) (ht : t < M) (j u : Nat) : lvI (stL ls i t z) j u = if i = j ∧ t = u then ⟨z, (lvI ls i t).right⟩ else lvI ls j u := by
  have hl := h _ (List.getElem_mem hi)
  by_cases hij : i = j
  · subst hij
    by_cases htu : t = u
    · subst htu
      rw [if_pos ⟨rfl, rfl⟩, lvI_at hi (by omega)]
      simp [lvI, stL, hi, hl, ht]
    · rw [if_neg (fun h => htu h.2)]
      simp [lvI, stL, hi, htu]
  · rw [if_neg (fun h => hij h.1)]
    simp [lvI, stL, hij]
theorem lvI_R {ls : List Ld} {M : Nat} (h : AllM ls M) {i t : Nat} (z : Int) (hi : i < ls.length) (ht : t < M) (j u : Nat) : lvI (stR ls i t z) j u = if i = j ∧ t = u then ⟨(lvI ls i t).left, z⟩ else lvI ls j u := by
  have hl := h _ (List.getElem_mem hi)
  by_cases hij : i = j
  · subst hij
    by_cases htu : t = u
    · subst htu
      rw [if_pos ⟨rfl, rfl⟩, lvI_at hi (by omega)]
      simp [lvI, stR, hi, hl, ht]
    · rw [if_neg (fun h => htu h.2)]
      simp [lvI, stR, hi, htu]
  · rw [if_neg (fun h => hij h.1)]
    simp [lvI, stR, hij]
theorem lvI_ext {a b : List Ld} {M : Nat} (hi : a.map Ld.id = b.map Ld.id) (ha : AllM a M) (hb : AllM b M) (h : ∀ i t, i < a.length → t < M → lvI a i t = lvI b i t) : a = b := by
  have hl : a.length = b.length := by simpa using congrArg List.length hi
  refine List.ext_getElem hl fun i h1 h2 => ?_
  have e1 : a[i].id = b[i].id := by
    have : (a.map Ld.id)[i]? = (b.map Ld.id)[i]? := by rw [hi]
    simpa [h1, h2] using this
  have e2 : a[i].levels = b[i].levels := by
    have ha1 := ha _ (List.getElem_mem h1)
    have hb1 := hb _ (List.getElem_mem h2)
    refine List.ext_getElem (by omega) fun t t1 t2 => ?_
    have := h i t h1 (by omega)
    rwa [lvI_at h1 t1, lvI_at h2 t2] at this
  cases ha : a[i]; cases hb : b[i]
  rw [ha, hb] at e1 e2
  simp_all
/-- Whether the nodes at two places are of different networks, and what is done at a place. -/
def crsB (S : List Nd) (nw : Int → Int) (t p : Nat) : Bool := match lstI S t p (btI S t p) with
  | none => false
  | some b => decide (nw (idAt S b) ≠ nw (idAt S p))
def cStep (S : List Nd) (nw : Int → Int) (t p : Nat) (ls : List Ld) : List Ld := match lstI S t p (btI S t p) with
  | none => ls
  | some b => if nw (idAt S b) = nw (idAt S p) then ls else stL (stR ls b t (idAt S p)) p t (idAt S b)
def cRun (S : List Nd) (nw : Int → Int) (t : Nat) : Nat → List Ld → List Ld
  | 0, ls => ls
  | p + 1, ls => cStep S nw t p (cRun S nw t p ls)
def cCnt (S : List Nd) (nw : Int → Int) (t : Nat) : Nat → Nat
  | 0 => 0
  | p + 1 => cCnt S nw t p + if crsB S nw t p then 2 else 0
def cAll (S : List Nd) (nw : Int → Int) : Nat → List Ld → List Ld
  | 0, ls => ls
  | t + 1, ls => cRun S nw t S.length (cAll S nw t ls)
def cSum (S : List Nd) (nw : Int → Int) : Nat → Nat
  | 0 => 0
  | t + 1 => cSum S nw t + cCnt S nw t S.length
/-- The links by places. -/
def prvId (S : List Nd) (t i : Nat) : Int := ((lstI S t i (btI S t i)).map fun j => idAt S j).getD 0
def lnkI (S : List Nd) (t i : Nat) : Lk := ⟨prvId S t i, idAt S (nxtI S t i)⟩
theorem cStep_ids (S : List Nd) (nw : Int → Int) (t p : Nat) (ls : List Ld) : (cStep S nw t p ls).map Ld.id = ls.map Ld.id := by
  unfold cStep
  split
  · rfl
  · split
    · rfl
    · rw [stL_ids, stR_ids]
theorem cStep_len (S : List Nd) (nw : Int → Int) (t p : Nat) (ls : List Ld) : (cStep S nw t p ls).length = ls.length := by
  simpa using congrArg List.length (cStep_ids S nw t p ls)
theorem cStep_all {S : List Nd} {nw : Int → Int} {t p M : Nat} {ls : List Ld} (h : AllM ls M) : AllM (cStep S nw t p ls) M := by
  unfold cStep
  split
  · exact h
  · split
    · exact h
    · exact stL_all (stR_all h _ _ _) _ _ _
theorem cRun_ids (S : List Nd) (nw : Int → Int) (t : Nat) (ls : List Ld) : ∀ p, (cRun S nw t p ls).map Ld.id = ls.map Ld.id
  | 0 => rfl
  | p + 1 => (cStep_ids ..).trans (cRun_ids S nw t ls p)
theorem cRun_len (S : List Nd) (nw : Int → Int) (t : Nat) (ls : List Ld) (p : Nat) : (cRun S nw t p ls).length = ls.length := by
  simpa using congrArg List.length (cRun_ids S nw t ls p)
theorem cRun_all {S : List Nd} {nw : Int → Int} {t M : Nat} {ls : List Ld} (h : AllM ls M) : ∀ p, AllM (cRun S nw t p ls) M
  | 0 => h
  | p + 1 => cStep_all (cRun_all h p)
/-- What must be so before a level is done: links that are not written are right. -/
structure Rdy (S : List Nd) (nw : Int → Int) (t : Nat) (ls : List Ld) : Prop where
  left0 : ∀ i, i < S.length → lstI S t i (btI S t i) = none → (lvI ls i t).left = 0
  left1 : ∀ i b, i < S.length → lstI S t i (btI S t i) = some b → nw (idAt S b) = nw (idAt S i) → (lvI ls i t).left = idAt S b
  right0 : ∀ i, i < S.length → nxtI S t i = S.length → (lvI ls i t).right = 0
  right1 : ∀ i b, i < S.length → lstI S t i (btI S t i) = some b → nw (idAt S b) = nw (idAt S i) → (lvI ls b t).right = idAt S i
theorem cRun_lv {S : List Nd} {nw : Int → Int} {t M : Nat} {ls : List Ld} (hl : ls.length = S.length) (ha : AllM ls M) (ht : t < M) (hr : Rdy S nw t ls) : ∀ p, p ≤ S.length → ∀ i, i < S.length →
    lvI (cRun S nw t p ls) i t = ⟨if i < p then prvId S t i else (lvI ls i t).left, if nxtI S t i < p then idAt S (nxtI S t i) else (lvI ls i t).right⟩
  | 0, _, i, hi => by simp [cRun]
  | p + 1, hp, i, hi => by
    have ih := cRun_lv hl ha ht hr p (by omega)
    have hp' : p < S.length := hp
    have hL := cRun_len S nw t ls p
    have hA := cRun_all (S := S) (nw := nw) (t := t) ha p
    have hni : i < nxtI S t i := by unfold nxtI; omega
    rw [cRun, cStep]
    cases hb : lstI S t p (btI S t p) with
    | none =>
      have hne : nxtI S t i ≠ p := fun e => by
        have := (nxt_prv hp').2 ⟨by omega, e⟩
        rw [hb] at this
        cases this
      simp only
      rw [ih i hi]
      congr 1
      · by_cases e : i = p
        · subst e
          rw [if_neg (by omega), if_pos (by omega), hr.left0 i hi hb]
          simp [prvId, hb]
        · by_cases h : i < p
          · rw [if_pos h, if_pos (by omega)]
          · rw [if_neg h, if_neg (by omega)]
      · by_cases h : nxtI S t i < p
        · rw [if_pos h, if_pos (by omega)]
        · rw [if_neg h, if_neg (by omega)]
    | some b =>
      have hbn := (nxt_prv hp').1 hb
      have hpv : prvId S t p = idAt S b := by simp [prvId, hb]
      have huniq : nxtI S t i = p → i = b := fun e => by
        have := (nxt_prv hp').2 ⟨by omega, e⟩
        rw [hb] at this
        injection this with this
        exact this.symm
      simp only
      by_cases hw : nw (idAt S b) = nw (idAt S p)
      · rw [if_pos hw, ih i hi]
        congr 1
        · by_cases e : i = p
          · subst e
            rw [if_neg (by omega), if_pos (by omega), hr.left1 i b hi hb hw, hpv]
          · by_cases h : i < p
            · rw [if_pos h, if_pos (by omega)]
            · rw [if_neg h, if_neg (by omega)]
        · by_cases e : nxtI S t i = p
          · have := huniq e
            subst this
            rw [if_neg (by omega), if_pos (by omega), hr.right1 p i hp' hb hw, e]
          · by_cases h : nxtI S t i < p
            · rw [if_pos h, if_pos (by omega)]
            · rw [if_neg h, if_neg (by omega)]
      · rw [if_neg hw, lvI_L (stR_all hA _ _ _) _ (by rw [stR_len]; omega) ht, lvI_R hA _ (by omega) ht, lvI_R hA _ (by omega) ht]
        rw [if_neg (by omega : ¬ (b = p ∧ t = t))]
        by_cases e : p = i
        · subst e
          rw [if_pos ⟨rfl, rfl⟩, ih p hi]
          congr 1
          · rw [if_pos (by omega), hpv]
          · show (if nxtI S t p < p then idAt S (nxtI S t p) else (lvI ls p t).right) = _
            rw [if_neg (by omega), if_neg (by omega)]
        · rw [if_neg (fun h => e h.1)]
          by_cases e2 : b = i
          · subst e2
            rw [if_pos ⟨rfl, rfl⟩, ih b hi]
            congr 1
            · show (if b < p then prvId S t b else (lvI ls b t).left) = _
              rw [if_pos (by omega), if_pos (by omega)]
            · rw [if_pos (by omega), hbn.2]
          · rw [if_neg (fun h => e2 h.1), ih i hi]
            have hne : nxtI S t i ≠ p := fun h => e2 (huniq h).symm
            congr 1
            · by_cases h : i < p
              · rw [if_pos h, if_pos (by omega)]
              · rw [if_neg h, if_neg (by omega)]
            · by_cases h : nxtI S t i < p
              · rw [if_pos h, if_pos (by omega)]
              · rw [if_neg h, if_neg (by omega)]
theorem cRun_oth {S : List Nd} {nw : Int → Int} {t M : Nat} {ls : List Ld} (hl : ls.length = S.length) (ha : AllM ls M) (ht : t < M) {u : Nat} (hu : u ≠ t) (i : Nat) : ∀ p, p ≤ S.length → lvI (cRun S nw t p ls) i u = lvI ls i u
  | 0, _ => rfl
  | p + 1, hp => by
    have ih := cRun_oth (nw := nw) hl ha ht hu i p (by omega)
    have hL := cRun_len S nw t ls p
    have hA := cRun_all (S := S) (nw := nw) (t := t) ha p
    rw [cRun, cStep]
    cases hb : lstI S t p (btI S t p) with
    | none => exact ih
    | some b =>
      have hbn := (nxt_prv hp).1 hb
      simp only
      split
      · exact ih
      · rw [lvI_L (stR_all hA _ _ _) _ (by rw [stR_len]; omega) ht, lvI_R hA _ (by omega) ht, lvI_R hA _ (by omega) ht, if_neg (by omega), if_neg (by omega), ih]
theorem cAll_ids (S : List Nd) (nw : Int → Int) (ls : List Ld) : ∀ m, (cAll S nw m ls).map Ld.id = ls.map Ld.id
  | 0 => rfl
  | m + 1 => (cRun_ids ..).trans (cAll_ids S nw ls m)
theorem cAll_len (S : List Nd) (nw : Int → Int) (ls : List Ld) (m : Nat) : (cAll S nw m ls).length = ls.length := by
  simpa using congrArg List.length (cAll_ids S nw ls m)
theorem cAll_all {S : List Nd} {nw : Int → Int} {M : Nat} {ls : List Ld} (h : AllM ls M) : ∀ m, AllM (cAll S nw m ls) M
  | 0 => h
  | m + 1 => cRun_all (cAll_all h m) _
theorem Rdy.congr {S : List Nd} {nw : Int → Int} {t : Nat} {a b : List Ld} (h : Rdy S nw t a) (e : ∀ i, lvI b i t = lvI a i t) : Rdy S nw t b :=
  ⟨fun i hi h1 => by rw [e]; exact h.left0 i hi h1, fun i c hi h1 h2 => by rw [e]; exact h.left1 i c hi h1 h2, fun i hi h1 => by rw [e]; exact h.right0 i hi h1, fun i c hi h1 h2 => by rw [e]; exact h.right1 i c hi h1 h2⟩
theorem cAll_lv {S : List Nd} {nw : Int → Int} {M : Nat} {ls : List Ld} (hl : ls.length = S.length) (ha : AllM ls M) (hr : ∀ t, t < M → Rdy S nw t ls) : ∀ m, m ≤ M → ∀ i t, i < S.length → t < M → lvI (cAll S nw m ls) i t = if t < m then lnkI S t i else lvI ls i t
  | 0, _, i, t, hi, ht => by simp [cAll]
  | m + 1, hm, i, t, hi, ht => by
    have ih := cAll_lv hl ha hr m (by omega)
    have hL : (cAll S nw m ls).length = S.length := by rw [cAll_len, hl]
    have hA := cAll_all (S := S) (nw := nw) ha m
    rw [cAll]
    by_cases e : t = m
    · subst e
      have hR : Rdy S nw t (cAll S nw t ls) := by
        refine ⟨fun i hi h1 => ?_, fun i c hi h1 h2 => ?_, fun i hi h1 => ?_, fun i c hi h1 h2 => ?_⟩
        · rw [ih i t hi ht, if_neg (by omega)]; exact (hr t ht).left0 i hi h1
        · rw [ih i t hi ht, if_neg (by omega)]; exact (hr t ht).left1 i c hi h1 h2
        · rw [ih i t hi ht, if_neg (by omega)]; exact (hr t ht).right0 i hi h1
        · have := ((nxt_prv hi).1 h1).1
          rw [ih c t (by omega) ht, if_neg (by omega)]; exact (hr t ht).right1 i c hi h1 h2
      rw [cRun_lv hL hA ht hR _ (Nat.le_refl _) i hi, if_pos hi, if_pos (Nat.lt_succ_self t)]
      unfold lnkI
      congr 1
      by_cases h : nxtI S t i < S.length
      · rw [if_pos h]
      · rw [if_neg h, ih i t hi ht, if_neg (by omega), (hr t ht).right0 i hi (by have := nxtI_le (t := t) hi; omega), idAt_ge (by omega)]
    · rw [cRun_oth hL hA (by omega) e i _ (Nat.le_refl _), ih i t hi ht]
      by_cases h : t < m
      · rw [if_pos h, if_pos (by omega)]
      · rw [if_neg h, if_neg (by omega)]
theorem lnkI_split {U V : List Nd} {x : Nd} (t : Nat) : lnkI (U ++ x :: V) t U.length = lnkS t U x V := by
  have hU : U.length < (U ++ x :: V).length := by simp
  have hx : (U ++ x :: V)[U.length] = x := by simp
  have hb : btI (U ++ x :: V) t U.length = lowK t x := by rw [btI_at hU, hx]
  unfold lnkI lnkS prvId
  congr 1
  · have := lstI_last (S := U ++ x :: V) (t := t) (b := btI (U ++ x :: V) t U.length) (p := U.length) (by omega)
    rw [← this, List.take_left', hb]
    · rfl
    · rfl
  · rw [← nxt_head, hb]
    congr 1
    rw [List.drop_append, List.drop_eq_nil_of_le (by omega), List.nil_append, show U.length + 1 - U.length = 1 by omega]
    rfl
theorem last_filter {α : Type} {P : α → Bool} {l : List α} {y : α} (h : l.getLast? = some y) (hy : P y = true) : (l.filter P).getLast? = some y := by
  obtain ⟨m, rfl⟩ := List.getLast?_eq_some_iff.1 h
  simp [hy]
theorem head_filter {α : Type} {P : α → Bool} {l : List α} {y : α} (h : l.head? = some y) (hy : P y = true) : (l.filter P).head? = some y := by
  obtain ⟨m, rfl⟩ := List.head?_eq_some_iff.1 h
  simp [hy]
theorem filter_swap {α : Type} (P Q : α → Bool) (l : List α) : (l.filter P).filter Q = (l.filter Q).filter P := by
  rw [List.filter_filter, List.filter_filter]
  congr 1
  funext x
  exact Bool.and_comm _ _
theorem at_split {S : List Nd} {i : Nat} (h : i < S.length) : S = S.take i ++ S[i] :: S.drop (i + 1) := by
  rw [List.getElem_cons_drop, List.take_append_drop]
/-- Links of nodes among those of their own networks are ready. -/
theorem rdy_of {S : List Nd} {nw : Int → Int} {t : Nat} {ls : List Ld} (h : ∀ i (hi : i < S.length), lvI ls i t = lnkS t ((S.take i).filter fun z => decide (nw z.id = nw S[i].id)) S[i] ((S.drop (i + 1)).filter fun z => decide (nw z.id = nw S[i].id))) : Rdy S nw t ls := by
  have hsm : ∀ i (hi : i < S.length), (fun y => decide (lowK t y = btI S t i)) = smB t S[i] := fun i hi => by
    funext y
    rw [btI_at hi]
    rfl
  refine ⟨fun i hi h1 => ?_, fun i b hi h1 h2 => ?_, fun i hi h1 => ?_, fun i b hi h1 h2 => ?_⟩
  · have h3 := lstI_elt (S := S) (t := t) (b := btI S t i) (p := i) (by omega)
    rw [h1, hsm i hi] at h3
    have h4 : (S.take i).filter (smB t S[i]) = [] := by simpa using h3
    rw [h i hi]
    unfold lnkS
    simp only
    rw [filter_swap, h4]
    rfl
  · have hb := (lstI_some.1 h1).1
    have h3 := lstI_elt (S := S) (t := t) (b := btI S t i) (p := i) (by omega)
    rw [h1, hsm i hi] at h3
    have h4 : ((S.take i).filter (smB t S[i])).getLast? = some S[b] := by simpa [show b < S.length by omega] using h3
    rw [h i hi]
    unfold lnkS
    simp only
    rw [filter_swap, lstId, last_filter h4]
    · simp [idAt, show b < S.length by omega]
    · rw [idAt_lt (by omega), idAt_lt hi] at h2
      simpa using h2
  · have h3 := nxt_elt (S := S) (t := t) (i := i)
    rw [h1, hsm i hi, List.getElem?_eq_none (Nat.le_refl _)] at h3
    have h4 : (S.drop (i + 1)).filter (smB t S[i]) = [] := List.head?_eq_none_iff.1 h3
    rw [h i hi]
    unfold lnkS
    simp only
    rw [filter_swap, h4]
    rfl
  · obtain ⟨hb, hn⟩ := (nxt_prv hi).1 h1
    have hbl : b < S.length := by omega
    have h3 := nxt_elt (S := S) (t := t) (i := b)
    rw [hn, hsm b hbl, List.getElem?_eq_getElem hi] at h3
    rw [h b hbl]
    unfold lnkS
    simp only
    rw [filter_swap, hdId, head_filter h3]
    · simp [idAt, hi]
    · rw [idAt_lt (by omega), idAt_lt hi] at h2
      simpa using h2.symm
/-- How many numbers of links are not 0. -/
def nzK (y : Lk) : Nat := (if y.left = 0 then 0 else 1) + (if y.right = 0 then 0 else 1)
def nzE (x : Ld) : Nat := (x.levels.map nzK).sum
def nzL (ls : List Ld) : Nat := (ls.map nzE).sum
theorem sum_mod {α : Type} (f : α → Nat) (g : α → α) : ∀ (l : List α) (i : Nat) (h : i < l.length), ((l.modify i g).map f).sum + f l[i] = (l.map f).sum + f (g l[i])
  | [], _, h => by simp at h
  | x :: l, 0, _ => by simp; omega
  | x :: l, i + 1, h => by
    have := sum_mod f g l i (by simpa using h)
    simp only [List.modify_succ_cons, List.map_cons, List.sum_cons, List.getElem_cons_succ]
    omega
theorem nz_mod {ls : List Ld} {M : Nat} (ha : AllM ls M) {i t : Nat} (hi : i < ls.length) (ht : t < M) (g : Lk → Lk) : nzL (ls.modify i fun x => ⟨x.id, x.levels.modify t g⟩) + nzK (lvI ls i t) = nzL ls + nzK (g (lvI ls i t)) := by
  have hl := ha _ (List.getElem_mem hi)
  have h1 := sum_mod nzE (fun x : Ld => (⟨x.id, x.levels.modify t g⟩ : Ld)) ls i hi
  have h2 := sum_mod nzK g ls[i].levels t (by omega)
  rw [lvI_at hi (by omega)]
  unfold nzL
  have h3 : nzE (⟨ls[i].id, ls[i].levels.modify t g⟩ : Ld) = ((ls[i].levels.modify t g).map nzK).sum := rfl
  have h4 : nzE ls[i] = (ls[i].levels.map nzK).sum := rfl
  omega
theorem nz_L {ls : List Ld} {M : Nat} (ha : AllM ls M) {i t : Nat} (hi : i < ls.length) (ht : t < M) {z : Int} (hz : z ≠ 0) (h0 : (lvI ls i t).left = 0) : nzL (stL ls i t z) = nzL ls + 1 := by
  have := nz_mod ha hi ht (fun y => ⟨z, y.right⟩)
  unfold nzK at this
  simp only [h0, if_true, if_neg hz] at this
  unfold stL
  omega
theorem nz_R {ls : List Ld} {M : Nat} (ha : AllM ls M) {i t : Nat} (hi : i < ls.length) (ht : t < M) {z : Int} (hz : z ≠ 0) (h0 : (lvI ls i t).right = 0) : nzL (stR ls i t z) = nzL ls + 1 := by
  have := nz_mod ha hi ht (fun y => ⟨y.left, z⟩)
  unfold nzK at this
  simp only [h0, if_true, if_neg hz] at this
  unfold stR
  omega
theorem cRun_nz {S : List Nd} {nw : Int → Int} {t M : Nat} {ls : List Ld} (hl : ls.length = S.length) (ha : AllM ls M) (ht : t < M) (hr : Rdy S nw t ls) (hz : ∀ i, i < S.length → idAt S i ≠ 0) (h0 : ∀ i, i < S.length → lvI ls i t = ⟨0, 0⟩) : ∀ p, p ≤ S.length → nzL (cRun S nw t p ls) = nzL ls + cCnt S nw t p
  | 0, _ => rfl
  | p + 1, hp => by
    have ih := cRun_nz hl ha ht hr hz h0 p (by omega)
    have hp' : p < S.length := hp
    have hL := cRun_len S nw t ls p
    have hA := cRun_all (S := S) (nw := nw) (t := t) ha p
    have hv := cRun_lv hl ha ht hr p (by omega)
    rw [cRun, cStep, cCnt, crsB]
    cases hb : lstI S t p (btI S t p) with
    | none => simp only; rw [ih]; rfl
    | some b =>
      have hbn := (nxt_prv hp').1 hb
      have hni : p < nxtI S t p := by unfold nxtI; omega
      simp only
      by_cases hw : nw (idAt S b) = nw (idAt S p)
      · rw [if_pos hw, ih]
        simp [hw]
      · have e1 : (lvI (cRun S nw t p ls) b t).right = 0 := by
          rw [hv b (by omega)]
          simp only
          rw [if_neg (by omega), h0 b (by omega)]
        have e2 : (lvI (cRun S nw t p ls) p t).left = 0 := by
          rw [hv p hp']
          simp only
          rw [if_neg (by omega), h0 p hp']
        have n1 := nz_R hA (by omega) ht (hz p hp') e1
        have n2 := nz_L (stR_all hA b t (idAt S p)) (i := p) (z := idAt S b) (by rw [stR_len]; omega) ht (hz b (by omega)) (by
          rw [lvI_R hA _ (by omega) ht, if_neg (by omega)]
          exact e2)
        rw [if_neg hw, n2, n1, ih]
        simp [hw]
        omega
theorem cAll_nz {S : List Nd} {nw : Int → Int} {M : Nat} {ls : List Ld} (hl : ls.length = S.length) (ha : AllM ls M) (hr : ∀ t, t < M → Rdy S nw t ls) (hz : ∀ i, i < S.length → idAt S i ≠ 0) (h0 : ∀ i t, i < S.length → t < M → lvI ls i t = ⟨0, 0⟩) : ∀ m, m ≤ M → nzL (cAll S nw m ls) = nzL ls + cSum S nw m
  | 0, _ => rfl
  | m + 1, hm => by
    have ih := cAll_nz hl ha hr hz h0 m (by omega)
    have hL : (cAll S nw m ls).length = S.length := by rw [cAll_len, hl]
    have hA := cAll_all (S := S) (nw := nw) ha m
    have hlv := cAll_lv hl ha hr m (by omega)
    have e0 : ∀ i, i < S.length → lvI (cAll S nw m ls) i m = lvI ls i m := fun i hi => by
      rw [hlv i m hi (by omega), if_neg (by omega)]
    have hR : Rdy S nw m (cAll S nw m ls) := by
      refine ⟨fun i hi h1 => ?_, fun i c hi h1 h2 => ?_, fun i hi h1 => ?_, fun i c hi h1 h2 => ?_⟩
      · rw [e0 i hi]; exact (hr m (by omega)).left0 i hi h1
      · rw [e0 i hi]; exact (hr m (by omega)).left1 i c hi h1 h2
      · rw [e0 i hi]; exact (hr m (by omega)).right0 i hi h1
      · have := ((nxt_prv hi).1 h1).1
        rw [e0 c (by omega)]; exact (hr m (by omega)).right1 i c hi h1 h2
    rw [cAll, cRun_nz hL hA (by omega) hR hz (fun i hi => by rw [e0 i hi]; exact h0 i m hi (by omega)) _ (Nat.le_refl _), ih, cSum, Nat.add_assoc]
theorem lnk_split {S U V : List Nd} {x : Nd} {t : Nat} (hS : S = U ++ x :: V) (ha : S.Pairwise Nd.apart) (hw : ∀ y ∈ S, y.word < 4294967296) (ht : t ≤ 16) : lnk S (t : Int) x = lnkS t U x V := by
  unfold lnk
  rw [grp_filter hw (hw x (by rw [hS]; simp)) (by omega)]
  have e : S.filter (fun y => decide (lowK ((t : Int)).toNat y = x.word % 2 ^ ((t : Int)).toNat)) = U.filter (smB t x) ++ x :: V.filter (smB t x) := by
    subst hS
    show (U ++ x :: V).filter (smB t x) = _
    rw [List.filter_append, List.filter_cons, smB_self]
    rfl
  rw [e, plc_split, lkAt_split]
  · rfl
  · intro y hy
    subst hS
    exact ((List.pairwise_append.1 ha).2.2 y (mflt hy) x (by simp)).1
theorem lnk_at {S : List Nd} {t i : Nat} (ha : S.Pairwise Nd.apart) (hw : ∀ y ∈ S, y.word < 4294967296) (ht : t ≤ 16) (hi : i < S.length) : lnk S (t : Int) S[i] = lnkI S t i := by
  rw [lnk_split (at_split hi) ha hw ht, ← lnkI_split, ← at_split hi, List.length_take, Nat.min_eq_left (by omega)]
theorem bld_ids (l : List Nd) (n : Nat) : (bldV l n).map Ld.id = (srt l).map Nd.id := by simp [bldV]
theorem nrm_ids (l : List Nd) (k : List Ld) (n : Nat) : (nrmV l k n).map Ld.id = (srt l).map Nd.id := by simp [nrmV]
theorem bld_all (l : List Nd) (n : Nat) : AllM (bldV l n) n := bld_lev l n
theorem nrm_all (l : List Nd) (k : List Ld) (n : Nat) : AllM (nrmV l k n) n := fun x hx => by
  unfold nrmV at hx
  obtain ⟨y, _, rfl⟩ := List.mem_map.1 hx
  simp
theorem lvI_map {S : List Nd} {f : Nd → Nat → Lk} {n i t : Nat} (hi : i < S.length) (ht : t < n) : lvI (S.map fun x => (⟨x.id, (List.range n).map (f x)⟩ : Ld)) i t = f S[i] t := by
  rw [lvI_at (by simpa using hi) (by simpa using ht)]
  simp
theorem lvI_nrm {l : List Nd} {k : List Ld} {n i t : Nat} (hi : i < (srt l).length) (ht : t < n) : lvI (nrmV l k n) i t = atV k (srt l)[i].id (t : Int) := lvI_map (f := fun x t => atV k x.id (t : Int)) hi ht
theorem lvI_bldL {l : List Nd} {n i t : Nat} (hi : i < (srt l).length) (ht : t < n) : lvI (bldV l n) i t = lnk (srt l) (t : Int) (srt l)[i] := lvI_map (f := fun x t => lnk (srt l) (t : Int) x) hi ht
theorem lvI_bld {l : List Nd} (hc : chkV l = 0) {n i t : Nat} (hn : n ≤ 17) (hi : i < (srt l).length) (ht : t < n) : lvI (bldV l n) i t = lnkI (srt l) t i := by
  rw [lvI_bldL hi ht, lnk_at (srt_apart hc) (srt_wd hc) (by omega) hi]
theorem srt_ids {l : List Nd} (hc : chkV l = 0) : ∀ i, i < (srt l).length → idAt (srt l) i ≠ 0 := fun i hi => by
  rw [idAt_lt hi]
  have := ros_ok hc (srt_mem.1 (List.getElem_mem hi))
  omega
/-- All levels linked give the unique skip graph. -/
theorem cAll_bld {l : List Nd} (hc : chkV l = 0) {M : Nat} (hM : M ≤ 17) {nw : Int → Int} {ls : List Ld} (hi : ls.map Ld.id = (srt l).map Nd.id) (ha : AllM ls M) (hr : ∀ t, t < M → Rdy (srt l) nw t ls) : cAll (srt l) nw M ls = bldV l M := by
  have hl : ls.length = (srt l).length := by simpa using congrArg List.length hi
  refine lvI_ext (M := M) (by rw [cAll_ids, hi, bld_ids]) (cAll_all ha M) (bld_all l M) fun i t h1 ht => ?_
  have h2 : i < (srt l).length := by rw [cAll_len] at h1; omega
  rw [cAll_lv hl ha hr M (Nat.le_refl _) i t h2 ht, if_pos ht, lvI_bld hc hM h2 ht]
theorem sides_at {S : List Nd} (ha : S.Pairwise Nd.apart) {i : Nat} (hi : i < S.length) : (∀ z ∈ S.take i, z.id ≠ S[i].id) ∧ ∀ z ∈ S.drop (i + 1), z.id ≠ S[i].id := by
  rw [at_split hi] at ha
  obtain ⟨_, h2, h3⟩ := List.pairwise_append.1 ha
  exact ⟨fun z hz => (h3 z hz _ List.mem_cons_self).1, fun z hz => Ne.symm ((List.pairwise_cons.1 h2).1 z hz).1⟩
/-- Load. -/
theorem load_rdy {l : List Nd} (hc : chkV l = 0) {M : Nat} {nw : Int → Int} (hn : ∀ x ∈ srt l, nw x.id = x.id) : (∀ i t, i < (srt l).length → t < M → lvI (nrmV l [] M) i t = ⟨0, 0⟩) ∧ ∀ t, t < M → Rdy (srt l) nw t (nrmV l [] M) := by
  have h0 : ∀ i t, i < (srt l).length → t < M → lvI (nrmV l [] M) i t = ⟨0, 0⟩ := fun i t hi ht => by rw [lvI_nrm hi ht]; rfl
  refine ⟨h0, fun t ht => rdy_of fun i hi => ?_⟩
  have ha := sides_at (srt_apart hc) hi
  have hni := hn _ (List.getElem_mem hi)
  rw [h0 i t hi ht, List.filter_eq_nil_iff.2, List.filter_eq_nil_iff.2]
  · rfl
  · intro z hz
    have := hn z (List.mem_of_mem_drop hz)
    have := ha.2 z hz
    simp only [decide_eq_true_eq]
    omega
  · intro z hz
    have := hn z (List.mem_of_mem_take hz)
    have := ha.1 z hz
    simp only [decide_eq_true_eq]
    omega
theorem nz_zero {ls : List Ld} {M : Nat} (ha : AllM ls M) (h : ∀ i t, i < ls.length → t < M → lvI ls i t = ⟨0, 0⟩) : nzL ls = 0 := by
  unfold nzL
  rw [List.sum_eq_zero_iff_forall_eq_nat]
  intro n hn
  obtain ⟨x, hx, rfl⟩ := List.mem_map.1 hn
  obtain ⟨i, hi, rfl⟩ := List.mem_iff_getElem.1 hx
  unfold nzE
  rw [List.sum_eq_zero_iff_forall_eq_nat]
  intro n hn
  obtain ⟨y, hy, rfl⟩ := List.mem_map.1 hn
  obtain ⟨t, ht, rfl⟩ := List.mem_iff_getElem.1 hy
  have := h i t hi (by rw [← ha _ (List.getElem_mem hi)]; exact ht)
  rw [lvI_at hi ht] at this
  rw [this]
  rfl
theorem load_all {l : List Nd} (hc : chkV l = 0) {M : Nat} (hM : M ≤ 17) {nw : Int → Int} (hn : ∀ x ∈ srt l, nw x.id = x.id) : cAll (srt l) nw M (nrmV l [] M) = bldV l M ∧ nzL (bldV l M) = cSum (srt l) nw M := by
  obtain ⟨h0, hr⟩ := load_rdy (M := M) hc hn
  have e := cAll_bld hc hM (nrm_ids l [] M) (nrm_all l [] M) hr
  have hl : (nrmV l [] M).length = (srt l).length := by simp [nrmV]
  refine ⟨e, ?_⟩
  rw [← e, cAll_nz hl (nrm_all l [] M) hr (srt_ids hc) h0 M (Nat.le_refl _), nz_zero (nrm_all l [] M) (fun i t hi ht => h0 i t (by omega) ht), Nat.zero_add]
/-- A network among others: its links. -/
theorem lnk_sub {S : List Nd} (ha : S.Pairwise Nd.apart) (hw : ∀ y ∈ S, y.word < 4294967296) {t i : Nat} (ht : t ≤ 16) (hi : i < S.length) {P : Nd → Bool} (hP : P S[i] = true) : lnk (S.filter P) (t : Int) S[i] = lnkS t ((S.take i).filter P) S[i] ((S.drop (i + 1)).filter P) := by
  refine lnk_split ?_ (ha.sublist List.filter_sublist) (fun y hy => hw y (mflt hy)) ht
  conv => lhs; rw [at_split hi]
  rw [List.filter_append, List.filter_cons, if_pos hP]
theorem srt_filter {l m : List Nd} (hc : chkV l = 0) (hm : m.Pairwise Nd.apart) {P : Nd → Bool} (h : ∀ x, x ∈ m ↔ x ∈ l ∧ P x = true) : srt m = (srt l).filter P := by
  refine asc_unique _ _ ((srt_srt m).asc hm) (((srt_srt l).asc (chkV_zero.1 hc).2.2).sublist List.filter_sublist) fun x => ?_
  rw [srt_mem, List.mem_filter, srt_mem, h]
theorem atV_app (k j : List Ld) (id t : Int) : atV (k ++ j) id t = if (k.any fun x => decide (x.id = id)) = true then atV k id t else atV j id t := by
  unfold atV
  rw [List.find?_append]
  cases h : k.find? fun x => decide (x.id = id) with
  | none =>
    have := List.find?_eq_none.1 h
    rw [if_neg]
    · rfl
    · intro e
      obtain ⟨x, hx, e⟩ := List.any_eq_true.1 e
      exact this x hx e
  | some y =>
    rw [if_pos]
    · rfl
    · exact List.any_eq_true.2 ⟨y, List.mem_of_find?_eq_some h, by simpa using List.find?_some h⟩
/-- Merge: 0 is the network of the first nodes, 1 that of the others. -/
def nwM (b : List Nd) (i : Int) : Int := if i ∈ b.map Nd.id then 1 else 0
theorem merge_rdy {a b : List Nd} (hA : chkV a = 0) (hB : chkV b = 0) (hc : chkV (a ++ b) = 0) {M : Nat} (hM : M ≤ 17) : ∀ t, t < M → Rdy (srt (a ++ b)) (nwM b) t (nrmV (a ++ b) (bldV a M ++ bldV b M) M) := fun t ht => rdy_of fun i hi => by
  have hS := srt_apart hc
  have hW := srt_wd hc
  have hab := (List.pairwise_append.1 (chkV_zero.1 hc).2.2).2.2
  have hmem : ∀ z ∈ srt (a ++ b), z ∈ a ∨ z ∈ b := fun z hz => by simpa using srt_mem.1 hz
  have hn0 : ∀ z ∈ a, nwM b z.id = 0 := fun z hz => if_neg fun e => by
    obtain ⟨y, hy, e⟩ := List.mem_map.1 e
    exact (hab z hz y hy).1 e.symm
  have hn1 : ∀ z ∈ b, nwM b z.id = 1 := fun z hz => if_pos (List.mem_map.2 ⟨z, hz, rfl⟩)
  rw [lvI_nrm hi ht, atV_app]
  have hx := List.getElem_mem hi
  have hxm := hmem _ hx
  have key : ∀ c : List Nd, chkV c = 0 → (srt (a ++ b))[i] ∈ c → (∀ z ∈ srt (a ++ b), z ∈ c ↔ nwM b z.id = nwM b (srt (a ++ b))[i].id) → (∀ z ∈ c, z ∈ a ++ b) → atV (bldV c M) (srt (a ++ b))[i].id (t : Int) = lnkS t (((srt (a ++ b)).take i).filter fun z => decide (nwM b z.id = nwM b (srt (a ++ b))[i].id)) (srt (a ++ b))[i] (((srt (a ++ b)).drop (i + 1)).filter fun z => decide (nwM b z.id = nwM b (srt (a ++ b))[i].id)) := fun c hcc hxc hz hsub => by
    rw [at_bld hcc hM hxc ht, (nb_in hcc (by omega) (by omega) hxc).2]
    rw [srt_filter (P := fun z => decide (nwM b z.id = nwM b (srt (a ++ b))[i].id)) hc (chkV_zero.1 hcc).2.2 (fun x => ⟨fun h => ⟨hsub x h, decide_eq_true ((hz x (srt_mem.2 (hsub x h))).1 h)⟩, fun h => (hz x (srt_mem.2 h.1)).2 (of_decide_eq_true h.2)⟩)]
    exact lnk_sub hS hW (by omega) hi (decide_eq_true rfl)
  have hany : ((bldV a M).any fun x => decide (x.id = (srt (a ++ b))[i].id)) = true ↔ (srt (a ++ b))[i] ∈ a := by
    rw [List.any_eq_true]
    constructor
    · rintro ⟨y, hy, e⟩
      have e := of_decide_eq_true e
      have h1 : y.id ∈ (bldV a M).map Ld.id := List.mem_map.2 ⟨y, hy, rfl⟩
      rw [bld_ids] at h1
      obtain ⟨z, hz, e2⟩ := List.mem_map.1 h1
      have hz := srt_mem.1 hz
      have : z = (srt (a ++ b))[i] := id_uniq hS (srt_mem.2 (List.mem_append_left _ hz)) hx (by omega)
      rwa [← this]
    · intro h
      have h1 : (srt (a ++ b))[i].id ∈ (bldV a M).map Ld.id := by rw [bld_ids]; exact List.mem_map.2 ⟨_, srt_mem.2 h, rfl⟩
      obtain ⟨y, hy, e⟩ := List.mem_map.1 h1
      exact ⟨y, hy, decide_eq_true e⟩
  have hdis : ∀ z ∈ a, z ∉ b := fun z h1 h2 => (hab z h1 z h2).1 rfl
  by_cases h : (srt (a ++ b))[i] ∈ a
  · rw [if_pos (hany.2 h)]
    refine key a hA h (fun z hz => ?_) (fun z hz => List.mem_append_left _ hz)
    rw [hn0 _ h]
    constructor
    · intro h2; exact hn0 z h2
    · intro e
      rcases hmem z hz with h2 | h2
      · exact h2
      · rw [hn1 z h2] at e; cases e
  · have h' := hxm.resolve_left h
    rw [if_neg (fun e => h (hany.1 e))]
    refine key b hB h' (fun z hz => ?_) (fun z hz => List.mem_append_right _ hz)
    rw [hn1 _ h']
    constructor
    · intro h2; exact hn1 z h2
    · intro e
      rcases hmem z hz with h2 | h2
      · rw [hn0 z h2] at e; cases e
      · exact h2
theorem merge_all {a b : List Nd} (hA : chkV a = 0) (hB : chkV b = 0) (hc : chkV (a ++ b) = 0) {M : Nat} (hM : M ≤ 17) {nw : Int → Int} (hn : ∀ x ∈ srt (a ++ b), nw x.id = nwM b x.id) : cAll (srt (a ++ b)) nw M (nrmV (a ++ b) (bldV a M ++ bldV b M) M) = bldV (a ++ b) M := by
  refine cAll_bld hc hM (nrm_ids _ _ _) (nrm_all _ _ _) fun t ht => ?_
  have h := merge_rdy hA hB hc hM t ht
  have e : ∀ i, i < (srt (a ++ b)).length → nw (idAt (srt (a ++ b)) i) = nwM b (idAt (srt (a ++ b)) i) := fun i hi => by rw [idAt_lt hi]; exact hn _ (List.getElem_mem hi)
  exact ⟨h.left0, fun i c hi h1 h2 => h.left1 i c hi h1 (by have := (lstI_some.1 h1).1; rwa [e c (by omega), e i hi] at h2), h.right0, fun i c hi h1 h2 => h.right1 i c hi h1 (by have := (lstI_some.1 h1).1; rwa [e c (by omega), e i hi] at h2)⟩
/-- Cut: the links within a part. -/
def witK (ids : List Int) (y : Lk) : Lk := ⟨if y.left ∈ ids then y.left else 0, if y.right ∈ ids then y.right else 0⟩
def witV (ls : List Ld) : List Ld := ls.map fun x => ⟨x.id, x.levels.map (witK (ls.map Ld.id))⟩
theorem asc_part {S : List Nd} {P : Nd → Bool} (h : S.Pairwise fun a b => P b = true → P a = true) : S = S.filter P ++ S.filter fun x => !P x := by
  induction S with
  | nil => rfl
  | cons x S ih =>
    obtain ⟨h1, h2⟩ := List.pairwise_cons.1 h
    cases hx : P x with
    | true =>
      simp only [List.filter_cons, hx]
      simpa using ih h2
    | false =>
      have h3 : S.filter P = [] := List.filter_eq_nil_iff.2 fun y hy e => by rw [h1 y hy e] at hx; cases hx
      have := ih h2
      rw [h3, List.nil_append] at this
      simp only [List.filter_cons, hx, h3]
      simpa using this

/-- What lies on a side within a part. -/
theorem lst_in {L : List Nd} {P : Nd → Bool} {ids : List Int} (hi : ∀ y ∈ L, y.id ∈ ids ↔ P y = true) (h0 : (0 : Int) ∉ ids) (hp : ∀ y ∈ L, P y = true → L.getLast?.map P = some true) : (if lstId L ∈ ids then lstId L else 0) = lstId (L.filter P) := by
  cases hL : L.getLast? with
  | none =>
    have : L = [] := by simpa using hL
    subst this
    show (if (0 : Int) ∈ ids then (0 : Int) else 0) = 0
    rw [if_neg h0]
  | some y =>
    have hy : y ∈ L := List.mem_of_getLast? hL
    have e : lstId L = y.id := by simp [lstId, hL]
    rw [e]
    cases hPy : P y with
    | true => rw [if_pos ((hi y hy).2 hPy), lstId, last_filter hL hPy]; rfl
    | false =>
      have h2 : L.filter P = [] := List.filter_eq_nil_iff.2 fun z hz e => by
        have := hp z hz e
        rw [hL] at this
        simp [hPy] at this
      rw [if_neg (fun e => by rw [(hi y hy).1 e] at hPy; cases hPy), h2]
      rfl
theorem hd_in {L : List Nd} {P : Nd → Bool} {ids : List Int} (hi : ∀ y ∈ L, y.id ∈ ids ↔ P y = true) (h0 : (0 : Int) ∉ ids) (hp : ∀ y ∈ L, P y = true → L.head?.map P = some true) : (if hdId L ∈ ids then hdId L else 0) = hdId (L.filter P) := by
  cases hL : L.head? with
  | none =>
    have : L = [] := by simpa using hL
    subst this
    show (if (0 : Int) ∈ ids then (0 : Int) else 0) = 0
    rw [if_neg h0]
  | some y =>
    have hy : y ∈ L := List.mem_of_head? hL
    have e : hdId L = y.id := by simp [hdId, hL]
    rw [e]
    cases hPy : P y with
    | true => rw [if_pos ((hi y hy).2 hPy), hdId, head_filter hL hPy]; rfl
    | false =>
      have h2 : L.filter P = [] := List.filter_eq_nil_iff.2 fun z hz e => by
        have := hp z hz e
        rw [hL] at this
        simp [hPy] at this
      rw [if_neg (fun e => by rw [(hi y hy).1 e] at hPy; cases hPy), h2]
      rfl
/-- A part of a skip graph that no node outside parts: its links are those of its nodes. -/
theorem wit_part {l m : List Nd} (hc : chkV l = 0) (hm : chkV m = 0) {P : Nd → Bool} (hP : ∀ x, x ∈ m ↔ x ∈ l ∧ P x = true) {M : Nat} (hM : M ≤ 17)
    (hU : ∀ i (_hi : i < (srt l).length), P (srt l)[i] = true → ∀ t, let L := ((srt l).take i).filter (smB t (srt l)[i]); ∀ y ∈ L, P y = true → L.getLast?.map P = some true)
    (hV : ∀ i (_hi : i < (srt l).length), P (srt l)[i] = true → ∀ t, let L := ((srt l).drop (i + 1)).filter (smB t (srt l)[i]); ∀ y ∈ L, P y = true → L.head?.map P = some true) :
    witV (((srt l).filter P).map fun x => ⟨x.id, (List.range M).map fun (h : Nat) => lnk (srt l) (h : Int) x⟩) = bldV m M := by
  have hs := srt_filter hc (chkV_zero.1 hm).2.2 hP
  unfold witV bldV
  rw [hs]
  simp only [List.map_map]
  refine List.map_congr_left fun x hx => ?_
  obtain ⟨hxl, hxP⟩ := List.mem_filter.1 hx
  simp only [Function.comp]
  congr 1
  simp only [List.map_map]
  refine List.map_congr_left fun t ht => ?_
  have ht := List.mem_range.1 ht
  simp only [Function.comp]
  obtain ⟨i, hi, rfl⟩ := List.mem_iff_getElem.1 hxl
  rw [lnk_sub (srt_apart hc) (srt_wd hc) (by omega) hi hxP, lnk_split (at_split hi) (srt_apart hc) (srt_wd hc) (by omega)]
  have hids : ∀ y ∈ srt l, y.id ∈ ((srt l).filter P).map Nd.id ↔ P y = true := fun y hy => by
    constructor
    · intro e
      obtain ⟨z, hz, e⟩ := List.mem_map.1 e
      obtain ⟨h1, h2⟩ := List.mem_filter.1 hz
      rwa [id_uniq (srt_apart hc) h1 hy e] at h2
    · intro e
      exact List.mem_map.2 ⟨y, List.mem_filter.2 ⟨hy, e⟩, rfl⟩
  have h0 : (0 : Int) ∉ ((srt l).filter P).map Nd.id := fun e => by
    obtain ⟨z, hz, e⟩ := List.mem_map.1 e
    have := ros_ok hc (srt_mem.1 (List.mem_filter.1 hz).1)
    omega
  have eids : ((srt l).filter P).map (Ld.id ∘ fun x : Nd => (⟨x.id, (List.range M).map fun (h : Nat) => lnk (srt l) (h : Int) x⟩ : Ld)) = ((srt l).filter P).map Nd.id := rfl
  unfold witK lnkS
  rw [filter_swap P, filter_swap P]
  simp only [eids] at *
  rw [lst_in (P := P) (fun y hy => hids y (List.mem_of_mem_take (mflt hy))) h0 (hU i hi hxP t), hd_in (P := P) (fun y hy => hids y (List.mem_of_mem_drop (mflt hy))) h0 (hV i hi hxP t)]
theorem chk_sub {l m : List Nd} (hc : chkV l = 0) (h : m.Sublist l) : chkV m = 0 := by
  obtain ⟨h1, h2, h3⟩ := chkV_zero.1 hc
  refine chkV_zero.2 ⟨by have := h.length_le; omega, List.all_eq_true.2 fun x hx => List.all_eq_true.1 h2 x (h.subset hx), h3.sublist h⟩
theorem head_down {L : List Nd} {P : Nd → Bool} (h : L.Pairwise fun a b => P b = true → P a = true) {y : Nd} (hy : y ∈ L) (hP : P y = true) : L.head?.map P = some true := by
  cases L with
  | nil => cases hy
  | cons x L =>
    rcases List.mem_cons.1 hy with rfl | hy
    · simp [hP]
    · simp [(List.pairwise_cons.1 h).1 y hy hP]
theorem last_up {L : List Nd} {P : Nd → Bool} (h : L.Pairwise fun a b => P a = true → P b = true) {y : Nd} (hy : y ∈ L) (hP : P y = true) : L.getLast?.map P = some true := by
  rw [← List.head?_reverse]
  exact head_down (List.pairwise_reverse.2 h) (List.mem_reverse.2 hy) hP
theorem last_all {L : List Nd} {P : Nd → Bool} (h : ∀ z ∈ L, P z = true) {y : Nd} (hy : y ∈ L) : L.getLast?.map P = some true := by
  cases hL : L.getLast? with
  | none => rw [List.getLast?_eq_none_iff.1 hL] at hy; cases hy
  | some z => simp [h z (List.mem_of_getLast? hL)]
theorem head_all {L : List Nd} {P : Nd → Bool} (h : ∀ z ∈ L, P z = true) {y : Nd} (hy : y ∈ L) : L.head?.map P = some true := by
  cases hL : L.head? with
  | none => rw [List.head?_eq_none_iff.1 hL] at hy; cases hy
  | some z => simp [h z (List.mem_of_head? hL)]
def lowL (l : List Nd) (q : ByteArray) : List Nd := l.filter fun x => kl x.key q
def hghL (l : List Nd) (q : ByteArray) : List Nd := l.filter fun x => !kl x.key q
theorem cut_all {l : List Nd} (hc : chkV l = 0) (q : ByteArray) {M : Nat} (hM : M ≤ 17) : witV ((bldV l M).take (lowL l q).length) = bldV (lowL l q) M ∧ witV ((bldV l M).drop (lowL l q).length) = bldV (hghL l q) M := by
  have hA : Asc (srt l) := (srt_srt l).asc (chkV_zero.1 hc).2.2
  have hdn : (srt l).Pairwise fun a b => kl b.key q = true → kl a.key q = true := hA.imp fun h k => kl_trans h k
  have hup : (srt l).Pairwise fun a b => (!kl a.key q) = true → (!kl b.key q) = true := hA.imp fun {a b} h k => by
    cases hb : kl b.key q
    · rfl
    · rw [kl_trans h hb] at k; exact k
  have hsp := asc_part hdn
  have hlen : (lowL l q).length = ((srt l).filter fun x => kl x.key q).length := ((srt_srt l).1.filter _).length_eq.symm
  have hT : ∀ f : Nd → Ld, ((srt l).map f).take (lowL l q).length = ((srt l).filter fun x => kl x.key q).map f := fun f => by
    rw [← List.map_take]
    conv => lhs; rw [hsp, hlen, List.take_left' rfl]
  have hD : ∀ f : Nd → Ld, ((srt l).map f).drop (lowL l q).length = ((srt l).filter fun x => !kl x.key q).map f := fun f => by
    rw [← List.map_drop]
    conv => lhs; rw [hsp, hlen, List.drop_left' rfl]
  have hpre : ∀ i (hi : i < (srt l).length), ∀ y ∈ (srt l).take i, kl y.key (srt l)[i].key = true := fun i hi y hy => by
    have := hA
    unfold Asc at this
    rw [at_split hi] at this
    exact (List.pairwise_append.1 this).2.2 y hy _ List.mem_cons_self
  have hsuf : ∀ i (hi : i < (srt l).length), ∀ y ∈ (srt l).drop (i + 1), kl (srt l)[i].key y.key = true := fun i hi y hy => by
    have := hA
    unfold Asc at this
    rw [at_split hi] at this
    exact (List.pairwise_cons.1 (List.pairwise_append.1 this).2.1).1 y hy
  constructor
  · rw [← wit_part (m := lowL l q) (P := fun x => kl x.key q) hc (chk_sub hc List.filter_sublist) (fun x => by unfold lowL; rw [List.mem_filter]) hM]
    · exact congrArg witV (hT _)
    · intro i hi hx t L y hy hPy
      exact last_all (fun z hz => kl_trans (hpre i hi z (mflt hz)) hx) hy
    · intro i hi hx t L y hy hPy
      exact head_down ((hdn.sublist (List.drop_sublist _ _)).sublist List.filter_sublist) hy hPy
  · rw [← wit_part (m := hghL l q) (P := fun x => !kl x.key q) hc (chk_sub hc List.filter_sublist) (fun x => by unfold hghL; rw [List.mem_filter]) hM]
    · exact congrArg witV (hD _)
    · intro i hi hx t L y hy hPy
      exact last_up ((hup.sublist (List.take_sublist _ _)).sublist List.filter_sublist) hy hPy
    · intro i hi hx t L y hy hPy
      refine head_all (fun z hz => ?_) hy
      have h1 := hsuf i hi z (mflt hz)
      cases hz2 : kl z.key q
      · rfl
      · rw [kl_trans h1 hz2] at hx; exact hx
/-- How many links a level has: two less for each list than two for each node. -/
theorem cCnt_cls {S : List Nd} (ha : S.Pairwise Nd.apart) {nw : Int → Int} (hn : ∀ x ∈ S, nw x.id = x.id) (t : Nat) : ∀ p, p ≤ S.length → cCnt S nw t p + 2 * (clsK (lowK t) (S.take p)).length = 2 * p
  | 0, _ => by simp [cCnt, clsK]
  | p + 1, hp => by
    have ih := cCnt_cls ha hn t p (by omega)
    have hp' : p < S.length := hp
    rw [cls_first _ _ _ (by omega), List.length_map] at ih
    rw [cls_first _ _ _ hp, List.length_map, List.range_succ, List.filter_append, List.length_append, cCnt, crsB]
    have hk : ∀ j, j < S.length → keyI (lowK t) S j = some (btI S t j) := fun j hj => by rw [keyI_at hj, btI_at hj]
    cases hb : lstI S t p (btI S t p) with
    | none =>
      have hf : fstI (lowK t) S p = true := fstI_iff.2 fun j hj e => by
        rw [hk j (by omega), hk p hp'] at e
        injection e with e
        have h3 : ∀ k, k < p → btI S t k ≠ btI S t p := by
          intro k hk2 e2
          have h4 := lstI_elt (S := S) (t := t) (b := btI S t p) (p := p) (by omega)
          rw [hb] at h4
          have h5 : ((S.take p).filter fun y => decide (lowK t y = btI S t p)) = [] := by simpa using h4
          have h6 := List.filter_eq_nil_iff.1 h5 S[k] (List.mem_take_iff_getElem.2 ⟨k, by omega, rfl⟩)
          rw [btI_at (by omega)] at e2
          exact h6 (decide_eq_true e2)
        exact h3 j hj e
      simp only [List.filter_cons, hf, if_true, List.filter_nil, List.length_singleton]
      simp
      omega
    | some b =>
      obtain ⟨h1, h2, _⟩ := lstI_some.1 hb
      have hf : fstI (lowK t) S p = false := by
        cases hf : fstI (lowK t) S p with
        | false => rfl
        | true => exact absurd (by rw [hk b (by omega), hk p hp', h2]) (fstI_iff.1 hf b h1)
      have hne : nw (idAt S b) ≠ nw (idAt S p) := by
        rw [idAt_lt (by omega), idAt_lt hp', hn _ (List.getElem_mem _), hn _ (List.getElem_mem _)]
        exact (List.pairwise_iff_getElem.1 ha b p (by omega) hp' h1).1
      simp only [List.filter_cons, hf, List.filter_nil]
      simp [hne]
      omega
def wantN (l : List Nd) : Nat → Nat
  | 0 => 0
  | t + 1 => wantN l t + 2 * (l.length - (lstV l (t : Int)).length)
theorem cSum_want {l : List Nd} (hc : chkV l = 0) {nw : Int → Int} (hn : ∀ x ∈ srt l, nw x.id = x.id) : ∀ n, n ≤ 17 → cSum (srt l) nw n = wantN l n
  | 0, _ => rfl
  | t + 1, h => by
    have ih := cSum_want hc hn t (by omega)
    have h1 := cCnt_cls (srt_apart hc) hn t (srt l).length (Nat.le_refl _)
    have hl : (srt l).length = l.length := (srt_srt l).1.length_eq
    have h2 : (lstV l (t : Int)).length = (clsK (lowK t) (srt l)).length := by
      unfold lstV
      rw [if_pos ⟨hc, by simp [lvB]; omega⟩, List.length_map, clsV_in (by omega)]
      rfl
    rw [List.take_length] at h1
    rw [cSum, wantN, ih, h2]
    omega
/-- Keys that ascend, as both programs ask. -/
def kyAt (l : List Nd) (i : Nat) : ByteArray := ((l[i]?).map Nd.key).getD ByteArray.empty
theorem kyAt_lt {l : List Nd} {i : Nat} (h : i < l.length) : kyAt l i = l[i].key := by simp [kyAt, h]
def ordB (l : List Nd) : Bool := decide (∀ i, i < l.length - 1 → kl (kyAt l (i + 1)) (kyAt l i) = false)
theorem ordB_true {l : List Nd} : ordB l = true ↔ ∀ i, i + 1 < l.length → kl (kyAt l (i + 1)) (kyAt l i) = false := by
  unfold ordB
  rw [decide_eq_true_eq]
  exact ⟨fun h i hi => h i (by omega), fun h i hi => h i (by omega)⟩
theorem ordB_false {l : List Nd} {i : Nat} (hi : i + 1 < l.length) (h : kl (kyAt l (i + 1)) (kyAt l i) = true) : ordB l = false := by
  cases ho : ordB l with
  | false => rfl
  | true => rw [ordB_true.1 ho i hi] at h; cases h
theorem ord_srt {l : List Nd} (hc : chkV l = 0) (h : ordB l = true) : srt l = l := by
  have hp := (chkV_zero.1 hc).2.2
  refine (asc_unique _ _ ?_ ((srt_srt l).asc hp) fun x => srt_mem.symm).symm
  have h1 := ordB_true.1 h
  have adj : ∀ i, (hi : i + 1 < l.length) → kl l[i].key l[i + 1].key = true := fun i hi => by
    have h2 := h1 i hi
    rw [kyAt_lt hi, kyAt_lt (by omega)] at h2
    cases h3 : kl l[i].key l[i + 1].key with
    | true => rfl
    | false => exact absurd (kl_tri h3 h2) (List.pairwise_iff_getElem.1 hp i (i + 1) (by omega) hi (by omega)).2
  have far : ∀ d i, (hi : i + d + 1 < l.length) → kl l[i].key l[i + d + 1].key = true := by
    intro d
    induction d with
    | zero => intro i hi; exact adj i hi
    | succ d ih =>
      intro i hi
      exact kl_trans (ih i (by omega)) (adj (i + d + 1) hi)
  refine List.pairwise_iff_getElem.2 fun i j hi hj hij => ?_
  have := far (j - i - 1) i (by omega)
  simpa [show i + (j - i - 1) + 1 = j by omega] using this
theorem ord_of {l : List Nd} (hc : chkV l = 0) (h : srt l = l) : ordB l = true := by
  have hA : Asc l := h ▸ (srt_srt l).asc (chkV_zero.1 hc).2.2
  refine ordB_true.2 fun i hi => ?_
  rw [kyAt_lt hi, kyAt_lt (by omega)]
  exact kl_asymm (List.pairwise_iff_getElem.1 hA i (i + 1) (by omega) hi (by omega))
end Go.Proofs.YtjokbdhineilcaaGreatDoor
