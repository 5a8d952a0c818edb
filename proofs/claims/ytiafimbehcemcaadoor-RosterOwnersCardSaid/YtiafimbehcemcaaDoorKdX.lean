/-
  Rows of rows of nodes: as they are read, and the call's own, to which rows are appended and whose rows grow. No condition.
-/
import Derived.Test.YtiafimbehcemcaaDoorKdN
import Derived.Laws.OwnMore
import Derived.OneCell
namespace Go.Proofs.YtiafimbehcemcaaDoor
open Go.RowKit

/-- Rows of rows below block B, as they are read. -/
def Rws (w : World) (B : Nat) (A : Option Addr) (ls : List (List Nd)) : Prop :=
  ls ≠ [] → ∃ b o, A = some ⟨b, o, none⟩ ∧ b < B ∧ ∀ i (h : i < ls.length), ∃ Ai ci, w.cell? ⟨b, o + i, none⟩ = some (.slice Ai ls[i].length ci) ∧ Nds w B Ai ls[i]
section
variable {w w' : World} {B B' : Nat} {A : Option Addr} {ls : List (List Nd)}
theorem Rws.keep (h : Rws w B A ls) (k : ∀ i, i < B → w'.heap[i]? = w.heap[i]?) : Rws w' B A ls := fun hn => by
  obtain ⟨b, o, e, hb, hc⟩ := h hn
  refine ⟨b, o, e, hb, fun i hi => ?_⟩
  obtain ⟨Ai, ci, h1, h2⟩ := hc i hi
  exact ⟨Ai, ci, (World.cell?_of_block (k b hb)).trans h1, h2.keep k⟩
theorem Rws.below (h : Rws w B A ls) (k : Below B w w') : Rws w' B A ls := h.keep k.block
theorem Rws.more (h : Rws w B A ls) (hB : B ≤ B') : Rws w B' A ls := fun hn => by
  obtain ⟨b, o, e, hb, hc⟩ := h hn
  refine ⟨b, o, e, by omega, fun i hi => ?_⟩
  obtain ⟨Ai, ci, h1, h2⟩ := hc i hi
  exact ⟨Ai, ci, h1, h2.more hB⟩
theorem Rws.at_ (h : Rws w B A ls) {i : Nat} (hi : i < ls.length) : ∃ b o Ai ci, A = some ⟨b, o, none⟩ ∧ b < B ∧ w.cell? ⟨b, o + i, none⟩ = some (.slice Ai ls[i].length ci) ∧ Nds w B Ai ls[i] := by
  obtain ⟨b, o, e, hb, hc⟩ := h (by intro e; rw [e] at hi; simp at hi)
  obtain ⟨Ai, ci, h1, h2⟩ := hc i hi
  exact ⟨b, o, Ai, ci, e, hb, h1, h2⟩
end
theorem infoRow : (Tryd.prog.info? 23).map (fun i => (i.zero, i.size, i.bytes)) = some (some (.slice none 0 0), 1, 24) := by kernel_rfl
theorem infoR_parts : ∃ i, Tryd.prog.info? 23 = some i ∧ i.zero = some (.slice none 0 0) ∧ i.size = 1 ∧ i.bytes = 24 := by
  obtain ⟨i, h, e⟩ := Option.map_eq_some_iff.1 infoRow
  injection e with e1 e2
  injection e2 with e2 e3
  exact ⟨i, h, e1, e2, e3⟩
theorem OwnN.lt {w : World} {base : Nat} {v : Value} {l : List Nd} (h : OwnN w base v l) : ∀ k, v.ownBlock = some k → base ≤ k ∧ k < w.heap.size := World.ownsRow.lt h
theorem OwnN.kept {w w' : World} {base : Nat} {v : Value} {l : List Nd} {row : Option Nat} (h : OwnN w base v l) (hg : w.grownBy w' row) (hne : v.ownBlock = none ∨ v.ownBlock ≠ row) : OwnN w' base v l := World.ownsRow.kept h hg hne
/-- No two rows of a list of slices lie in one block. -/
def Sep (vs : List Value) : Prop := ∀ (i j : Nat) (u u' : Value), vs[i]? = some u → vs[j]? = some u' → i ≠ j → u.ownBlock = none ∨ u.ownBlock ≠ u'.ownBlock
/-- Rows of rows of the call's own. -/
def OwnR (w : World) (base : Nat) (v : Value) (ls : List (List Nd)) : Prop :=
  ∃ vs : List Value, w.ownsRow base 23 1 v ls.length vs ∧ (∀ (i : Nat) (u : Value) (l : List Nd), vs[i]? = some u → ls[i]? = some l → OwnN w base u l) ∧ Sep vs ∧ ∀ (i : Nat) (u : Value), vs[i]? = some u → u.ownBlock = none ∨ u.ownBlock ≠ v.ownBlock
theorem OwnR.nil (w : World) (base : Nat) : OwnR w base (.slice none 0 0) [] := ⟨[], World.ownsRow_nil _ _ _ _, by simp, by intro i j u u' h; simp at h, by simp⟩
section
variable {w w' : World} {base : Nat} {v : Value} {ls : List (List Nd)}
theorem OwnR.kept {row : Option Nat} (h : OwnR w base v ls) (hg : w.grownBy w' row) (hr : ∀ k, row = some k → k < base) : OwnR w' base v ls := by
  obtain ⟨vs, h1, h2, h3, h4⟩ := h
  have hn : ∀ u : Value, (∀ k, u.ownBlock = some k → base ≤ k) → u.ownBlock = none ∨ u.ownBlock ≠ row := fun u hu => by
    cases hb : u.ownBlock with
    | none => exact .inl rfl
    | some k =>
      refine .inr fun e => ?_
      have := hr k e.symm
      have := hu k hb
      omega
  refine ⟨vs, h1.kept hg (hn v fun k hk => (h1.lt k hk).1), fun i u l hu hl => (h2 i u l hu hl).kept hg (hn u fun k hk => ((h2 i u l hu hl).lt k hk).1), h3, h4⟩
theorem OwnR.below (h : OwnR w base v ls) (k : Below w.heap.size w w') : OwnR w' base v ls :=
  h.kept (row := none) ⟨k.os, k.tape, k.output, k.size, fun i hi _ => k.block i hi⟩ (fun _ e => by cases e)
theorem OwnR.len {vs : List Value} (h1 : w.ownsRow base 23 1 v ls.length vs) : vs.length = ls.length := by have := h1.1; omega
theorem OwnR.read (h : OwnR w base v ls) : ∃ A c, v = .slice A ls.length c ∧ Rws w w.heap.size A ls := by
  obtain ⟨vs, h1, h2, h3, h4⟩ := h
  have hlen := OwnR.len h1
  rcases h1.2 with ⟨rfl, h0⟩ | ⟨g, cap, cur, rfl, hb, hg, hnc, hcm, hcs, htake⟩
  · have : ls = [] := List.eq_nil_of_length_eq_zero h0
    subst this
    exact ⟨none, 0, rfl, fun hn => absurd rfl hn⟩
  · refine ⟨_, cap, rfl, fun _ => ⟨g, 0, rfl, Has.lt hg, fun i hi => ?_⟩⟩
    have hv : vs[i]? = some (vs[i]'(by omega)) := List.getElem?_eq_getElem (by omega)
    obtain ⟨Ai, ci, e, hr⟩ := (h2 i _ ls[i] hv (List.getElem?_eq_getElem hi)).read
    refine ⟨Ai, ci, ?_, hr⟩
    rw [Nat.zero_add, h1.cellAt i (by omega), hv, e]
theorem OwnR.lt (h : OwnR w base v ls) : ∀ k, v.ownBlock = some k → base ≤ k ∧ k < w.heap.size := by
  obtain ⟨vs, h1, _⟩ := h
  exact h1.lt
/-- A row of nodes is appended that is nil. -/
theorem OwnR.add (h : OwnR w base v ls) {vs : List Value} {v' : Value} (h1 : w.ownsRow base 23 1 v ls.length vs) (h' : w'.ownsRow base 23 1 v' (ls.length + 1) (vs ++ [.slice none 0 0])) (hg : w.grownBy w' v.ownBlock) (hat : v'.ownBlock = v.ownBlock ∨ ∃ k, w.heap.size ≤ k ∧ v'.ownBlock = some k) : OwnR w' base v' (ls ++ [[]]) := by
  obtain ⟨vs0, k1, h2, h3, h4⟩ := h
  have hl0 := OwnR.len k1
  have hl1 := OwnR.len h1
  have e : vs0 = vs := by
    rcases k1.2 with ⟨rfl, h0⟩ | ⟨g, cap, cur, rfl, hb, hg, hnc, hcm, hcs, htake⟩
    · rw [List.eq_nil_of_length_eq_zero (hl0.trans h0), List.eq_nil_of_length_eq_zero (hl1.trans h0)]
    · rcases h1.2 with ⟨e, _⟩ | ⟨g', cap', cur', e, _, hg', _, _, _, htake'⟩
      · cases e
      · injection e with e1 _ e2
        injection e1 with e1
        injection e1 with e1
        subst e1
        rw [hg] at hg'
        injection hg' with hg'
        injection hg' with hg'
        rw [← htake, ← htake', hg']
  subst e
  have hlt : ∀ (i : Nat) (u : Value), vs0[i]? = some u → ∃ l, ls[i]? = some l := fun i u hu => by
    have : i < vs0.length := by
      rcases Nat.lt_or_ge i vs0.length with h5 | h5
      · exact h5
      · rw [List.getElem?_eq_none h5] at hu; cases hu
    exact ⟨_, List.getElem?_eq_getElem (by omega)⟩
  have hcase : ∀ (i : Nat) (u : Value), (vs0 ++ [Value.slice none 0 0])[i]? = some u → (vs0[i]? = some u ∧ i < vs0.length) ∨ (i = vs0.length ∧ u = .slice none 0 0) := fun i u hu => by
    rcases Nat.lt_trichotomy i vs0.length with h5 | h5 | h5
    · rw [List.getElem?_append_left h5] at hu
      exact .inl ⟨hu, h5⟩
    · subst h5
      rw [List.getElem?_append_right (Nat.le_refl _)] at hu
      simp at hu
      exact .inr ⟨rfl, hu.symm⟩
    · rw [List.getElem?_eq_none (by simp; omega)] at hu
      cases hu
  refine ⟨vs0 ++ [.slice none 0 0], by rw [List.length_append]; exact h', ?_, ?_, ?_⟩
  · intro i u l hu hl
    rcases hcase i u hu with ⟨h5, h6⟩ | ⟨h5, h6⟩
    · rw [List.getElem?_append_left (by omega)] at hl
      exact (h2 i u l h5 hl).kept hg (h4 i u h5)
    · subst h5 h6
      rw [List.getElem?_append_right (by omega), hl0, Nat.sub_self] at hl
      simp at hl
      subst hl
      exact OwnN.nil _ _
  · intro i j u u' hu hu' hij
    rcases hcase i u hu with ⟨h5, h6⟩ | ⟨h5, h6⟩
    · rcases hcase j u' hu' with ⟨k5, k6⟩ | ⟨k5, k6⟩
      · exact h3 i j u u' h5 k5 hij
      · subst k6
        cases hb : u.ownBlock with
        | none => exact .inl rfl
        | some q => exact .inr (fun e => by cases e)
    · subst h6
      exact .inl rfl
  · intro i u hu
    rcases hcase i u hu with ⟨h5, h6⟩ | ⟨h5, h6⟩
    · rcases hat with h7 | ⟨k, hk, h7⟩
      · rw [h7]; exact h4 i u h5
      · obtain ⟨l, hl⟩ := hlt i u h5
        cases hb : u.ownBlock with
        | none => exact .inl rfl
        | some q =>
          refine .inr fun e => ?_
          have := ((h2 i u l h5 hl).lt q hb).2
          rw [h7] at e
          have := Option.some.inj e
          omega
    · subst h6
      exact .inl rfl
/-- The row at p is put anew, which has grown where it lay or in a new block. -/
theorem OwnR.put {p g cap : Nat} {u u' : Value} {l' : List Nd} {w1 : World} (h : OwnR w base (.slice (some ⟨g, 0, none⟩) ls.length cap) ls) (hp : p < ls.length) {vs : List Value} (h1 : w.ownsRow base 23 1 (.slice (some ⟨g, 0, none⟩) ls.length cap) ls.length vs) (hu : vs[p]? = some u)
    (h' : OwnN w1 base u' l') (hg : w.grownBy w1 u.ownBlock) (hat : u'.ownBlock = u.ownBlock ∨ ∃ k, w.heap.size ≤ k ∧ u'.ownBlock = some k) : OwnR (w1.setCell ⟨g, p, none⟩ u') base (.slice (some ⟨g, 0, none⟩) ls.length cap) (ls.set p l') ∧ w1.grownBy (w1.setCell ⟨g, p, none⟩ u') (some g) := by
  obtain ⟨vs0, k1, h2, h3, h4⟩ := h
  have hl0 := OwnR.len k1
  have hl1 := OwnR.len h1
  have e : vs0 = vs := by
    rcases k1.2 with ⟨e, h0⟩ | ⟨g1, cap1, cur, e1, hb, hg, hnc, hcm, hcs, htake⟩
    · cases e
    · rcases h1.2 with ⟨e, _⟩ | ⟨g', cap', cur', e2, _, hg', _, _, _, htake'⟩
      · cases e
      · injection e1 with e1 _ _
        injection e1 with e1
        injection e1 with e1
        injection e2 with e2 _ _
        injection e2 with e2
        injection e2 with e2
        subst e1 e2
        rw [hg] at hg'
        injection hg' with hg'
        injection hg' with hg'
        rw [← htake, ← htake', hg']
  subst e
  have hgb : u.ownBlock = none ∨ u.ownBlock ≠ some g := h4 p u hu
  have hnot : u'.ownBlock ≠ some g := by
    rcases hat with h7 | ⟨k, hk, h7⟩
    · rw [h7]
      rcases hgb with h8 | h8
      · rw [h8]; intro e; cases e
      · exact h8
    · rw [h7]
      intro e
      have e := Option.some.inj e
      have := (k1.lt g rfl).2
      omega
  have hk1 : w1.ownsRow base 23 1 (.slice (some ⟨g, 0, none⟩) ls.length cap) ls.length vs0 := k1.kept hg (by
    rcases hgb with h8 | h8
    · rw [h8]; exact .inr (by intro e; cases e)
    · exact .inr (fun e => h8 e.symm))
  obtain ⟨s1, s2⟩ := hk1.stored p u'
  have hset : ∀ (i : Nat) (z : Value), (vs0.set p u')[i]? = some z → (i = p ∧ z = u') ∨ (i ≠ p ∧ vs0[i]? = some z) := fun i z hz => by
    by_cases hip : i = p
    · subst hip
      rw [List.getElem?_set_self (by omega)] at hz
      exact .inl ⟨rfl, (Option.some.inj hz).symm⟩
    · rw [List.getElem?_set_ne (fun e => hip e.symm)] at hz
      exact .inr ⟨hip, hz⟩
  refine ⟨⟨vs0.set p u', by rw [List.length_set]; exact s1, ?_, ?_, ?_⟩, s2⟩
  · intro i z m hz hm
    rcases hset i z hz with ⟨rfl, rfl⟩ | ⟨h5, h6⟩
    · rw [List.getElem?_set_self hp] at hm
      have hm := Option.some.inj hm
      subst hm
      exact h'.kept s2 (.inr hnot)
    · rw [List.getElem?_set_ne (fun e => h5 e.symm)] at hm
      exact ((h2 i z m h6 hm).kept hg (by
        rcases h3 i p z u h6 hu h5 with h8 | h8
        · exact .inl h8
        · exact .inr h8)).kept s2 (h4 i z h6)
  · intro i j z z' hz hz' hij
    rcases hset i z hz with ⟨rfl, rfl⟩ | ⟨h5, h6⟩
    · rcases hset j z' hz' with ⟨rfl, rfl⟩ | ⟨k5, k6⟩
      · exact absurd rfl hij
      · rcases hat with h7 | ⟨k, hk, h7⟩
        · rw [h7]; exact h3 _ j u z' hu k6 hij
        · refine .inr fun e => ?_
          rw [h7] at e
          have hj : j < ls.length := by
            rcases Nat.lt_or_ge j vs0.length with h9 | h9
            · omega
            · rw [List.getElem?_eq_none h9] at k6; cases k6
          have := ((h2 j z' _ k6 (List.getElem?_eq_getElem hj)).lt k e.symm).2
          omega
    · rcases hset j z' hz' with ⟨rfl, rfl⟩ | ⟨k5, k6⟩
      · rcases hat with h7 | ⟨k, hk, h7⟩
        · rw [h7]; exact h3 i _ z u h6 hu hij
        · have hi : i < ls.length := by
            rcases Nat.lt_or_ge i vs0.length with h9 | h9
            · omega
            · rw [List.getElem?_eq_none h9] at h6; cases h6
          cases hb : z.ownBlock with
          | none => exact .inl rfl
          | some q =>
            refine .inr fun e => ?_
            have := ((h2 i z _ h6 (List.getElem?_eq_getElem hi)).lt q hb).2
            rw [h7] at e
            have := Option.some.inj e
            omega
      · exact h3 i j z z' h6 k6 hij
  · intro i z hz
    rcases hset i z hz with ⟨rfl, rfl⟩ | ⟨h5, h6⟩
    · exact .inr hnot
    · exact h4 i z h6
end
end Go.Proofs.YtiafimbehcemcaaDoor
