/-
  Rows of rows of nodes: as they are read, and the call's own, to which rows are appended and whose rows grow. No condition.
  Rows of nodes to which lists of nodes are appended, also where the order of the operations is left open; parts of lists of nodes. No condition.
  Appends that say where the new row lies: of one node to a row, and of a nil row to a row of rows. No condition.
-/
import Derived.Test.YtjokbdhineilcaaGreatDoorKdN
import Derived.Laws.OwnMore
import Derived.OneCell
import Derived.Deep.RegionLaw
import Derived.Deep.RegionHeld3
namespace Go.Proofs.YtjokbdhineilcaaGreatDoor
section
open Go.RowKit

/-- Rows of rows below block B, as they are read. -/
def Rws (w : World) (B : Nat) (A : Option Addr) (ls : List (List Nd)) : Prop :=
  ls ≠ [] → ∃ b o, A = some ⟨b, o, none⟩ ∧ b < B ∧ ∀ i (h : i < ls.length), ∃ Ai ci, w.cell? ⟨b, o + i, none⟩ = some (.slice Ai ls[i].length ci) ∧ Nds w B Ai ls[i]
section
variable {w w' : World} {B B' : Nat} {A : Option Addr} {ls : List (List Nd)}
theorem Rws.keep (h : Rws w B A ls) (k : ∀ i, i < B → w'.heap[i]? = w.heap[i]?) : Rws w' B A ls := fun hn => by
  obtain ⟨b, o, e, hb, hc⟩ := h hn
  refine ⟨b, o, e, hb, fun i hi => ?_⟩
  obtain ⟨Ai, ci, h1, h2⟩ := hc i hi
  exact ⟨Ai, ci, (World.cell?_of_block (k b hb)).trans h1, h2.keep k⟩
theorem Rws.below (h : Rws w B A ls) (k : Below B w w') : Rws w' B A ls := h.keep k.block
theorem Rws.more (h : Rws w B A ls) (hB : B ≤ B') : Rws w B' A ls := fun hn => by
  obtain ⟨b, o, e, hb, hc⟩ := h hn
  refine ⟨b, o, e, by omega, fun i hi => ?_⟩
  obtain ⟨Ai, ci, h1, h2⟩ := hc i hi
  exact ⟨Ai, ci, h1, h2.more hB⟩
theorem Rws.at_ (h : Rws w B A ls) {i : Nat} (hi : i < ls.length) : ∃ b o Ai ci, A = some ⟨b, o, none⟩ ∧ b < B ∧ w.cell? ⟨b, o + i, none⟩ = some (.slice Ai ls[i].length ci) ∧ Nds w B Ai ls[i] := by
  obtain ⟨b, o, e, hb, hc⟩ := h (by intro e; rw [e] at hi; simp at hi)
  obtain ⟨Ai, ci, h1, h2⟩ := hc i hi
  exact ⟨b, o, Ai, ci, e, hb, h1, h2⟩
end
theorem infoRow : (Tryz.prog.info? 28).map (fun i => (i.zero, i.size, i.bytes)) = some (some (.slice none 0 0), 1, 24) := by kernel_rfl
theorem infoR_parts : ∃ i, Tryz.prog.info? 28 = some i ∧ i.zero = some (.slice none 0 0) ∧ i.size = 1 ∧ i.bytes = 24 := by
  obtain ⟨i, h, e⟩ := Option.map_eq_some_iff.1 infoRow
  injection e with e1 e2
  injection e2 with e2 e3
  exact ⟨i, h, e1, e2, e3⟩
theorem OwnN.lt {w : World} {base : Nat} {v : Value} {l : List Nd} (h : OwnN w base v l) : ∀ k, v.ownBlock = some k → base ≤ k ∧ k < w.heap.size := World.ownsRow.lt h
theorem OwnN.kept {w w' : World} {base : Nat} {v : Value} {l : List Nd} {row : Option Nat} (h : OwnN w base v l) (hg : w.grownBy w' row) (hne : v.ownBlock = none ∨ v.ownBlock ≠ row) : OwnN w' base v l := World.ownsRow.kept h hg hne
/-- No two rows of a list of slices lie in one block. -/
def Sep (vs : List Value) : Prop := ∀ (i j : Nat) (u u' : Value), vs[i]? = some u → vs[j]? = some u' → i ≠ j → u.ownBlock = none ∨ u.ownBlock ≠ u'.ownBlock
/-- Rows of rows of the call's own. -/
def OwnR (w : World) (base : Nat) (v : Value) (ls : List (List Nd)) : Prop :=
  ∃ vs : List Value, w.ownsRow base 28 1 v ls.length vs ∧ (∀ (i : Nat) (u : Value) (l : List Nd), vs[i]? = some u → ls[i]? = some l → OwnN w base u l) ∧ Sep vs ∧ ∀ (i : Nat) (u : Value), vs[i]? = some u → u.ownBlock = none ∨ u.ownBlock ≠ v.ownBlock
theorem OwnR.nil (w : World) (base : Nat) : OwnR w base (.slice none 0 0) [] := ⟨[], World.ownsRow_nil _ _ _ _, by simp, by intro i j u u' h; simp at h, by simp⟩
section
variable {w w' : World} {base : Nat} {v : Value} {ls : List (List Nd)}
theorem OwnR.kept {row : Option Nat} (h : OwnR w base v ls) (hg : w.grownBy w' row) (hr : ∀ k, row = some k → k < base) : OwnR w' base v ls := by
  obtain ⟨vs, h1, h2, h3, h4⟩ := h
  have hn : ∀ u : Value, (∀ k, u.ownBlock = some k → base ≤ k) → u.ownBlock = none ∨ u.ownBlock ≠ row := fun u hu => by
    cases hb : u.ownBlock with
    | none => exact .inl rfl
    | some k =>
      refine .inr fun e => ?_
      have := hr k e.symm
      have := hu k hb
      omega
  refine ⟨vs, h1.kept hg (hn v fun k hk => (h1.lt k hk).1), fun i u l hu hl => (h2 i u l hu hl).kept hg (hn u fun k hk => ((h2 i u l hu hl).lt k hk).1), h3, h4⟩
theorem OwnR.below (h : OwnR w base v ls) (k : Below w.heap.size w w') : OwnR w' base v ls :=
  h.kept (row := none) ⟨k.os, k.tape, k.output, k.size, fun i hi _ => k.block i hi⟩ (fun _ e => by cases e)
theorem OwnR.len {vs : List Value} (h1 : w.ownsRow base 28 1 v ls.length vs) : vs.length = ls.length := by have := h1.1; omega
theorem OwnR.read (h : OwnR w base v ls) : ∃ A c, v = .slice A ls.length c ∧ Rws w w.heap.size A ls := by
  obtain ⟨vs, h1, h2, h3, h4⟩ := h
  have hlen := OwnR.len h1
  rcases h1.2 with ⟨rfl, h0⟩ | ⟨g, cap, cur, rfl, hb, hg, hnc, hcm, hcs, htake⟩
  · have : ls = [] := List.eq_nil_of_length_eq_zero h0
    subst this
    exact ⟨none, 0, rfl, fun hn => absurd rfl hn⟩
  · refine ⟨_, cap, rfl, fun _ => ⟨g, 0, rfl, Has.lt hg, fun i hi => ?_⟩⟩
    have hv : vs[i]? = some (vs[i]'(by omega)) := List.getElem?_eq_getElem (by omega)
    obtain ⟨Ai, ci, e, hr⟩ := (h2 i _ ls[i] hv (List.getElem?_eq_getElem hi)).read
    refine ⟨Ai, ci, ?_, hr⟩
    rw [Nat.zero_add, h1.cellAt i (by omega), hv, e]
theorem OwnR.lt (h : OwnR w base v ls) : ∀ k, v.ownBlock = some k → base ≤ k ∧ k < w.heap.size := by
  obtain ⟨vs, h1, _⟩ := h
  exact h1.lt
/-- A row of nodes is appended that is nil. -/
theorem OwnR.add (h : OwnR w base v ls) {vs : List Value} {v' : Value} (h1 : w.ownsRow base 28 1 v ls.length vs) (h' : w'.ownsRow base 28 1 v' (ls.length + 1) (vs ++ [.slice none 0 0])) (hg : w.grownBy w' v.ownBlock) (hat : v'.ownBlock = v.ownBlock ∨ ∃ k, w.heap.size ≤ k ∧ v'.ownBlock = some k) : OwnR w' base v' (ls ++ [[]]) := by
  obtain ⟨vs0, k1, h2, h3, h4⟩ := h
  have hl0 := OwnR.len k1
  have hl1 := OwnR.len h1
  have e : vs0 = vs := by
    rcases k1.2 with ⟨rfl, h0⟩ | ⟨g, cap, cur, rfl, hb, hg, hnc, hcm, hcs, htake⟩
    · rw [List.eq_nil_of_length_eq_zero (hl0.trans h0), List.eq_nil_of_length_eq_zero (hl1.trans h0)]
    · rcases h1.2 with ⟨e, _⟩ | ⟨g', cap', cur', e, _, hg', _, _, _, htake'⟩
      · cases e
      · injection e with e1 _ e2
        injection e1 with e1
        injection e1 with e1
        subst e1
        rw [hg] at hg'
        injection hg' with hg'
        injection hg' with hg'
        rw [← htake, ← htake', hg']
  subst e
  have hlt : ∀ (i : Nat) (u : Value), vs0[i]? = some u → ∃ l, ls[i]? = some l := fun i u hu => by
    have : i < vs0.length := by
      rcases Nat.lt_or_ge i vs0.length with h5 | h5
      · exact h5
      · rw [List.getElem?_eq_none h5] at hu; cases hu
    exact ⟨_, List.getElem?_eq_getElem (by omega)⟩
  have hcase : ∀ (i : Nat) (u : Value), (vs0 ++ [Value.slice none 0 0])[i]? = some u → (vs0[i]? = some u ∧ i < vs0.length) ∨ (i = vs0.length ∧ u = .slice none 0 0) := fun i u hu => by
    rcases Nat.lt_trichotomy i vs0.length with h5 | h5 | h5
    · rw [List.getElem?_append_left h5] at hu
      exact .inl ⟨hu, h5⟩
    · subst h5
      rw [List.getElem?_append_right (Nat.le_refl _)] at hu
      simp at hu
      exact .inr ⟨rfl, hu.symm⟩
    · rw [List.getElem?_eq_none (by simp; omega)] at hu
      cases hu
  refine ⟨vs0 ++ [.slice none 0 0], by rw [List.length_append]; exact h', ?_, ?_, ?_⟩
  · intro i u l hu hl
    rcases hcase i u hu with ⟨h5, h6⟩ | ⟨h5, h6⟩
    · rw [List.getElem?_append_left (by omega)] at hl
      exact (h2 i u l h5 hl).kept hg (h4 i u h5)
    · subst h5 h6
      rw [List.getElem?_append_right (by omega), hl0, Nat.sub_self] at hl
      simp at hl
      subst hl
      exact OwnN.nil _ _
  · intro i j u u' hu hu' hij
    rcases hcase i u hu with ⟨h5, h6⟩ | ⟨h5, h6⟩
    · rcases hcase j u' hu' with ⟨k5, k6⟩ | ⟨k5, k6⟩
      · exact h3 i j u u' h5 k5 hij
      · subst k6
        cases hb : u.ownBlock with
        | none => exact .inl rfl
        | some q => exact .inr (fun e => by cases e)
    · subst h6
      exact .inl rfl
  · intro i u hu
    rcases hcase i u hu with ⟨h5, h6⟩ | ⟨h5, h6⟩
    · rcases hat with h7 | ⟨k, hk, h7⟩
      · rw [h7]; exact h4 i u h5
      · obtain ⟨l, hl⟩ := hlt i u h5
        cases hb : u.ownBlock with
        | none => exact .inl rfl
        | some q =>
          refine .inr fun e => ?_
          have := ((h2 i u l h5 hl).lt q hb).2
          rw [h7] at e
          have := Option.some.inj e
          omega
    · subst h6
      exact .inl rfl
/-- The row at p is put anew, which has grown where it lay or in a new block. -/
theorem OwnR.put {p g cap : Nat} {u u' : Value} {l' : List Nd} {w1 : World} (h : OwnR w base (.slice (some ⟨g, 0, none⟩) ls.length cap) ls) (hp : p < ls.length) {vs : List Value} (h1 : w.ownsRow base 28 1 (.slice (some ⟨g, 0, none⟩) ls.length cap) ls.length vs) (hu : vs[p]? = some u)
    (h' : OwnN w1 base u' l') (hg : w.grownBy w1 u.ownBlock) (hat : u'.ownBlock = u.ownBlock ∨ ∃ k, w.heap.size ≤ k ∧ u'.ownBlock = some k) : OwnR (w1.setCell ⟨g, p, none⟩ u') base (.slice (some ⟨g, 0, none⟩) ls.length cap) (ls.set p l') ∧ w1.grownBy (w1.setCell ⟨g, p, none⟩ u') (some g) := by
  obtain ⟨vs0, k1, h2, h3, h4⟩ := h
  have hl0 := OwnR.len k1
  have hl1 := OwnR.len h1
  have e : vs0 = vs := by
    rcases k1.2 with ⟨e, h0⟩ | ⟨g1, cap1, cur, e1, hb, hg, hnc, hcm, hcs, htake⟩
    · cases e
    · rcases h1.2 with ⟨e, _⟩ | ⟨g', cap', cur', e2, _, hg', _, _, _, htake'⟩
      · cases e
      · injection e1 with e1 _ _
        injection e1 with e1
        injection e1 with e1
        injection e2 with e2 _ _
        injection e2 with e2
        injection e2 with e2
        subst e1 e2
        rw [hg] at hg'
        injection hg' with hg'
        injection hg' with hg'
        rw [← htake, ← htake', hg']
  subst e
  have hgb : u.ownBlock = none ∨ u.ownBlock ≠ some g := h4 p u hu
  have hnot : u'.ownBlock ≠ some g := by
    rcases hat with h7 | ⟨k, hk, h7⟩
    · rw [h7]
      rcases hgb with h8 | h8
      · rw [h8]; intro e; cases e
      · exact h8
    · rw [h7]
      intro e
      have e := Option.some.inj e
      have := (k1.lt g rfl).2
      omega
  have hk1 : w1.ownsRow base 28 1 (.slice (some ⟨g, 0, none⟩) ls.length cap) ls.length vs0 := k1.kept hg (by
    rcases hgb with h8 | h8
    · rw [h8]; exact .inr (by intro e; cases e)
    · exact .inr (fun e => h8 e.symm))
  obtain ⟨s1, s2⟩ := hk1.stored p u'
  have hset : ∀ (i : Nat) (z : Value), (vs0.set p u')[i]? = some z → (i = p ∧ z = u') ∨ (i ≠ p ∧ vs0[i]? = some z) := fun i z hz => by
    by_cases hip : i = p
    · subst hip
      rw [List.getElem?_set_self (by omega)] at hz
      exact .inl ⟨rfl, (Option.some.inj hz).symm⟩
    · rw [List.getElem?_set_ne (fun e => hip e.symm)] at hz
      exact .inr ⟨hip, hz⟩
  refine ⟨⟨vs0.set p u', by rw [List.length_set]; exact s1, ?_, ?_, ?_⟩, s2⟩
  · intro i z m hz hm
    rcases hset i z hz with ⟨rfl, rfl⟩ | ⟨h5, h6⟩
    · rw [List.getElem?_set_self hp] at hm
      have hm := Option.some.inj hm
      subst hm
      exact h'.kept s2 (.inr hnot)
    · rw [List.getElem?_set_ne (fun e => h5 e.symm)] at hm
      exact ((h2 i z m h6 hm).kept hg (by
        rcases h3 i p z u h6 hu h5 with h8 | h8
        · exact .inl h8
        · exact .inr h8)).kept s2 (h4 i z h6)
  · intro i j z z' hz hz' hij
    rcases hset i z hz with ⟨rfl, rfl⟩ | ⟨h5, h6⟩
    · rcases hset j z' hz' with ⟨rfl, rfl⟩ | ⟨k5, k6⟩
      · exact absurd rfl hij
      · rcases hat with h7 | ⟨k, hk, h7⟩
        · rw [h7]; exact h3 _ j u z' hu k6 hij
        · refine .inr fun e => ?_
          rw [h7] at e
          have hj : j < ls.length := by
            rcases Nat.lt_or_ge j vs0.length with h9 | h9
            · omega
            · rw [List.getElem?_eq_none h9] at k6; cases k6
          have := ((h2 j z' _ k6 (List.getElem?_eq_getElem hj)).lt k e.symm).2
          omega
    · rcases hset j z' hz' with ⟨rfl, rfl⟩ | ⟨k5, k6⟩
      · rcases hat with h7 | ⟨k, hk, h7⟩
        · rw [h7]; exact h3 i _ z u h6 hu hij
        · have hi : i < ls.length := by
            rcases Nat.lt_or_ge i vs0.length with h9 | h9
            · omega
            · rw [List.getElem?_eq_none h9] at h6; cases h6
          cases hb : z.ownBlock with
          | none => exact .inl rfl
          | some q =>
            refine .inr fun e => ?_
            have := ((h2 i z _ h6 (List.getElem?_eq_getElem hi)).lt q hb).2
            rw [h7] at e
            have := Option.some.inj e
            omega
      · exact h3 i j z z' h6 k6 hij
  · intro i z hz
    rcases hset i z hz with ⟨rfl, rfl⟩ | ⟨h5, h6⟩
    · exact .inr hnot
    · exact h4 i z h6
end
end
section
open Go.RowKit

theorem flatN_ones (l : List Nd) : ∀ u ∈ flatN l, u.oneCell' = true := by
  intro u hu
  simp only [flatN, List.mem_flatMap] at hu
  obtain ⟨c, _, hc⟩ := hu
  simp at hc
  rcases hc with rfl | rfl | rfl <;> rfl
theorem flatN_append (a b : List Nd) : flatN (a ++ b) = flatN a ++ flatN b := by simp [flatN]
theorem Nds.news {w : World} {B : Nat} {A : Option Addr} {l : List Nd} (h : Nds w B A l) {ad : Addr} (e : A = some ad) : ∀ j u, (flatN l)[j]? = some u → w.cell? (ad.add j) = some u := by
  intro j u hj
  rcases Nat.lt_or_ge j (l.length * 3) with hlt | hge
  · have hi : j / 3 < l.length := by omega
    obtain ⟨b, o, e2, _, h1, h2, h3⟩ := h.at_ hi
    obtain ⟨k1, k2, k3⟩ := flatN_at l (j / 3) hi
    rw [e] at e2
    injection e2 with e2
    subst e2
    rw [add_at]
    have h5 : j % 3 = 0 ∨ j % 3 = 1 ∨ j % 3 = 2 := by omega
    rcases h5 with h5 | h5 | h5
    · rw [show j = j / 3 * 3 by omega] at hj ⊢
      rw [k1] at hj
      rw [h1, ← hj]
    · rw [show j = j / 3 * 3 + 1 by omega] at hj ⊢
      rw [k2] at hj
      rw [← Nat.add_assoc, h2, ← hj]
    · rw [show j = j / 3 * 3 + 2 by omega] at hj ⊢
      rw [k3] at hj
      rw [← Nat.add_assoc, h3, ← hj]
  · rw [List.getElem?_eq_none (by rw [flatN_len]; exact hge)] at hj
    cases hj
theorem OwnN.empty (w : World) : OwnN (w.alloc (.cells #[] 25)) w.heap.size (.slice (some ⟨w.heap.size, 0, none⟩) 0 0) [] :=
  ⟨rfl, .inr ⟨w.heap.size, 0, #[], rfl, Nat.le_refl _, heap_alloc_new w _, Nat.le_refl _, by unfold maxLen; omega, rfl, rfl⟩⟩
theorem OwnN.open_ {w : World} {base : Nat} {v : Value} {l : List Nd} (h : OwnN w base v l) (hl : l ≠ []) : ∃ G cap, v = .slice (some ⟨G, 0, none⟩) l.length cap ∧ base ≤ G ∧ G < w.heap.size ∧ l.length ≤ cap ∧ cap ≤ maxLen ∧ Nds w w.heap.size (some ⟨G, 0, none⟩) l := by
  obtain ⟨A, c, rfl, hr⟩ := h.read
  obtain ⟨h1, ⟨h0, h2⟩ | ⟨g, cap, cur, e, h4, h5, h6, h7, _⟩⟩ := h
  · exact absurd (List.eq_nil_of_length_eq_zero h2) hl
  · injection e with e1 _ e2
    subst e1 e2
    exact ⟨g, c, rfl, h4, Has.lt h5, h6, h7, hr⟩
theorem Nds.cut {w : World} {B G : Nat} {l : List Nd} (h : Nds w B (some ⟨G, 0, none⟩) l) (k : Nat) : Nds w B (some ⟨G, k * 3, none⟩) (l.drop k) := fun hn => by
  have hk : k < l.length := by
    rcases Nat.lt_or_ge k l.length with h1 | h1
    · exact h1
    · exact absurd (List.drop_eq_nil_of_le h1) hn
  obtain ⟨b, o, e, hb, hc⟩ := h (by intro e; rw [e] at hk; simp at hk)
  injection e with e
  injection e with e1 e2
  subst e1 e2
  refine ⟨G, k * 3, rfl, hb, fun i hi => ?_⟩
  have hi' : k + i < l.length := by simp at hi; omega
  have := hc (k + i) hi'
  rw [show 0 + (k + i) * 3 = k * 3 + i * 3 by omega] at this
  rw [List.getElem_drop]
  exact this
theorem Nds.take {w : World} {B : Nat} {A : Option Addr} {l : List Nd} (h : Nds w B A l) (k : Nat) : Nds w B A (l.take k) := fun hn => by
  obtain ⟨b, o, e, hb, hc⟩ := h (by intro e; rw [e] at hn; simp at hn)
  refine ⟨b, o, e, hb, fun i hi => ?_⟩
  have hi' : i < l.length := by simp at hi; omega
  rw [List.getElem_take]
  exact hc i hi'
section
variable {P : Program}
theorem run_pushN_nil (w : World) (base : Nat) (t ty : TypeId) (i : TypeInfo) (ht : P.underlying t = some (.slice 25)) (hi : P.info? 25 = some i)
    (v : Value) (l : List Nd) (hown : OwnN w base v l) (A : Option Addr) (c : Nat) : (Builtin.append_ #[t, t] ty #[v, .slice A 0 c]).run P w = .ok v w := by
  cases A with
  | none =>
    rcases hown.2 with ⟨rfl, _⟩ | ⟨g, cap, cur, rfl, _, _, hnc, _⟩
    · simp [Builtin.append_, run_underlying ht, sizeOf, typeInfo, hi, Builtin.lenOf, Builtin.firstCells]
    · simp [Builtin.append_, run_underlying ht, sizeOf, typeInfo, hi, Builtin.lenOf, Builtin.firstCells, hnc, storeCells]
  | some ad =>
    rcases hown.2 with ⟨rfl, _⟩ | ⟨g, cap, cur, rfl, _, _, hnc, _⟩
    · simp [Builtin.append_, run_underlying ht, sizeOf, typeInfo, hi, Builtin.lenOf, Builtin.firstCells, loadCells, loadCellsFrom]
    · simp [Builtin.append_, run_underlying ht, sizeOf, typeInfo, hi, Builtin.lenOf, Builtin.firstCells, hnc, storeCells, loadCells, loadCellsFrom]
theorem run_pushNs (w : World) (base : Nat) (t ty : TypeId) (i : TypeInfo) (ht : P.underlying t = some (.slice 25)) (hi : P.info? 25 = some i) (hz : i.zero = some (.agg #[.int .i64 0, .string ⟨#[]⟩, .int .u32 0])) (hsize : i.size = 3) (hby : i.bytes = 32)
    (v : Value) (l : List Nd) (hown : OwnN w base v l) (B : Nat) (A : Option Addr) (m : List Nd) (n c : Nat) (hn : m.length = n) (hm : Nds w B A m) (hlen : l.length + n ≤ 1000000) (hbase : base ≤ w.heap.size) :
    ∃ v' w', (Builtin.append_ #[t, t] ty #[v, .slice A n c]).run P w = .ok v' w' ∧ OwnN w' base v' (l ++ m) ∧ Below base w w' := by
  subst hn
  by_cases hm0 : m = []
  · subst hm0
    exact ⟨v, w, run_pushN_nil w base t ty i ht hi v l hown A c, by rw [List.append_nil]; exact hown, Below.refl _ _⟩
  · obtain ⟨b, o, e, _⟩ := hm hm0
    subst e
    obtain ⟨v', w', hrun, h2, hg, _, _⟩ := run_append_own_at (P := P) w base t ty 25 i (.agg #[.int .i64 0, .string ⟨#[]⟩, .int .u32 0]) 3 32 ht hi hz hsize hby rfl (by decide) v l.length (flatN l) hown ⟨b, o, none⟩ m.length c (flatN m) (flatN_len m) (hm.news rfl) (flatN_ones m) (by unfold maxLen; omega) (by omega) hbase
    refine ⟨v', w', hrun, ?_, ⟨hg.os, hg.tape, hg.output, hg.size, fun j hj => hg.block j (by omega) ?_⟩⟩
    · unfold OwnN
      rw [flatN_append, List.length_append]
      exact h2
    · intro e
      obtain ⟨_, ⟨rfl, _⟩ | ⟨g', cap', cur, rfl, h4, h5, _⟩⟩ := hown
      · cases e
      · have : j = g' := Option.some.inj e
        omega
/-- append of a list of nodes that is read, at a step of a region whose order is open. -/
theorem step_pushNs {ops : Array Oper} {o : Oper} {a : Act} {w : World} {K : Act → World → Prop} {Q : Exit → Act → World → Prop} {E : Prop} (hgd : o.guard = none) (s x : Operand) (t : TypeId)
    (ho : o.op = .call { callee := .builtin .append, args := #[s, x], argTypes := #[t, t] })
    (base : Nat) (i : TypeInfo) (ht : P.underlying t = some (.slice 25)) (hi : P.info? 25 = some i) (hz : i.zero = some (.agg #[.int .i64 0, .string ⟨#[]⟩, .int .u32 0])) (hsize : i.size = 3) (hby : i.bytes = 32)
    (v : Value) (l : List Nd) (hs : a.eval s = v) (hown : OwnN w base v l) (B : Nat) (A : Option Addr) (m : List Nd) (n c : Nat) (hn : m.length = n) (hx : a.eval x = .slice A n c) (hm : Nds w B A m) (hlen : l.length + n ≤ 1000000) (hbase : base ≤ w.heap.size)
    (h : ∀ v' w', OwnN w' base v' (l ++ m) → Below base w w' → K (a.put o.dst v') w') :
    if Region.wanted o (yielded ops a.tmps) = true then Oper.wp P o a w K Q else E := by
  have hw : Region.wanted o (yielded ops a.tmps) = true := by simp [Region.wanted, hgd]
  rw [if_pos hw]
  obtain ⟨v', w', hr, h2, h3⟩ := run_pushNs (P := P) w base t o.type i ht hi hz hsize hby v l hown B A m n c hn hm hlen hbase
  unfold Oper.wp execOp
  simp only [ho, resolve, invoke, builtin, Sem.run_bind, Sem.run_pure, Result.andThen_ok, List.map_toArray, List.map_cons, List.map_nil, hs, hx, hr]
  exact h v' w' h2 h3
/-- The same, in a plain region. -/
theorem wpList_pushNs {ops : Array Oper} {rest : List Oper} {o : Oper} {a : Act} {Q : Exit → Act → World → Prop} {w : World} (hgd : o.guard = none) (s x : Operand) (t : TypeId)
    (ho : o.op = .call { callee := .builtin .append, args := #[s, x], argTypes := #[t, t] })
    (base : Nat) (i : TypeInfo) (ht : P.underlying t = some (.slice 25)) (hi : P.info? 25 = some i) (hz : i.zero = some (.agg #[.int .i64 0, .string ⟨#[]⟩, .int .u32 0])) (hsize : i.size = 3) (hby : i.bytes = 32)
    (v : Value) (l : List Nd) (hs : a.eval s = v) (hown : OwnN w base v l) (B : Nat) (A : Option Addr) (m : List Nd) (n c : Nat) (hn : m.length = n) (hx : a.eval x = .slice A n c) (hm : Nds w B A m) (hlen : l.length + n ≤ 1000000) (hbase : base ≤ w.heap.size)
    (h : ∀ v' w', OwnN w' base v' (l ++ m) → Below base w w' → wpList P ops Q rest (a.put o.dst v') w') : wpList P ops Q (o :: rest) a w := by
  refine wpList_plain hgd fun K hK => ?_
  obtain ⟨v', w', hr, h2, h3⟩ := run_pushNs (P := P) w base t o.type i ht hi hz hsize hby v l hown B A m n c hn hm hlen hbase
  unfold Oper.wp execOp
  simp only [ho, resolve, invoke, builtin, Sem.run_bind, Sem.run_pure, Result.andThen_ok, List.map_toArray, List.map_cons, List.map_nil, hs, hx, hr]
  exact hK _ _ (h v' w' h2 h3)
end
end
section
open Go.RowKit

theorem ones_nd (f : Nd) : ∀ u ∈ [Value.int .i64 f.id, Value.string f.key, Value.int .u32 (f.word : Int)], u.oneCell' = true := by
  intro u hu
  simp at hu
  rcases hu with rfl | rfl | rfl <;> rfl
section
variable {P : Program}
/-- append of one node that lies in a block by itself: the row, what has turned, and where it lies now. -/
theorem run_pushN_at (w : World) (base : Nat) (t ty : TypeId) (i : TypeInfo) (ht : P.underlying t = some (.slice 25)) (hi : P.info? 25 = some i) (hz : i.zero = some (.agg #[.int .i64 0, .string ⟨#[]⟩, .int .u32 0])) (hsize : i.size = 3) (hby : i.bytes = 32)
    (v : Value) (l : List Nd) (hown : OwnN w base v l) (b c : Nat) (f : Nd) (hx : w.cell? ⟨b, 0, none⟩ = some (.int .i64 f.id) ∧ w.cell? ⟨b, 1, none⟩ = some (.string f.key) ∧ w.cell? ⟨b, 2, none⟩ = some (.int .u32 (f.word : Int))) (hlen : l.length < 1000000) (hbase : base ≤ w.heap.size) :
    ∃ v' w', (Builtin.append_ #[t, t] ty #[v, .slice (some ⟨b, 0, none⟩) 1 c]).run P w = .ok v' w' ∧ OwnN w' base v' (l ++ [f]) ∧ w.grownBy w' v.ownBlock ∧ (v'.ownBlock = v.ownBlock ∨ v'.ownBlock = some w.heap.size) := by
  obtain ⟨v', w', hrun, h2, hg, _, hat⟩ := run_append_own_at (P := P) w base t ty 25 i (.agg #[.int .i64 0, .string ⟨#[]⟩, .int .u32 0]) 3 32 ht hi hz hsize hby rfl (by decide) v l.length (flatN l) hown ⟨b, 0, none⟩ 1 c [.int .i64 f.id, .string f.key, .int .u32 (f.word : Int)] rfl (by
    intro j u hj
    rw [add_at, Nat.zero_add]
    match j, hj with
    | 0, hj => rw [hx.1, ← hj]; rfl
    | 1, hj => rw [hx.2.1, ← hj]; rfl
    | 2, hj => rw [hx.2.2, ← hj]; rfl) (ones_nd f) (by unfold maxLen; omega) (by omega) hbase
  refine ⟨v', w', hrun, ?_, hg, hat⟩
  unfold OwnN
  rw [flatN_snoc, List.length_append]
  exact h2
/-- The same at a step of a region whose order is open. -/
theorem step_pushN_at {ops : Array Oper} {o : Oper} {a : Act} {w : World} {K : Act → World → Prop} {Q : Exit → Act → World → Prop} {E : Prop} (hgd : o.guard = none) (s x : Operand) (t : TypeId)
    (ho : o.op = .call { callee := .builtin .append, args := #[s, x], argTypes := #[t, t] })
    (base : Nat) (i : TypeInfo) (ht : P.underlying t = some (.slice 25)) (hi : P.info? 25 = some i) (hz : i.zero = some (.agg #[.int .i64 0, .string ⟨#[]⟩, .int .u32 0])) (hsize : i.size = 3) (hby : i.bytes = 32)
    (v : Value) (l : List Nd) (hs : a.eval s = v) (hown : OwnN w base v l) (b c : Nat) (f : Nd) (hxv : a.eval x = .slice (some ⟨b, 0, none⟩) 1 c) (hx : w.cell? ⟨b, 0, none⟩ = some (.int .i64 f.id) ∧ w.cell? ⟨b, 1, none⟩ = some (.string f.key) ∧ w.cell? ⟨b, 2, none⟩ = some (.int .u32 (f.word : Int))) (hlen : l.length < 1000000) (hbase : base ≤ w.heap.size)
    (h : ∀ v' w', OwnN w' base v' (l ++ [f]) → w.grownBy w' v.ownBlock → (v'.ownBlock = v.ownBlock ∨ v'.ownBlock = some w.heap.size) → K (a.put o.dst v') w') :
    if Region.wanted o (yielded ops a.tmps) = true then Oper.wp P o a w K Q else E := by
  have hw : Region.wanted o (yielded ops a.tmps) = true := by simp [Region.wanted, hgd]
  rw [if_pos hw]
  obtain ⟨v', w', hr, h2, h3, h4⟩ := run_pushN_at (P := P) w base t o.type i ht hi hz hsize hby v l hown b c f hx hlen hbase
  unfold Oper.wp execOp
  simp only [ho, resolve, invoke, builtin, Sem.run_bind, Sem.run_pure, Result.andThen_ok, List.map_toArray, List.map_cons, List.map_nil, hs, hxv, hr]
  exact h v' w' h2 h3 h4
/-- append of a nil row to a row of rows, in a plain region. -/
theorem wpList_pushRow {ops : Array Oper} {rest : List Oper} {o : Oper} {a : Act} {Q : Exit → Act → World → Prop} (hgd : o.guard = none) (s x : Operand) (t : TypeId)
    (ho : o.op = .call { callee := .builtin .append, args := #[s, x], argTypes := #[t, t] })
    (base : Nat) (i : TypeInfo) (ht : P.underlying t = some (.slice 28)) (hi : P.info? 28 = some i) (hz : i.zero = some (.slice none 0 0)) (hsize : i.size = 1) (hby : i.bytes = 24)
    (v : Value) (ls : List (List Nd)) (w0 : World) (hs : a.eval s = v) (hown : OwnR w0 base v ls) (hx : a.eval x = .slice (some ⟨w0.heap.size, 0, none⟩) 1 1) (hlen : ls.length < 1000000) (hbase : base ≤ w0.heap.size)
    (h : ∀ v' w', OwnR w' base v' (ls ++ [[]]) → w0.grownBy w' v.ownBlock → (∀ g cap, v' = .slice (some ⟨g, 0, none⟩) (ls.length + 1) cap → w'.cell? ⟨g, ls.length, none⟩ = some (.slice none 0 0)) → (v'.ownBlock = v.ownBlock ∨ v'.ownBlock = some (w0.heap.size + 1)) → wpList P ops Q rest (a.put o.dst v') w') : wpList P ops Q (o :: rest) a (w0.alloc (.cells #[.slice none 0 0] 28)) := by
  have hownA := hown.below ((Below.refl _ _).alloc (Nat.le_refl _) (.cells #[.slice none 0 0] 28))
  obtain ⟨vs, h1, _⟩ := hown
  refine wpList_append_own_at _ hgd s x t ho base 28 i (.slice none 0 0) 1 24 ht hi hz hsize hby rfl (by decide) v ls.length vs hs (h1.alloc _) ⟨w0.heap.size, 0, none⟩ 1 1 [.slice none 0 0] hx rfl (cell_one_new _ _ _) (by intro u hu; simp at hu; subst hu; rfl) (by unfold maxLen; omega) (by omega) (by simp; omega) ?_
  intro v' w' ho' hg _ hat
  refine h v' w' (hownA.add (h1.alloc _) ho' hg (hat.imp id fun e => ⟨_, Nat.le_refl _, e⟩)) ((World.grownBy_alloc w0 _ _).trans hg) ?_ (hat.imp id fun e => by rw [e, World.size_alloc])
  rintro g cap rfl
  have hlen2 := OwnR.len h1
  rw [ho'.cellAt ls.length (by omega), List.getElem?_append_right (by omega), hlen2, Nat.sub_self]
  rfl
end
/-- What a row of rows of the call's own holds at a place. -/
theorem OwnR.open_ {w : World} {base : Nat} {v : Value} {ls : List (List Nd)} (h : OwnR w base v ls) {p : Nat} (hp : p < ls.length) : ∃ g cap u Ai ci, v = .slice (some ⟨g, 0, none⟩) ls.length cap ∧ base ≤ g ∧ g < w.heap.size ∧ w.cell? ⟨g, p, none⟩ = some u ∧ u = .slice Ai ls[p].length ci ∧ w.frozen? ⟨g, p, none⟩ = false ∧ OwnN w base u ls[p] ∧ (∀ k, u.ownBlock = some k → k < w.heap.size) ∧ (u.ownBlock ≠ some g) ∧
    ∀ (w0 w1 : World) (u' : Value) (l' : List Nd), Below w.heap.size w w0 → OwnN w1 base u' l' → w0.grownBy w1 u.ownBlock → (u'.ownBlock = u.ownBlock ∨ u'.ownBlock = some w0.heap.size) → OwnR (w1.setCell ⟨g, p, none⟩ u') base v (ls.set p l') ∧ w1.grownBy (w1.setCell ⟨g, p, none⟩ u') (some g) := by
  have h0 := h
  obtain ⟨vs, h1, h2, h3, h4⟩ := h
  have hlen := OwnR.len h1
  rcases h1.2 with ⟨rfl, hn⟩ | ⟨g, cap, cur, e, hb, hg, hnc, hcm, hcs, htake⟩
  · omega
  · subst e
    have hv : vs[p]? = some (vs[p]'(by omega)) := List.getElem?_eq_getElem (by omega)
    have hown := h2 p _ ls[p] hv (List.getElem?_eq_getElem hp)
    obtain ⟨Ai, ci, e, hr⟩ := hown.read
    refine ⟨g, cap, _, Ai, ci, rfl, hb, Has.lt hg, (h1.cellAt p (by omega)).trans hv, e, h1.frozenAt p, hown, fun k hk => (hown.lt k hk).2, ?_, ?_⟩
    · intro e2
      rcases h4 p _ hv with h5 | h5
      · rw [h5] at e2; cases e2
      · exact h5 e2
    · intro w0 w1 u' l' hB h' hgr hat
      have k0 := h0.below hB
      have k1 : w0.ownsRow base 28 1 (.slice (some ⟨g, 0, none⟩) ls.length cap) ls.length vs := h1.kept (row := none) ⟨hB.os, hB.tape, hB.output, hB.size, fun i hi _ => hB.block i hi⟩ (.inr (fun e => by cases e))
      exact k0.put hp k1 hv h' hgr (hat.imp id fun e => ⟨_, Nat.le_refl _, e⟩)
end
end Go.Proofs.YtjokbdhineilcaaGreatDoor
