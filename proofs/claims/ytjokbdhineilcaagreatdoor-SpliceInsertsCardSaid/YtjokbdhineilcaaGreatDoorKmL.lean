/-
  Rows of nodes' links of the call's own, each with its own row of links. No condition.
-/
import Derived.Test.YtjokbdhineilcaaGreatDoorLjR
import Derived.Test.YtjokbdhineilcaaGreatDoorLdX
import Derived.Test.YtjokbdhineilcaaGreatDoorKwL
namespace Go.Proofs.YtjokbdhineilcaaGreatDoor
open Go.RowKit

theorem OwnK.nil (w : World) (base : Nat) : OwnK w base (.slice none 0 0) [] := World.ownsRow_nil _ _ _ _
theorem OwnK.kept {w w' : World} {base : Nat} {v : Value} {l : List Lk} {row : Option Nat} (h : OwnK w base v l) (hg : w.grownBy w' row) (hne : v.ownBlock = none ∨ v.ownBlock ≠ row) : OwnK w' base v l := World.ownsRow.kept h hg hne
theorem OwnK.lt {w : World} {base : Nat} {v : Value} {l : List Lk} (h : OwnK w base v l) : ∀ k, v.ownBlock = some k → base ≤ k ∧ k < w.heap.size := World.ownsRow.lt h
theorem OwnK.below {w w' : World} {base : Nat} {v : Value} {l : List Lk} (h : OwnK w base v l) (k : Below w.heap.size w w') : OwnK w' base v l := h.keep fun i _ hi => k.block i hi
/-- append of one link, which lies in the block that was just made. -/
theorem wpList_pushK {P : Program} {ops : Array Oper} {rest : List Oper} {o : Oper} {a : Act} {Q : Exit → Act → World → Prop} (hgd : o.guard = none) (s x : Operand) (t : TypeId)
    (ho : o.op = .call { callee := .builtin .append, args := #[s, x], argTypes := #[t, t] })
    (base : Nat) (i : TypeInfo) (ht : P.underlying t = some (.slice 53)) (hi : P.info? 53 = some i) (hz : i.zero = some (.agg #[.int .i64 0, .int .i64 0])) (hsize : i.size = 2) (hby : i.bytes = 16)
    (v : Value) (l : List Lk) (w0 : World) (f : Lk) (hs : a.eval s = v) (hown : OwnK w0 base v l) (hx : a.eval x = .slice (some ⟨w0.heap.size, 0, none⟩) 1 1) (hlen : l.length < 1000000) (hbase : base ≤ w0.heap.size)
    (h : ∀ v' w', OwnK w' base v' (l ++ [f]) → w0.grownBy w' v.ownBlock → (v'.ownBlock = v.ownBlock ∨ v'.ownBlock = some (w0.heap.size + 1)) → wpList P ops Q rest (a.put o.dst v') w') : wpList P ops Q (o :: rest) a (w0.alloc (.cells #[.int .i64 f.left, .int .i64 f.right] 53)) := by
  refine wpList_append_own_at _ hgd s x t ho base 53 i (.agg #[.int .i64 0, .int .i64 0]) 2 16 ht hi hz hsize hby rfl (by decide) v l.length (flatK l) hs (hown.below ((Below.refl _ _).alloc (Nat.le_refl _) _)) ⟨w0.heap.size, 0, none⟩ 1 1 [.int .i64 f.left, .int .i64 f.right] hx rfl ?_ ?_ (by unfold maxLen; omega) (by omega) (by simp; omega) ?_
  · intro j u hj
    rw [add_at, Nat.zero_add, (Has.new w0 53 #[.int .i64 f.left, .int .i64 f.right]).cell, ← Array.getElem?_toList]
    exact hj
  · intro u hu
    simp at hu
    rcases hu with rfl | rfl <;> rfl
  · intro v' w' ho' hg _ hat
    refine h v' w' ?_ ((World.grownBy_alloc w0 _ _).trans hg) (hat.imp id fun e => by rw [e, World.size_alloc])
    unfold OwnK
    rw [flatK_snoc, List.length_append]
    exact ho'
theorem grownBy_below0 {w w' : World} {base : Nat} {row : Option Nat} (hg : w.grownBy w' row) (hb : base ≤ w.heap.size) (hr : ∀ k, row = some k → base ≤ k) : Below base w w' :=
  ⟨hg.os, hg.tape, hg.output, hg.size, fun j hj => hg.block j (by omega) (fun e => by have := hr j e.symm; omega)⟩

/-- A row of nodes' links of the call's own, each with its own row of links. -/
def OwnD (w : World) (base : Nat) (v : Value) (ls : List Ld) : Prop :=
  ∃ q : List (Int × Value), w.ownsRow base 56 2 v ls.length (flatP q) ∧ q.length = ls.length ∧
    (∀ (i : Nat) (hq : i < q.length) (h : i < ls.length), q[i].1 = ls[i].id ∧ OwnK w base q[i].2 ls[i].levels ∧ (q[i].2.ownBlock = none ∨ q[i].2.ownBlock ≠ v.ownBlock)) ∧
    (∀ (i j : Nat) (hi : i < q.length) (hj : j < q.length), i ≠ j → q[i].2.ownBlock = none ∨ q[i].2.ownBlock ≠ q[j].2.ownBlock)
theorem OwnD.nil (w : World) (base : Nat) : OwnD w base (.slice none 0 0) [] := ⟨[], World.ownsRow_nil _ _ _ _, rfl, fun i h => by simp at h, fun i j h => by simp at h⟩
section
variable {w w' : World} {base : Nat} {v : Value} {ls : List Ld}
theorem OwnD.keep (h : OwnD w base v ls) (hg : ∀ i, base ≤ i → i < w.heap.size → w'.heap[i]? = w.heap[i]?) : OwnD w' base v ls := by
  obtain ⟨q, h1, h2, h3, h4⟩ := h
  refine ⟨q, ?_, h2, fun i hq hi => ⟨(h3 i hq hi).1, (h3 i hq hi).2.1.keep hg, (h3 i hq hi).2.2⟩, h4⟩
  obtain ⟨k1, k2 | ⟨g, cap, cur, k3, k4, k5, k6⟩⟩ := h1
  · exact ⟨k1, .inl k2⟩
  · exact ⟨k1, .inr ⟨g, cap, cur, k3, k4, (hg g k4 (Has.lt k5)).trans k5, k6⟩⟩
theorem OwnD.below (h : OwnD w base v ls) (k : Below w.heap.size w w') : OwnD w' base v ls := h.keep fun i _ hi => k.block i hi
theorem OwnD.step {g : Nat} (h : OwnD w base v ls) (hg : g < base) (k : TStep w g w') : OwnD w' base v ls := h.keep fun i h1 hi => k.2.block i hi (fun e => by have := Option.some.inj e; omega)
theorem OwnD.lt (h : OwnD w base v ls) : ∀ k, v.ownBlock = some k → base ≤ k ∧ k < w.heap.size := by
  obtain ⟨q, h1, _⟩ := h
  exact h1.lt
theorem OwnD.shape (h : OwnD w base v ls) : ∃ A c, v = .slice A ls.length c := by
  obtain ⟨q, h1, _⟩ := h
  rcases h1.2 with ⟨rfl, h0⟩ | ⟨g, cap, cur, rfl, _⟩
  · exact ⟨none, 0, by rw [h0]⟩
  · exact ⟨_, cap, rfl⟩
theorem OwnK.readB {v : Value} {l : List Lk} (h : OwnK w base v l) : ∃ A c, v = .slice A l.length c ∧ l.length ≤ c ∧ c ≤ maxLen ∧ Lks w w.heap.size A l := by
  obtain ⟨h1, ⟨rfl, h2⟩ | ⟨g, cap, cur, rfl, h4, h5, h6, h7, h8, h9⟩⟩ := h
  · have hl : l = [] := List.eq_nil_of_length_eq_zero h2
    subst hl
    exact ⟨none, 0, rfl, Nat.le_refl _, by unfold maxLen; omega, fun h => absurd rfl h⟩
  · refine ⟨_, cap, rfl, h6, h7, fun _ => ⟨g, 0, rfl, Has.lt h5, fun i hi => ?_⟩⟩
    have hh := flatK_at l i hi
    rw [← h9] at hh
    have ht : ∀ j u, (cur.toList.take (l.length * 2))[j]? = some u → w.cell? ⟨g, 0 + j, none⟩ = some u := fun j u hj => by
      rw [Nat.zero_add, Has.cell h5, ← Array.getElem?_toList]
      rw [List.getElem?_take] at hj
      split at hj
      · exact hj
      · cases hj
    exact ⟨ht _ _ hh.1, ht _ _ hh.2⟩
theorem OwnD.read (h : OwnD w base v ls) : ∃ A c, v = .slice A ls.length c ∧ ls.length ≤ c ∧ c ≤ maxLen ∧ Lds w w.heap.size A ls := by
  obtain ⟨q, h1, h2, h3, h4⟩ := h
  rcases h1.2 with ⟨rfl, h0⟩ | ⟨g, cap, cur, rfl, hb, hg, hnc, hcm, hcs, htake⟩
  · have : ls = [] := List.eq_nil_of_length_eq_zero h0
    subst this
    exact ⟨none, 0, rfl, Nat.le_refl _, by unfold maxLen; omega, fun hn => absurd rfl hn⟩
  · refine ⟨_, cap, rfl, hnc, hcm, fun _ => ⟨g, 0, rfl, Has.lt hg, fun i hi => ?_⟩⟩
    have hq : i < q.length := by omega
    obtain ⟨e1, ho, _⟩ := h3 i hq hi
    obtain ⟨p1, p2⟩ := flatP_at q i hq
    obtain ⟨A', c', e2, k1, k2, k3⟩ := ho.readB
    rw [Nat.zero_add, h1.cellAt (i * 2) (by omega), h1.cellAt (i * 2 + 1) (by omega), p1, p2, e1, e2]
    exact ⟨by first | rfl | trivial, A', c', by first | rfl | trivial, k1, k2, k3⟩
/-- A node's links are appended, whose row is not one of them. -/
theorem OwnD.add {u v' : Value} {id : Int} {lv : List Lk} (h : OwnD w base v ls) {q : List (Int × Value)} (h1 : w.ownsRow base 56 2 v ls.length (flatP q)) (hq : q.length = ls.length) (hu : OwnK w base u lv) (hs : ∀ k, u.ownBlock = some k → (v.ownBlock ≠ some k ∧ ∀ (i : Nat) (hi : i < q.length), q[i].2.ownBlock ≠ some k))
    (h' : w'.ownsRow base 56 2 v' (ls.length + 1) (flatP (q ++ [(id, u)]))) (hg : w.grownBy w' v.ownBlock) (hat : v'.ownBlock = v.ownBlock ∨ ∃ k, w.heap.size ≤ k ∧ v'.ownBlock = some k) : OwnD w' base v' (ls ++ [⟨id, lv⟩]) := by
  obtain ⟨q0, k1, k2, k3, k4⟩ := h
  have hfl : ∀ (a b : List (Int × Value)), a.length = b.length → flatP a = flatP b → a = b := by
    intro a
    induction a with
    | nil => intro b hb _; exact (List.eq_nil_of_length_eq_zero hb.symm).symm
    | cons x a ih =>
      intro b hb e
      cases b with
      | nil => simp at hb
      | cons y b =>
        have e' : Value.int .i64 x.1 :: x.2 :: flatP a = Value.int .i64 y.1 :: y.2 :: flatP b := e
        injection e' with e1 e'
        injection e' with e2 e'
        injection e1 with _ e1
        have := ih b (by simpa using hb) e'
        subst this
        congr 1
        exact Prod.ext e1 e2
  have hqq : q0 = q := by
    refine hfl _ _ (by omega) ?_
    rcases k1.2 with ⟨rfl, h0⟩ | ⟨g, cap, cur, rfl, hb, hg, hnc, hcm, hcs, htake⟩
    · have e1 : q0 = [] := List.eq_nil_of_length_eq_zero (by omega)
      have e2 : q = [] := List.eq_nil_of_length_eq_zero (by omega)
      rw [e1, e2]
    · rcases h1.2 with ⟨e, _⟩ | ⟨g', cap', cur', e, _, hg', _, _, _, htake'⟩
      · cases e
      · injection e with e1 _ e2
        injection e1 with e1
        injection e1 with e1
        subst e1
        rw [hg] at hg'
        injection hg' with hg'
        injection hg' with hg'
        rw [← htake, ← htake', hg']
  subst hqq
  have hux : u.ownBlock = none ∨ u.ownBlock ≠ v.ownBlock := by
    cases hb : u.ownBlock with
    | none => exact .inl rfl
    | some k => exact .inr (fun e => (hs k hb).1 e.symm)
  have hnew : ∀ (z : Value), (∀ k, z.ownBlock = some k → k < w.heap.size) → (z.ownBlock = none ∨ z.ownBlock ≠ v.ownBlock) → z.ownBlock = none ∨ z.ownBlock ≠ v'.ownBlock := fun z hz hzv => by
    rcases hat with e | ⟨k, hk, e⟩
    · rw [e]; exact hzv
    · cases hb : z.ownBlock with
      | none => exact .inl rfl
      | some p =>
        refine .inr fun e2 => ?_
        have := hz p hb
        rw [e] at e2
        have := Option.some.inj e2
        omega
  refine ⟨q0 ++ [(id, u)], by rw [List.length_append]; exact h', by simp [k2], fun i hi hi2 => ?_, fun i j hi hj hij => ?_⟩
  · rcases Nat.lt_or_ge i q0.length with h5 | h5
    · have h6 : i < ls.length := by omega
      obtain ⟨e1, e2, e3⟩ := k3 i h5 h6
      rw [List.getElem_append_left h5, List.getElem_append_left h6]
      exact ⟨e1, e2.kept hg e3, hnew _ (fun k hk => (e2.lt k hk).2) e3⟩
    · have h6 : i = q0.length := by simp at hi; omega
      subst h6
      rw [List.getElem_append_right (Nat.le_refl _), List.getElem_append_right (by omega)]
      simp only [Nat.sub_self, List.getElem_cons_zero, show q0.length - ls.length = 0 by omega]
      exact ⟨by first | rfl | trivial, hu.kept hg hux, hnew _ (fun k hk => (hu.lt k hk).2) hux⟩
  · rcases Nat.lt_or_ge i q0.length with h5 | h5
    · rw [List.getElem_append_left h5]
      rcases Nat.lt_or_ge j q0.length with h6 | h6
      · rw [List.getElem_append_left h6]
        exact k4 i j h5 h6 hij
      · have h7 : j = q0.length := by simp at hj; omega
        subst h7
        rw [List.getElem_append_right (Nat.le_refl _)]
        simp only [Nat.sub_self, List.getElem_cons_zero]
        cases hb : u.ownBlock with
        | none =>
          cases hc : q0[i].2.ownBlock with
          | none => exact .inl rfl
          | some p => exact .inr (fun e => by cases e)
        | some k => exact .inr ((hs k hb).2 i h5)
    · have h6 : i = q0.length := by simp at hi; omega
      subst h6
      have h7 : j < q0.length := by simp at hj; omega
      rw [List.getElem_append_right (Nat.le_refl _), List.getElem_append_left h7]
      simp only [Nat.sub_self, List.getElem_cons_zero]
      cases hb : u.ownBlock with
      | none => exact .inl rfl
      | some k => exact .inr (fun e => (hs k hb).2 j h7 e.symm)
end
/-- append of a node's links, which lie in the block that was just made, and whose row is newer than the others. -/
theorem wpList_pushD {P : Program} {ops : Array Oper} {rest : List Oper} {o : Oper} {a : Act} {Q : Exit → Act → World → Prop} (hgd : o.guard = none) (s x : Operand) (t : TypeId)
    (ho : o.op = .call { callee := .builtin .append, args := #[s, x], argTypes := #[t, t] })
    (base : Nat) (i : TypeInfo) (ht : P.underlying t = some (.slice 56)) (hi : P.info? 56 = some i) (hz : i.zero = some (.agg #[.int .i64 0, .slice none 0 0])) (hsize : i.size = 2) (hby : i.bytes = 32)
    (v : Value) (ls : List Ld) (w1 w0 : World) (id : Int) (u : Value) (lv : List Lk) (hown : OwnD w1 base v ls) (hk : Below w1.heap.size w1 w0) (hu : OwnK w0 w1.heap.size u lv) (hb1 : base ≤ w1.heap.size) (hs : a.eval s = v) (hx : a.eval x = .slice (some ⟨w0.heap.size, 0, none⟩) 1 1) (hlen : ls.length < 1000000)
    (h : ∀ v' w', OwnD w' base v' (ls ++ [⟨id, lv⟩]) → Below base w0 w' → wpList P ops Q rest (a.put o.dst v') w') : wpList P ops Q (o :: rest) a (w0.alloc (.cells #[.int .i64 id, u] 56)) := by
  have hba := (Below.refl w0.heap.size w0).alloc (Nat.le_refl _) (.cells #[.int .i64 id, u] 56)
  have hownA := (hown.below hk).below hba
  have hbase : base ≤ w0.heap.size := Nat.le_trans hb1 hk.size
  have hone : u.oneCell' = true := by
    obtain ⟨A, c, rfl⟩ := OwnK.shape hu
    rfl
  have hob := hown.lt
  obtain ⟨q, h1, h2, h3, h4⟩ := hown
  have hq : ∀ (i : Nat) (hi : i < q.length) k, q[i].2.ownBlock = some k → k < w1.heap.size := fun i hi k e => ((h3 i hi (by omega)).2.1.lt k e).2
  have h1A : (w0.alloc (.cells #[.int .i64 id, u] 56)).ownsRow base 56 2 v ls.length (flatP q) := by
    obtain ⟨k1, k2 | ⟨g, cap, cur, k3, k4, k5, k6⟩⟩ := h1
    · exact ⟨k1, .inl k2⟩
    · exact ⟨k1, .inr ⟨g, cap, cur, k3, k4, ((Has.below k5 hk).below hba), k6⟩⟩
  have huA : OwnK (w0.alloc (.cells #[.int .i64 id, u] 56)) base u lv := own_lessK (hu.below hba) hb1
  refine wpList_append_own_at _ hgd s x t ho base 56 i (.agg #[.int .i64 0, .slice none 0 0]) 2 32 ht hi hz hsize hby rfl (by decide) v ls.length (flatP q) hs h1A ⟨w0.heap.size, 0, none⟩ 1 1 [.int .i64 id, u] hx rfl ?_ ?_ (by unfold maxLen; omega) (by omega) (by simp; omega) ?_
  · intro j z hj
    rw [add_at, Nat.zero_add, (Has.new w0 56 #[.int .i64 id, u]).cell, ← Array.getElem?_toList]
    exact hj
  · intro z hz
    simp at hz
    rcases hz with rfl | rfl
    · rfl
    · exact hone
  · intro v' w' ho' hg _ hat
    refine h v' w' (hownA.add h1A h2 huA (fun k hk2 => ?_) (by rw [flatP_snoc]; exact ho') hg (hat.imp (fun e => e) fun e => ⟨_, Nat.le_refl _, e⟩)) ?_
    · have := (hu.lt k hk2).1
      exact ⟨fun e => by have := (hob k e).2; omega, fun i hi e => by have := hq i hi k e; omega⟩
    · refine ((Below.refl _ _).alloc hbase _).trans (grownBy_below0 hg (by rw [World.size_alloc]; omega) (fun k e => (hob k e).1))
end Go.Proofs.YtjokbdhineilcaaGreatDoor
