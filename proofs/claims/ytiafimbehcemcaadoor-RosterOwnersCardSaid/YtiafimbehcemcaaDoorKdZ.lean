/-
  Appends that say where the new row lies: of one node to a row, and of a nil row to a row of rows. No condition.
-/
import Derived.Test.YtiafimbehcemcaaDoorKdX
import Derived.Test.YtiafimbehcemcaaDoorKdP
namespace Go.Proofs.YtiafimbehcemcaaDoor
open Go.RowKit

theorem ones_nd (f : Nd) : ∀ u ∈ [Value.int .i64 f.id, Value.string f.key, Value.int .u32 (f.word : Int)], u.oneCell' = true := by
  intro u hu
  simp at hu
  rcases hu with rfl | rfl | rfl <;> rfl
section
variable {P : Program}
/-- append of one node that lies in a block by itself: the row, what has turned, and where it lies now. -/
theorem run_pushN_at (w : World) (base : Nat) (t ty : TypeId) (i : TypeInfo) (ht : P.underlying t = some (.slice 60)) (hi : P.info? 60 = some i) (hz : i.zero = some (.agg #[.int .i64 0, .string ⟨#[]⟩, .int .u32 0])) (hsize : i.size = 3) (hby : i.bytes = 32)
    (v : Value) (l : List Nd) (hown : OwnN w base v l) (b c : Nat) (f : Nd) (hx : w.cell? ⟨b, 0, none⟩ = some (.int .i64 f.id) ∧ w.cell? ⟨b, 1, none⟩ = some (.string f.key) ∧ w.cell? ⟨b, 2, none⟩ = some (.int .u32 (f.word : Int))) (hlen : l.length < 1000000) (hbase : base ≤ w.heap.size) :
    ∃ v' w', (Builtin.append_ #[t, t] ty #[v, .slice (some ⟨b, 0, none⟩) 1 c]).run P w = .ok v' w' ∧ OwnN w' base v' (l ++ [f]) ∧ w.grownBy w' v.ownBlock ∧ (v'.ownBlock = v.ownBlock ∨ v'.ownBlock = some w.heap.size) := by
  obtain ⟨v', w', hrun, h2, hg, _, hat⟩ := run_append_own_at (P := P) w base t ty 60 i (.agg #[.int .i64 0, .string ⟨#[]⟩, .int .u32 0]) 3 32 ht hi hz hsize hby rfl (by decide) v l.length (flatN l) hown ⟨b, 0, none⟩ 1 c [.int .i64 f.id, .string f.key, .int .u32 (f.word : Int)] rfl (by
    intro j u hj
    rw [add_at, Nat.zero_add]
    match j, hj with
    | 0, hj => rw [hx.1, ← hj]; rfl
    | 1, hj => rw [hx.2.1, ← hj]; rfl
    | 2, hj => rw [hx.2.2, ← hj]; rfl) (ones_nd f) (by unfold maxLen; omega) (by omega) hbase
  refine ⟨v', w', hrun, ?_, hg, hat⟩
  unfold OwnN
  rw [flatN_snoc, List.length_append]
  exact h2
/-- The same at a step of a region whose order is open. -/
theorem step_pushN_at {ops : Array Oper} {o : Oper} {a : Act} {w : World} {K : Act → World → Prop} {Q : Exit → Act → World → Prop} {E : Prop} (hgd : o.guard = none) (s x : Operand) (t : TypeId)
    (ho : o.op = .call { callee := .builtin .append, args := #[s, x], argTypes := #[t, t] })
    (base : Nat) (i : TypeInfo) (ht : P.underlying t = some (.slice 60)) (hi : P.info? 60 = some i) (hz : i.zero = some (.agg #[.int .i64 0, .string ⟨#[]⟩, .int .u32 0])) (hsize : i.size = 3) (hby : i.bytes = 32)
    (v : Value) (l : List Nd) (hs : a.eval s = v) (hown : OwnN w base v l) (b c : Nat) (f : Nd) (hxv : a.eval x = .slice (some ⟨b, 0, none⟩) 1 c) (hx : w.cell? ⟨b, 0, none⟩ = some (.int .i64 f.id) ∧ w.cell? ⟨b, 1, none⟩ = some (.string f.key) ∧ w.cell? ⟨b, 2, none⟩ = some (.int .u32 (f.word : Int))) (hlen : l.length < 1000000) (hbase : base ≤ w.heap.size)
    (h : ∀ v' w', OwnN w' base v' (l ++ [f]) → w.grownBy w' v.ownBlock → (v'.ownBlock = v.ownBlock ∨ v'.ownBlock = some w.heap.size) → K (a.put o.dst v') w') :
    if Region.wanted o (yielded ops a.tmps) = true then Oper.wp P o a w K Q else E := by
  have hw : Region.wanted o (yielded ops a.tmps) = true := by simp [Region.wanted, hgd]
  rw [if_pos hw]
  obtain ⟨v', w', hr, h2, h3, h4⟩ := run_pushN_at (P := P) w base t o.type i ht hi hz hsize hby v l hown b c f hx hlen hbase
  unfold Oper.wp execOp
  simp only [ho, resolve, invoke, builtin, Sem.run_bind, Sem.run_pure, Result.andThen_ok, List.map_toArray, List.map_cons, List.map_nil, hs, hxv, hr]
  exact h v' w' h2 h3 h4
/-- append of a nil row to a row of rows, in a plain region. -/
theorem wpList_pushRow {ops : Array Oper} {rest : List Oper} {o : Oper} {a : Act} {Q : Exit → Act → World → Prop} (hgd : o.guard = none) (s x : Operand) (t : TypeId)
    (ho : o.op = .call { callee := .builtin .append, args := #[s, x], argTypes := #[t, t] })
    (base : Nat) (i : TypeInfo) (ht : P.underlying t = some (.slice 23)) (hi : P.info? 23 = some i) (hz : i.zero = some (.slice none 0 0)) (hsize : i.size = 1) (hby : i.bytes = 24)
    (v : Value) (ls : List (List Nd)) (w0 : World) (hs : a.eval s = v) (hown : OwnR w0 base v ls) (hx : a.eval x = .slice (some ⟨w0.heap.size, 0, none⟩) 1 1) (hlen : ls.length < 1000000) (hbase : base ≤ w0.heap.size)
    (h : ∀ v' w', OwnR w' base v' (ls ++ [[]]) → w0.grownBy w' v.ownBlock → (∀ g cap, v' = .slice (some ⟨g, 0, none⟩) (ls.length + 1) cap → w'.cell? ⟨g, ls.length, none⟩ = some (.slice none 0 0)) → (v'.ownBlock = v.ownBlock ∨ v'.ownBlock = some (w0.heap.size + 1)) → wpList P ops Q rest (a.put o.dst v') w') : wpList P ops Q (o :: rest) a (w0.alloc (.cells #[.slice none 0 0] 23)) := by
  have hownA := hown.below ((Below.refl _ _).alloc (Nat.le_refl _) (.cells #[.slice none 0 0] 23))
  obtain ⟨vs, h1, _⟩ := hown
  refine wpList_append_own_at _ hgd s x t ho base 23 i (.slice none 0 0) 1 24 ht hi hz hsize hby rfl (by decide) v ls.length vs hs (h1.alloc _) ⟨w0.heap.size, 0, none⟩ 1 1 [.slice none 0 0] hx rfl (cell_one_new _ _ _) (by intro u hu; simp at hu; subst hu; rfl) (by unfold maxLen; omega) (by omega) (by simp; omega) ?_
  intro v' w' ho' hg _ hat
  refine h v' w' (hownA.add (h1.alloc _) ho' hg (hat.imp id fun e => ⟨_, Nat.le_refl _, e⟩)) ((World.grownBy_alloc w0 _ _).trans hg) ?_ (hat.imp id fun e => by rw [e, World.size_alloc])
  rintro g cap rfl
  have hlen2 := OwnR.len h1
  rw [ho'.cellAt ls.length (by omega), List.getElem?_append_right (by omega), hlen2, Nat.sub_self]
  rfl
end
/-- What a row of rows of the call's own holds at a place. -/
theorem OwnR.open_ {w : World} {base : Nat} {v : Value} {ls : List (List Nd)} (h : OwnR w base v ls) {p : Nat} (hp : p < ls.length) : ∃ g cap u Ai ci, v = .slice (some ⟨g, 0, none⟩) ls.length cap ∧ base ≤ g ∧ g < w.heap.size ∧ w.cell? ⟨g, p, none⟩ = some u ∧ u = .slice Ai ls[p].length ci ∧ w.frozen? ⟨g, p, none⟩ = false ∧ OwnN w base u ls[p] ∧ (∀ k, u.ownBlock = some k → k < w.heap.size) ∧ (u.ownBlock ≠ some g) ∧
    ∀ (w0 w1 : World) (u' : Value) (l' : List Nd), Below w.heap.size w w0 → OwnN w1 base u' l' → w0.grownBy w1 u.ownBlock → (u'.ownBlock = u.ownBlock ∨ u'.ownBlock = some w0.heap.size) → OwnR (w1.setCell ⟨g, p, none⟩ u') base v (ls.set p l') ∧ w1.grownBy (w1.setCell ⟨g, p, none⟩ u') (some g) := by
  have h0 := h
  obtain ⟨vs, h1, h2, h3, h4⟩ := h
  have hlen := OwnR.len h1
  rcases h1.2 with ⟨rfl, hn⟩ | ⟨g, cap, cur, e, hb, hg, hnc, hcm, hcs, htake⟩
  · omega
  · subst e
    have hv : vs[p]? = some (vs[p]'(by omega)) := List.getElem?_eq_getElem (by omega)
    have hown := h2 p _ ls[p] hv (List.getElem?_eq_getElem hp)
    obtain ⟨Ai, ci, e, hr⟩ := hown.read
    refine ⟨g, cap, _, Ai, ci, rfl, hb, Has.lt hg, (h1.cellAt p (by omega)).trans hv, e, h1.frozenAt p, hown, fun k hk => (hown.lt k hk).2, ?_, ?_⟩
    · intro e2
      rcases h4 p _ hv with h5 | h5
      · rw [h5] at e2; cases e2
      · exact h5 e2
    · intro w0 w1 u' l' hB h' hgr hat
      have k0 := h0.below hB
      have k1 : w0.ownsRow base 23 1 (.slice (some ⟨g, 0, none⟩) ls.length cap) ls.length vs := h1.kept (row := none) ⟨hB.os, hB.tape, hB.output, hB.size, fun i hi _ => hB.block i hi⟩ (.inr (fun e => by cases e))
      exact k0.put hp k1 hv h' hgr (hat.imp id fun e => ⟨_, Nat.le_refl _, e⟩)
end Go.Proofs.YtiafimbehcemcaaDoor
