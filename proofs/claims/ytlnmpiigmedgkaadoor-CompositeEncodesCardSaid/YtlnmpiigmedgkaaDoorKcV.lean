/-
  Rows of columns that are copied and turned. Conditions: the rows are the call's own.
-/
import Derived.Test.YtlnmpiigmedgkaaDoorKcU
import Derived.Test.YtlnmpiigmedgkaaDoorKcM
namespace Go.Proofs.YtlnmpiigmedgkaaDoor
open Go.RowKit

theorem OwnC.open_ {w : World} {base : Nat} {v : Value} {l : List Col} (h : OwnC w base v l) (hl : l ≠ []) : ∃ G cap, v = .slice (some ⟨G, 0, none⟩) l.length cap ∧ base ≤ G ∧ G < w.heap.size ∧ l.length ≤ cap ∧ (∀ j u, (flatC l)[j]? = some u → w.cell? ⟨G, j, none⟩ = some u) ∧ (∀ j, w.frozen? ⟨G, j, none⟩ = false) := by
  obtain ⟨h1, ⟨rfl, h2⟩ | ⟨g, cap, cur, rfl, h4, h5, h6, h7, h8, h9⟩⟩ := h
  · exact absurd (List.eq_nil_of_length_eq_zero h2) hl
  · refine ⟨g, cap, rfl, h4, Has.lt h5, h6, fun j u hj => ?_, fun j => by simp [World.frozen?, h5]⟩
    rw [← h9, List.getElem?_take] at hj
    rw [Has.cell h5, ← Array.getElem?_toList]
    split at hj
    · exact hj
    · cases hj
theorem flatC_set : ∀ (l : List Col) (k : Nat) (b : Bool) (h : k < l.length), flatC (l.set k ⟨l[k].kind, b⟩) = (flatC l).set (k * 2 + 1) (.bool b)
  | [], _, _, h => by simp at h
  | c :: l, 0, b, _ => rfl
  | c :: l, k + 1, b, h => by
    have hk : k < l.length := by simpa using h
    have := flatC_set l k b hk
    rw [show (k + 1) * 2 + 1 = (k * 2 + 1) + 2 by omega]
    show .int .i64 c.kind :: .bool c.desc :: flatC (l.set k ⟨(l[k]'hk).kind, b⟩) = .int .i64 c.kind :: .bool c.desc :: (flatC l).set (k * 2 + 1) (.bool b)
    rw [this]
theorem OwnC.turn {w : World} {base G cap : Nat} {l : List Col} (h : OwnC w base (.slice (some ⟨G, 0, none⟩) l.length cap) l) (k : Nat) (hk : k < l.length) (b : Bool) : OwnC (w.setCell ⟨G, k * 2 + 1, none⟩ (.bool b)) base (.slice (some ⟨G, 0, none⟩) l.length cap) (l.set k ⟨l[k].kind, b⟩) := by
  obtain ⟨h1, ⟨e, h2⟩ | ⟨g, cap', cur, e, h4, h5, h6, h7, h8, h9⟩⟩ := h
  · cases e
  · injection e with e1 _ e2
    injection e1 with e1
    injection e1 with e1
    subst e1 e2
    unfold OwnC
    rw [List.length_set]
    refine ⟨by rw [flatC_len, List.length_set], .inr ⟨G, cap, cur.setIfInBounds (k * 2 + 1) (.bool b), rfl, h4, Has.set_ h5 _ _, h6, h7, by simpa using h8, ?_⟩⟩
    rw [Array.toList_setIfInBounds, List.take_set, h9, flatC_set l k b hk]
theorem OwnC.empty (w : World) : OwnC (w.alloc (.cells #[] 33)) w.heap.size (.slice (some ⟨w.heap.size, 0, none⟩) 0 0) [] :=
  ⟨rfl, .inr ⟨w.heap.size, 0, #[], rfl, Nat.le_refl _, heap_alloc_new w _, Nat.le_refl _, by unfold maxLen; omega, rfl, rfl⟩⟩
theorem flatC_ones (l : List Col) : ∀ u ∈ flatC l, u.oneCell' = true := by
  intro u hu
  simp only [flatC, List.mem_flatMap] at hu
  obtain ⟨c, _, hc⟩ := hu
  simp at hc
  rcases hc with rfl | rfl <;> rfl
section
variable {P : Program}
/-- append of a row of columns that is read. -/
theorem wpList_pushCs {ops : Array Oper} {rest : List Oper} {o : Oper} {a : Act} {Q : Exit → Act → World → Prop} (hgd : o.guard = none) (s x : Operand) (t : TypeId)
    (ho : o.op = .call { callee := .builtin .append, args := #[s, x], argTypes := #[t, t] })
    (base : Nat) (i : TypeInfo) (ht : P.underlying t = some (.slice 33)) (hi : P.info? 33 = some i) (hz : i.zero = some (.agg #[.int .i64 0, .bool false])) (hsize : i.size = 2) (hby : i.bytes = 16)
    (v : Value) (l : List Col) (w0 : World) (m : List Col) (G c : Nat) (hs : a.eval s = v) (hown : OwnC w0 base v l) (hx : a.eval x = .slice (some ⟨G, 0, none⟩) m.length c) (hm : ∀ j u, (flatC m)[j]? = some u → w0.cell? ⟨G, j, none⟩ = some u) (hlen : l.length + m.length < 1000000) (hbase : base ≤ w0.heap.size)
    (h : ∀ v' w', OwnC w' base v' (l ++ m) → Below base w0 w' → wpList P ops Q rest (a.put o.dst v') w') : wpList P ops Q (o :: rest) a w0 := by
  refine wpList_append_own_at _ hgd s x t ho base 33 i (.agg #[.int .i64 0, .bool false]) 2 16 ht hi hz hsize hby rfl (by decide) v l.length (flatC l) hs hown ⟨G, 0, none⟩ m.length c (flatC m) hx (flatC_len m) ?_ (flatC_ones m) (by unfold maxLen; omega) (by omega) hbase ?_
  · intro j u hj
    rw [add_at, Nat.zero_add]
    exact hm j u hj
  · intro v' w' ho' hg _ hat
    refine h v' w' ?_ ⟨hg.os, hg.tape, hg.output, hg.size, fun j hj => hg.block j (by omega) ?_⟩
    · unfold OwnC
      rw [show flatC (l ++ m) = flatC l ++ flatC m by simp [flatC], List.length_append]
      exact ho'
    · intro e
      obtain ⟨_, ⟨rfl, _⟩ | ⟨g', cap', cur, rfl, h4, h5, _⟩⟩ := hown
      · cases e
      · have : j = g' := Option.some.inj e
        omega
end
end Go.Proofs.YtlnmpiigmedgkaaDoor
