/-
  Rows of nodes to which lists of nodes are appended, also where the order of the operations is left open; parts of lists of nodes. No condition.
-/
import Derived.Test.YtiafimbehcemcaaDoorKdN
import Derived.Deep.RegionLaw
import Derived.Deep.RegionHeld3
namespace Go.Proofs.YtiafimbehcemcaaDoor
open Go.RowKit

theorem flatN_ones (l : List Nd) : ∀ u ∈ flatN l, u.oneCell' = true := by
  intro u hu
  simp only [flatN, List.mem_flatMap] at hu
  obtain ⟨c, _, hc⟩ := hu
  simp at hc
  rcases hc with rfl | rfl | rfl <;> rfl
theorem flatN_append (a b : List Nd) : flatN (a ++ b) = flatN a ++ flatN b := by simp [flatN]
theorem Nds.news {w : World} {B : Nat} {A : Option Addr} {l : List Nd} (h : Nds w B A l) {ad : Addr} (e : A = some ad) : ∀ j u, (flatN l)[j]? = some u → w.cell? (ad.add j) = some u := by
  intro j u hj
  rcases Nat.lt_or_ge j (l.length * 3) with hlt | hge
  · have hi : j / 3 < l.length := by omega
    obtain ⟨b, o, e2, _, h1, h2, h3⟩ := h.at_ hi
    obtain ⟨k1, k2, k3⟩ := flatN_at l (j / 3) hi
    rw [e] at e2
    injection e2 with e2
    subst e2
    rw [add_at]
    have h5 : j % 3 = 0 ∨ j % 3 = 1 ∨ j % 3 = 2 := by omega
    rcases h5 with h5 | h5 | h5
    · rw [show j = j / 3 * 3 by omega] at hj ⊢
      rw [k1] at hj
      rw [h1, ← hj]
    · rw [show j = j / 3 * 3 + 1 by omega] at hj ⊢
      rw [k2] at hj
      rw [← Nat.add_assoc, h2, ← hj]
    · rw [show j = j / 3 * 3 + 2 by omega] at hj ⊢
      rw [k3] at hj
      rw [← Nat.add_assoc, h3, ← hj]
  · rw [List.getElem?_eq_none (by rw [flatN_len]; exact hge)] at hj
    cases hj
theorem OwnN.empty (w : World) : OwnN (w.alloc (.cells #[] 60)) w.heap.size (.slice (some ⟨w.heap.size, 0, none⟩) 0 0) [] :=
  ⟨rfl, .inr ⟨w.heap.size, 0, #[], rfl, Nat.le_refl _, heap_alloc_new w _, Nat.le_refl _, by unfold maxLen; omega, rfl, rfl⟩⟩
theorem OwnN.open_ {w : World} {base : Nat} {v : Value} {l : List Nd} (h : OwnN w base v l) (hl : l ≠ []) : ∃ G cap, v = .slice (some ⟨G, 0, none⟩) l.length cap ∧ base ≤ G ∧ G < w.heap.size ∧ l.length ≤ cap ∧ cap ≤ maxLen ∧ Nds w w.heap.size (some ⟨G, 0, none⟩) l := by
  obtain ⟨A, c, rfl, hr⟩ := h.read
  obtain ⟨h1, ⟨h0, h2⟩ | ⟨g, cap, cur, e, h4, h5, h6, h7, _⟩⟩ := h
  · exact absurd (List.eq_nil_of_length_eq_zero h2) hl
  · injection e with e1 _ e2
    subst e1 e2
    exact ⟨g, c, rfl, h4, Has.lt h5, h6, h7, hr⟩
theorem Nds.cut {w : World} {B G : Nat} {l : List Nd} (h : Nds w B (some ⟨G, 0, none⟩) l) (k : Nat) : Nds w B (some ⟨G, k * 3, none⟩) (l.drop k) := fun hn => by
  have hk : k < l.length := by
    rcases Nat.lt_or_ge k l.length with h1 | h1
    · exact h1
    · exact absurd (List.drop_eq_nil_of_le h1) hn
  obtain ⟨b, o, e, hb, hc⟩ := h (by intro e; rw [e] at hk; simp at hk)
  injection e with e
  injection e with e1 e2
  subst e1 e2
  refine ⟨G, k * 3, rfl, hb, fun i hi => ?_⟩
  have hi' : k + i < l.length := by simp at hi; omega
  have := hc (k + i) hi'
  rw [show 0 + (k + i) * 3 = k * 3 + i * 3 by omega] at this
  rw [List.getElem_drop]
  exact this
theorem Nds.take {w : World} {B : Nat} {A : Option Addr} {l : List Nd} (h : Nds w B A l) (k : Nat) : Nds w B A (l.take k) := fun hn => by
  obtain ⟨b, o, e, hb, hc⟩ := h (by intro e; rw [e] at hn; simp at hn)
  refine ⟨b, o, e, hb, fun i hi => ?_⟩
  have hi' : i < l.length := by simp at hi; omega
  rw [List.getElem_take]
  exact hc i hi'
section
variable {P : Program}
theorem run_pushN_nil (w : World) (base : Nat) (t ty : TypeId) (i : TypeInfo) (ht : P.underlying t = some (.slice 60)) (hi : P.info? 60 = some i)
    (v : Value) (l : List Nd) (hown : OwnN w base v l) (A : Option Addr) (c : Nat) : (Builtin.append_ #[t, t] ty #[v, .slice A 0 c]).run P w = .ok v w := by
  cases A with
  | none =>
    rcases hown.2 with ⟨rfl, _⟩ | ⟨g, cap, cur, rfl, _, _, hnc, _⟩
    · simp [Builtin.append_, run_underlying ht, sizeOf, typeInfo, hi, Builtin.lenOf, Builtin.firstCells]
    · simp [Builtin.append_, run_underlying ht, sizeOf, typeInfo, hi, Builtin.lenOf, Builtin.firstCells, hnc, storeCells]
  | some ad =>
    rcases hown.2 with ⟨rfl, _⟩ | ⟨g, cap, cur, rfl, _, _, hnc, _⟩
    · simp [Builtin.append_, run_underlying ht, sizeOf, typeInfo, hi, Builtin.lenOf, Builtin.firstCells, loadCells, loadCellsFrom]
    · simp [Builtin.append_, run_underlying ht, sizeOf, typeInfo, hi, Builtin.lenOf, Builtin.firstCells, hnc, storeCells, loadCells, loadCellsFrom]
theorem run_pushNs (w : World) (base : Nat) (t ty : TypeId) (i : TypeInfo) (ht : P.underlying t = some (.slice 60)) (hi : P.info? 60 = some i) (hz : i.zero = some (.agg #[.int .i64 0, .string ⟨#[]⟩, .int .u32 0])) (hsize : i.size = 3) (hby : i.bytes = 32)
    (v : Value) (l : List Nd) (hown : OwnN w base v l) (B : Nat) (A : Option Addr) (m : List Nd) (n c : Nat) (hn : m.length = n) (hm : Nds w B A m) (hlen : l.length + n ≤ 1000000) (hbase : base ≤ w.heap.size) :
    ∃ v' w', (Builtin.append_ #[t, t] ty #[v, .slice A n c]).run P w = .ok v' w' ∧ OwnN w' base v' (l ++ m) ∧ Below base w w' := by
  subst hn
  by_cases hm0 : m = []
  · subst hm0
    exact ⟨v, w, run_pushN_nil w base t ty i ht hi v l hown A c, by rw [List.append_nil]; exact hown, Below.refl _ _⟩
  · obtain ⟨b, o, e, _⟩ := hm hm0
    subst e
    obtain ⟨v', w', hrun, h2, hg, _, _⟩ := run_append_own_at (P := P) w base t ty 60 i (.agg #[.int .i64 0, .string ⟨#[]⟩, .int .u32 0]) 3 32 ht hi hz hsize hby rfl (by decide) v l.length (flatN l) hown ⟨b, o, none⟩ m.length c (flatN m) (flatN_len m) (hm.news rfl) (flatN_ones m) (by unfold maxLen; omega) (by omega) hbase
    refine ⟨v', w', hrun, ?_, ⟨hg.os, hg.tape, hg.output, hg.size, fun j hj => hg.block j (by omega) ?_⟩⟩
    · unfold OwnN
      rw [flatN_append, List.length_append]
      exact h2
    · intro e
      obtain ⟨_, ⟨rfl, _⟩ | ⟨g', cap', cur, rfl, h4, h5, _⟩⟩ := hown
      · cases e
      · have : j = g' := Option.some.inj e
        omega
/-- append of a list of nodes that is read, at a step of a region whose order is open. -/
theorem step_pushNs {ops : Array Oper} {o : Oper} {a : Act} {w : World} {K : Act → World → Prop} {Q : Exit → Act → World → Prop} {E : Prop} (hgd : o.guard = none) (s x : Operand) (t : TypeId)
    (ho : o.op = .call { callee := .builtin .append, args := #[s, x], argTypes := #[t, t] })
    (base : Nat) (i : TypeInfo) (ht : P.underlying t = some (.slice 60)) (hi : P.info? 60 = some i) (hz : i.zero = some (.agg #[.int .i64 0, .string ⟨#[]⟩, .int .u32 0])) (hsize : i.size = 3) (hby : i.bytes = 32)
    (v : Value) (l : List Nd) (hs : a.eval s = v) (hown : OwnN w base v l) (B : Nat) (A : Option Addr) (m : List Nd) (n c : Nat) (hn : m.length = n) (hx : a.eval x = .slice A n c) (hm : Nds w B A m) (hlen : l.length + n ≤ 1000000) (hbase : base ≤ w.heap.size)
    (h : ∀ v' w', OwnN w' base v' (l ++ m) → Below base w w' → K (a.put o.dst v') w') :
    if Region.wanted o (yielded ops a.tmps) = true then Oper.wp P o a w K Q else E := by
  have hw : Region.wanted o (yielded ops a.tmps) = true := by simp [Region.wanted, hgd]
  rw [if_pos hw]
  obtain ⟨v', w', hr, h2, h3⟩ := run_pushNs (P := P) w base t o.type i ht hi hz hsize hby v l hown B A m n c hn hm hlen hbase
  unfold Oper.wp execOp
  simp only [ho, resolve, invoke, builtin, Sem.run_bind, Sem.run_pure, Result.andThen_ok, List.map_toArray, List.map_cons, List.map_nil, hs, hx, hr]
  exact h v' w' h2 h3
/-- The same, in a plain region. -/
theorem wpList_pushNs {ops : Array Oper} {rest : List Oper} {o : Oper} {a : Act} {Q : Exit → Act → World → Prop} {w : World} (hgd : o.guard = none) (s x : Operand) (t : TypeId)
    (ho : o.op = .call { callee := .builtin .append, args := #[s, x], argTypes := #[t, t] })
    (base : Nat) (i : TypeInfo) (ht : P.underlying t = some (.slice 60)) (hi : P.info? 60 = some i) (hz : i.zero = some (.agg #[.int .i64 0, .string ⟨#[]⟩, .int .u32 0])) (hsize : i.size = 3) (hby : i.bytes = 32)
    (v : Value) (l : List Nd) (hs : a.eval s = v) (hown : OwnN w base v l) (B : Nat) (A : Option Addr) (m : List Nd) (n c : Nat) (hn : m.length = n) (hx : a.eval x = .slice A n c) (hm : Nds w B A m) (hlen : l.length + n ≤ 1000000) (hbase : base ≤ w.heap.size)
    (h : ∀ v' w', OwnN w' base v' (l ++ m) → Below base w w' → wpList P ops Q rest (a.put o.dst v') w') : wpList P ops Q (o :: rest) a w := by
  refine wpList_plain hgd fun K hK => ?_
  obtain ⟨v', w', hr, h2, h3⟩ := run_pushNs (P := P) w base t o.type i ht hi hz hsize hby v l hown B A m n c hn hm hlen hbase
  unfold Oper.wp execOp
  simp only [ho, resolve, invoke, builtin, Sem.run_bind, Sem.run_pure, Result.andThen_ok, List.map_toArray, List.map_cons, List.map_nil, hs, hx, hr]
  exact hK _ _ (h v' w' h2 h3)
end
end Go.Proofs.YtiafimbehcemcaaDoor
