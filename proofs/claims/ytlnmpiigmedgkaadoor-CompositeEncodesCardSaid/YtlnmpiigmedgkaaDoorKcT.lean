/-
  Schemas and fields from the tape. Conditions: the tape; 'texts' holds eight strings of at most two bytes, and is not the tape.
-/
import Derived.Test.YtlnmpiigmedgkaaDoorKcS
import Derived.Test.YtlnmpiigmedgkaaDoorKwQ
namespace Go.Proofs.YtlnmpiigmedgkaaDoor
open Go.RowKit

/-- 'texts' holds eight strings of at most two bytes. -/
def Txts (w : World) : Prop := ∀ i, i < 8 → ∃ s : ByteArray, s.size ≤ 2 ∧ w.cell? ⟨0, i, none⟩ = some (.string s)
theorem Txts.lt {w : World} (h : Txts w) : 0 < w.heap.size := by
  obtain ⟨s, _, hc⟩ := h 0 (by omega)
  exact World.block_lt_of_cell? w _ hc
theorem Txts.keep {w w' : World} (h : Txts w) (k : w'.heap[0]? = w.heap[0]?) : Txts w' := fun i hi => by
  obtain ⟨s, h1, h2⟩ := h i hi
  exact ⟨s, h1, (World.cell?_of_block (w := w) k).trans h2⟩
theorem Txts.below {w w' : World} (h : Txts w) (k : Below w.heap.size w w') : Txts w' := h.keep (k.block _ h.lt)
theorem Txts.step {w w' : World} {g : Nat} (h : Txts w) (hg : 0 ≠ g) (k : TStep w g w') : Txts w' := h.keep (k.2.block _ h.lt (fun e => hg (Option.some.inj e)))

/-- What is written in blocks of the call's own turns no tape. -/
theorem TStep.over {a b c : World} {g : Nat} (h : TStep a g b) (hg : g < a.heap.size) (k : Below a.heap.size b c) : TStep a g c := by
  obtain ⟨A, n, cc, q, h1, h2, hn, hb⟩ := h.1
  refine ⟨⟨A, n, cc, q, h1, h2, hn.keep (fun i hi => k.block i (by omega)), (k.block _ hg).trans hb⟩, ?_⟩
  exact ⟨k.os.trans h.2.os, k.tape.trans h.2.tape, k.output.trans h.2.output, Nat.le_trans h.2.size k.size, fun i hi hk => (k.block i hi).trans (h.2.block i hi hk)⟩

theorem infoColumn : (Tryd.prog.info? 33).map (fun i => (i.zero, i.size, i.bytes)) = some (some (.agg #[.int .i64 0, .bool false]), 2, 16) := by kernel_rfl
theorem infoC_parts : ∃ i, Tryd.prog.info? 33 = some i ∧ i.zero = some (.agg #[.int .i64 0, .bool false]) ∧ i.size = 2 ∧ i.bytes = 16 := by
  obtain ⟨i, h, e⟩ := Option.map_eq_some_iff.1 infoColumn
  injection e with e1 e2
  injection e2 with e2 e3
  exact ⟨i, h, e1, e2, e3⟩
/-- A row of columns of the call's own. -/
def flatC (l : List Col) : List Value := l.flatMap fun f => [.int .i64 f.kind, .bool f.desc]
theorem flatC_len (l : List Col) : (flatC l).length = l.length * 2 := by
  induction l with
  | nil => rfl
  | cons x l ih => show (_ ++ flatC l).length = _; rw [List.length_append, ih]; simp; omega
theorem flatC_snoc (l : List Col) (f : Col) : flatC (l ++ [f]) = flatC l ++ [.int .i64 f.kind, .bool f.desc] := by simp [flatC]
theorem flatC_at : ∀ (l : List Col) (i : Nat) (h : i < l.length), (flatC l)[i * 2]? = some (.int .i64 l[i].kind) ∧ (flatC l)[i * 2 + 1]? = some (.bool l[i].desc)
  | [], _, h => by simp at h
  | _ :: _, 0, _ => ⟨rfl, rfl⟩
  | f :: l, i + 1, h => by
    have := flatC_at l i (by simpa using h)
    rw [show (i + 1) * 2 = i * 2 + 2 by omega]
    exact this
def OwnC (w : World) (base : Nat) (v : Value) (l : List Col) : Prop := w.ownsRow base 33 2 v l.length (flatC l)
theorem OwnC.nil (w : World) (base : Nat) : OwnC w base (.slice none 0 0) [] := World.ownsRow_nil _ _ _ _
theorem OwnC.keep {w w' : World} {base : Nat} {v : Value} {l : List Col} (h : OwnC w base v l) (k : ∀ i, base ≤ i → i < w.heap.size → w'.heap[i]? = w.heap[i]?) : OwnC w' base v l := by
  obtain ⟨h1, h2 | ⟨g, cap, cur, h3, h4, h5, h6⟩⟩ := h
  · exact ⟨h1, .inl h2⟩
  · exact ⟨h1, .inr ⟨g, cap, cur, h3, h4, (k g h4 (Has.lt h5)).trans h5, h6⟩⟩
theorem OwnC.below {w w' : World} {base : Nat} {v : Value} {l : List Col} (h : OwnC w base v l) (k : Below w.heap.size w w') : OwnC w' base v l := h.keep fun i _ hi => k.block i hi
theorem OwnC.step {w w' : World} {base g : Nat} {v : Value} {l : List Col} (h : OwnC w base v l) (hg : g < base) (k : TStep w g w') : OwnC w' base v l := h.keep fun i h1 hi => k.2.block i hi (fun e => by have := Option.some.inj e; omega)
theorem OwnC.read {w : World} {base : Nat} {v : Value} {l : List Col} (h : OwnC w base v l) : ∃ A c, v = .slice A l.length c ∧ l.length ≤ c ∧ Cols w w.heap.size A l := by
  obtain ⟨h1, ⟨rfl, h2⟩ | ⟨g, cap, cur, rfl, h4, h5, h6, h7, h8, h9⟩⟩ := h
  · have hl : l = [] := List.eq_nil_of_length_eq_zero h2
    subst hl
    exact ⟨none, 0, rfl, Nat.le_refl _, fun h => absurd rfl h⟩
  · refine ⟨_, cap, rfl, h6, fun _ => ⟨g, 0, rfl, Has.lt h5, fun i hi => ?_⟩⟩
    have hh := flatC_at l i hi
    rw [← h9] at hh
    have ht : ∀ j u, (cur.toList.take (l.length * 2))[j]? = some u → w.cell? ⟨g, 0 + j, none⟩ = some u := fun j u hj => by
      rw [Nat.zero_add, Has.cell h5, ← Array.getElem?_toList]
      rw [List.getElem?_take] at hj
      split at hj
      · exact hj
      · cases hj
    exact ⟨ht _ _ hh.1, ht _ _ hh.2⟩
theorem OwnF.keep {w w' : World} {base : Nat} {v : Value} {l : List Fd} (h : OwnF w base v l) (k : ∀ i, base ≤ i → i < w.heap.size → w'.heap[i]? = w.heap[i]?) : OwnF w' base v l := by
  obtain ⟨h1, h2 | ⟨g, cap, cur, h3, h4, h5, h6⟩⟩ := h
  · exact ⟨h1, .inl h2⟩
  · exact ⟨h1, .inr ⟨g, cap, cur, h3, h4, (k g h4 (Has.lt h5)).trans h5, h6⟩⟩
theorem OwnF.step {w w' : World} {base g : Nat} {v : Value} {l : List Fd} (h : OwnF w base v l) (hg : g < base) (k : TStep w g w') : OwnF w' base v l := h.keep fun i h1 hi => k.2.block i hi (fun e => by have := Option.some.inj e; omega)
section
variable {P : Program}
/-- append of one column, which lies in the block that was just made. -/
theorem wpList_pushC {ops : Array Oper} {rest : List Oper} {o : Oper} {a : Act} {Q : Exit → Act → World → Prop} (hgd : o.guard = none) (s x : Operand) (t : TypeId)
    (ho : o.op = .call { callee := .builtin .append, args := #[s, x], argTypes := #[t, t] })
    (base : Nat) (i : TypeInfo) (ht : P.underlying t = some (.slice 33)) (hi : P.info? 33 = some i) (hz : i.zero = some (.agg #[.int .i64 0, .bool false])) (hsize : i.size = 2) (hby : i.bytes = 16)
    (v : Value) (l : List Col) (w0 : World) (f : Col) (hs : a.eval s = v) (hown : OwnC w0 base v l) (hx : a.eval x = .slice (some ⟨w0.heap.size, 0, none⟩) 1 1) (hlen : l.length < 1000000) (hbase : base ≤ w0.heap.size)
    (h : ∀ v' w', OwnC w' base v' (l ++ [f]) → Below base w0 w' → wpList P ops Q rest (a.put o.dst v') w') : wpList P ops Q (o :: rest) a (w0.alloc (.cells #[.int .i64 f.kind, .bool f.desc] 33)) := by
  refine wpList_append_own_at _ hgd s x t ho base 33 i (.agg #[.int .i64 0, .bool false]) 2 16 ht hi hz hsize hby rfl (by decide) v l.length (flatC l) hs (OwnC.below hown ((Below.refl _ _).alloc (Nat.le_refl _) _)) ⟨w0.heap.size, 0, none⟩ 1 1 [.int .i64 f.kind, .bool f.desc] hx rfl ?_ ?_ (by unfold maxLen; omega) (by omega) (by simp; omega) ?_
  · intro j u hj
    rw [add_at, Nat.zero_add, (Has.new w0 33 #[.int .i64 f.kind, .bool f.desc]).cell, ← Array.getElem?_toList]
    exact hj
  · intro u hu
    simp at hu
    rcases hu with rfl | rfl <;> rfl
  · intro v' w' ho' hg _ hat
    refine h v' w' ?_ ?_
    · unfold OwnC
      rw [flatC_snoc, List.length_append]
      exact ho'
    · refine ((Below.refl _ _).alloc hbase _).trans ⟨hg.os, hg.tape, hg.output, hg.size, fun j hj => hg.block j (by rw [World.size_alloc]; omega) ?_⟩
      intro e
      obtain ⟨_, ⟨rfl, _⟩ | ⟨g', cap', cur, rfl, h4, h5, _⟩⟩ := hown
      · cases e
      · have : j = g' := Option.some.inj e
        omega
end

/-- What schema gives. -/
def SchP (g : Nat) (w : World) (e : Ending) (w' : World) : Prop := ∃ A c cs, e = .returned (.slice A (cs : List Col).length c) ∧ OwnC w' w.heap.size (.slice A cs.length c) cs ∧ 1 ≤ cs.length ∧ cs.length ≤ 4 ∧ cs.all Col.ok = true ∧ TStep w g w'
set_option maxRecDepth 100000 in
set_option maxHeartbeats 3200000 in
theorem schema_any (g : Nat) (w : World) (ht : Tape w g) :
    Calls Tryd.prog 16 #[.pointer (some ⟨g, 0, none⟩)] w (SchP g w) := by
  have hg := ht.lt
  obtain ⟨inf, hif, hif1, hif2, hif3⟩ := infoC_parts
  go_enter Tryd.func16, Tryd.ntmps16
  go_wp2_with (go_at_call 18; refine (next_any g _ _ ht (by omega)).mono ?_; rintro e w1 ⟨r, r0, r1, rfl, hst⟩)
  go_loopw [3, 4] (fun b i wr => ∃ (A : Option Addr) (c k : Nat) (cs : List Col), b = .slice A cs.length c ∧ i = .int .i64 (k : Int) ∧ 1 ≤ k + cs.length ∧ k + cs.length ≤ 4 ∧ OwnC wr w.heap.size (.slice A cs.length c) cs ∧ cs.all Col.ok = true ∧ TStep w g wr) (fun _ i _ => (intOf i).toNat)
  case atStart => exact ⟨none, 0, (1 + r).toNat, [], rfl, by congr 1; omega, by simp; omega, by simp; omega, OwnC.nil _ _, rfl, hst⟩
  case round =>
    clear hst
    obtain ⟨A, c, k, cs, rfl, rfl, hk1, hk2, ho, hok, hst⟩ := hrel
    by_cases hlt : 0 < k
    · have j1 : (0 : Int) < (k : Int) := by omega
      have hOK := Lib.hid hok
      clear hok
      go_wp2_with fail
      refine (next_any g _ _ hst.1 (by omega)).mono ?_
      rintro e w2 ⟨q, q0, q1, rfl, hst2⟩
      have hS2 := hst.trans hst2
      have ho2 := ho.step hg hst2
      go_wp2_with fail
      refine (bool_any g _ _ hS2.1 (by omega) (by omega)).mono ?_
      rintro e w3 ⟨d, rfl, hst3⟩
      have hS3 := hS2.trans hst3
      have ho3 := ho2.step hg hst3
      have hbs := hS3.2.size
      clear hst hst2 hst3 hS2 ho2 ho
      go_wp2_with (at_builtin; refine wpList_pushC rfl _ _ 23 rfl w.heap.size inf Tryd.underlying23 hif hif1 hif2 hif3 (.slice A cs.length c) cs _ ⟨1 + q, d⟩ rfl ho3 rfl (by omega) hbs ?_; intro v2 w6 ho6 hb6; obtain ⟨cs2, hcs2⟩ : ∃ cs2, cs2 = cs ++ [(⟨1 + q, d⟩ : Col)] := ⟨_, rfl⟩; rw [← hcs2] at ho6; have hfl2 : cs2.length = cs.length + 1 := (by rw [hcs2]; simp); have HF2 := Lib.hid hcs2; have HL2 := Lib.hid hfl2; clear hcs2 hfl2; obtain ⟨A3, c3, rfl, -, -⟩ := ho6.read)
      refine ⟨⟨A3, c3, k - 1, cs2, rfl, by congr 1; omega, by have := HL2.out; omega, by have := HL2.out; omega, ho6, ?_, hS3.over hg hb6⟩, by simp [intOf]; omega⟩
      rw [HF2.out, List.all_append, hOK.out]
      have hq : q = 0 ∨ q = 1 := by omega
      rcases hq with rfl | rfl <;> rfl
    · have hk0 : k = 0 := by omega
      subst hk0
      go_wp2_with fail
      go_ret
      exact ⟨A, c, cs, rfl, ho, by omega, by omega, hok, hst⟩
end Go.Proofs.YtlnmpiigmedgkaaDoor
