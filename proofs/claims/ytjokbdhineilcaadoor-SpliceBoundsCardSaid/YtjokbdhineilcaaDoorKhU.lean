/-
  OddRoster and Down of the tape: what they give. Conditions: the tape; 'letters' is as the program's text lays it; the nodes can be read.
-/
import Derived.Test.YtjokbdhineilcaaDoorLgJ
import Derived.Test.YtjokbdhineilcaaDoorLhE
import Derived.Deep.RegionLaw
import Derived.Deep.RegionHeld3
namespace Go.Proofs.YtjokbdhineilcaaDoor
open Go.RowKit

theorem pick_new (g : Nat) (w1 : World) (ht : Tape w1 g) (vs : List Int) (hn : 0 < vs.length) (hm : vs.length ≤ 1000) :
    Calls Tryd.prog 47 #[.pointer (some ⟨g, 0, none⟩), .slice (some ⟨w1.heap.size, 0, none⟩) vs.length vs.length] (w1.alloc (.cells (vs.map (Value.int .i64)).toArray 3)) (PickP vs g (w1.alloc (.cells (vs.map (Value.int .i64)).toArray 3))) := by
  have hg := ht.lt
  have hV := Has.new w1 3 (vs.map (Value.int .i64)).toArray
  refine pick_any g w1.heap.size vs.length vs _ (ht.below ((Below.refl _ _).alloc (Nat.le_refl _) _)) hn hm (by simp) (by omega) (fun i hi => ?_)
  rw [hV.cell]
  simp [hi]
/-- What OddRoster gives. -/
def OddP (n g : Nat) (w : World) (e : Ending) (w' : World) : Prop := ∃ A c l, e = .returned (.slice A (l : List Nd).length c) ∧ OwnN w' w.heap.size (.slice A l.length c) l ∧ l.length ≤ n + 1 ∧ (∀ x ∈ l, x.wide) ∧ TStep w g w'
theorem oddP_mk {n g : Nat} {w w' : World} {v : Value} {l : List Nd} (ho : OwnN w' w.heap.size v l) (hn : l.length ≤ n + 1) (hw : ∀ x ∈ l, x.wide) (hs : TStep w g w') : OddP n g w (.returned v) w' := by
  obtain ⟨A, c, rfl, _⟩ := ho.read
  exact ⟨A, c, l, rfl, ho, hn, hw, hs⟩
theorem wide_snoc {l : List Nd} {x : Nd} (h : ∀ y ∈ l, y.wide) (k : x.wide) : ∀ y ∈ l ++ [x], y.wide := fun y hy => by
  rcases List.mem_append.1 hy with h1 | h1
  · exact h y h1
  · rw [List.mem_singleton.1 h1]; exact k
theorem wide_set {l : List Nd} {i : Nat} {x : Nd} (h : ∀ y ∈ l, y.wide) (k : x.wide) : ∀ y ∈ l.set i x, y.wide := fun y hy => by
  rcases List.mem_or_eq_of_mem_set hy with h1 | h1
  · exact h y h1
  · rw [h1]; exact k

theorem flatN_set0 : ∀ (l : List Nd) (pad : List Value) (i : Nat) (h : i < l.length) (v : Int), (flatN l ++ pad).set (i * 3) (.int .i64 v) = flatN (l.set i ⟨v, l[i].key, l[i].word⟩) ++ pad
  | [], _, _, h, _ => by simp at h
  | x :: l, pad, 0, _, v => rfl
  | x :: l, pad, i + 1, h, v => by
    have ih := flatN_set0 l pad i (by simpa using h) v
    rw [show (i + 1) * 3 = i * 3 + 3 by omega]
    show [_, _, _] ++ (flatN l ++ pad).set (i * 3) _ = _
    rw [ih]
    rfl
theorem flatN_set1 : ∀ (l : List Nd) (pad : List Value) (i : Nat) (h : i < l.length) (v : ByteArray), (flatN l ++ pad).set (i * 3 + 1) (.string v) = flatN (l.set i ⟨l[i].id, v, l[i].word⟩) ++ pad
  | [], _, _, h, _ => by simp at h
  | x :: l, pad, 0, _, v => rfl
  | x :: l, pad, i + 1, h, v => by
    have ih := flatN_set1 l pad i (by simpa using h) v
    rw [show (i + 1) * 3 + 1 = i * 3 + 1 + 3 by omega]
    show [_, _, _] ++ (flatN l ++ pad).set (i * 3 + 1) _ = _
    rw [ih]
    rfl
theorem flatN_set2 : ∀ (l : List Nd) (pad : List Value) (i : Nat) (h : i < l.length) (v : Nat), (flatN l ++ pad).set (i * 3 + 2) (.int .u32 (v : Int)) = flatN (l.set i ⟨l[i].id, l[i].key, v⟩) ++ pad
  | [], _, _, h, _ => by simp at h
  | x :: l, pad, 0, _, v => rfl
  | x :: l, pad, i + 1, h, v => by
    have ih := flatN_set2 l pad i (by simpa using h) v
    rw [show (i + 1) * 3 + 2 = i * 3 + 2 + 3 by omega]
    show [_, _, _] ++ (flatN l ++ pad).set (i * 3 + 2) _ = _
    rw [ih]
    rfl
theorem has_tstep {w w' : World} {g G : Nat} {t : TypeId} {cs : Array Value} (h : Has w G t cs) (hne : G ≠ g) (k : TStep w g w') : Has w' G t cs := (k.2.block G h.lt (fun e => hne (Option.some.inj e))).trans h

/-- A row of numbers of the call's own. -/
def OwnZ (w : World) (base : Nat) (v : Value) (l : List Int) : Prop := w.ownsRow base 3 1 v l.length (l.map (Value.int .i64)) ∧ ∀ x ∈ l, -9223372036854775808 ≤ x ∧ x ≤ 9223372036854775807
theorem OwnZ.nil (w : World) (base : Nat) : OwnZ w base (.slice none 0 0) [] := ⟨World.ownsRow_nil _ _ _ _, fun _ h => by cases h⟩
theorem OwnZ.keep {w w' : World} {base : Nat} {v : Value} {l : List Int} (h : OwnZ w base v l) (k : ∀ i, base ≤ i → i < w.heap.size → w'.heap[i]? = w.heap[i]?) : OwnZ w' base v l := by
  obtain ⟨⟨h1, h2 | ⟨g, cap, cur, h3, h4, h5, h6⟩⟩, hr⟩ := h
  · exact ⟨⟨h1, .inl h2⟩, hr⟩
  · exact ⟨⟨h1, .inr ⟨g, cap, cur, h3, h4, (k g h4 (Has.lt h5)).trans h5, h6⟩⟩, hr⟩
theorem OwnZ.below {w w' : World} {base : Nat} {v : Value} {l : List Int} (h : OwnZ w base v l) (k : Below w.heap.size w w') : OwnZ w' base v l := h.keep fun i _ hi => k.block i hi
theorem OwnZ.step {w w' : World} {base g : Nat} {v : Value} {l : List Int} (h : OwnZ w base v l) (hg : g < base) (k : TStep w g w') : OwnZ w' base v l := h.keep fun i h1 hi => k.2.block i hi (fun e => by have := Option.some.inj e; omega)
theorem OwnZ.read {w : World} {base : Nat} {v : Value} {l : List Int} (h : OwnZ w base v l) : ∃ A c, v = .slice A l.length c ∧ Ins w w.heap.size A l ∧ ∀ b o, A = some ⟨b, o, none⟩ → base ≤ b := by
  obtain ⟨⟨h1, ⟨rfl, h2⟩ | ⟨g, cap, cur, rfl, h4, h5, h6, h7, h8, h9⟩⟩, hr⟩ := h
  · have hl : l = [] := List.eq_nil_of_length_eq_zero h2
    subst hl
    exact ⟨none, 0, rfl, fun h => absurd rfl h, fun _ _ e => by cases e⟩
  · refine ⟨_, cap, rfl, fun _ => ⟨g, 0, rfl, Has.lt h5, fun i hi => ⟨hr _ (List.getElem_mem hi), ?_⟩⟩, fun b o e => by injection e with e; injection e with e _; omega⟩
    have hh : (l.map (Value.int .i64))[i]? = some (.int .i64 l[i]) := by simp [hi]
    rw [← h9, List.getElem?_take] at hh
    rw [Nat.zero_add, Has.cell h5, ← Array.getElem?_toList]
    split at hh
    · exact hh
    · cases hh
theorem infoI_parts : ∃ i, Tryd.prog.info? 3 = some i ∧ i.zero = some (.int .i64 0) ∧ i.size = 1 ∧ i.bytes = 8 := by
  have infoI : (Tryd.prog.info? 3).map (fun i => (i.zero, i.size, i.bytes)) = some (some (.int .i64 0), 1, 8) := by kernel_rfl
  obtain ⟨i, h, e⟩ := Option.map_eq_some_iff.1 infoI
  injection e with e1 e2
  injection e2 with e2 e3
  exact ⟨i, h, e1, e2, e3⟩
theorem wpList_pushZ {P : Program} {ops : Array Oper} {rest : List Oper} {o : Oper} {a : Act} {Q : Exit → Act → World → Prop} (hgd : o.guard = none) (s x : Operand) (t : TypeId)
    (ho : o.op = .call { callee := .builtin .append, args := #[s, x], argTypes := #[t, t] })
    (base : Nat) (i : TypeInfo) (ht : P.underlying t = some (.slice 3)) (hi : P.info? 3 = some i) (hz : i.zero = some (.int .i64 0)) (hsize : i.size = 1) (hby : i.bytes = 8)
    (v : Value) (l : List Int) (w0 : World) (f : Int) (hf : -9223372036854775808 ≤ f ∧ f ≤ 9223372036854775807) (hs : a.eval s = v) (hown : OwnZ w0 base v l) (hx : a.eval x = .slice (some ⟨w0.heap.size, 0, none⟩) 1 1) (hlen : l.length < 1000000) (hbase : base ≤ w0.heap.size)
    (h : ∀ v' w', OwnZ w' base v' (l ++ [f]) → Below base w0 w' → wpList P ops Q rest (a.put o.dst v') w') : wpList P ops Q (o :: rest) a (w0.alloc (.cells #[.int .i64 f] 3)) := by
  refine wpList_append_own_at _ hgd s x t ho base 3 i (.int .i64 0) 1 8 ht hi hz hsize hby rfl (by decide) v l.length (l.map (Value.int .i64)) hs (hown.below ((Below.refl _ _).alloc (Nat.le_refl _) _)).1 ⟨w0.heap.size, 0, none⟩ 1 1 [.int .i64 f] hx rfl ?_ ?_ (by unfold maxLen; omega) (by omega) (by simp; omega) ?_
  · intro j u hj
    have ea : (⟨w0.heap.size, 0, none⟩ : Addr).add j = ⟨w0.heap.size, 0 + j, none⟩ := by unfold Addr.add; split <;> simp_all
    rw [ea, Nat.zero_add, (Has.new w0 3 #[.int .i64 f]).cell, ← Array.getElem?_toList]
    exact hj
  · intro u hu
    simp at hu
    rw [hu]; rfl
  · intro v' w' ho' hg _ hat
    refine h v' w' ⟨?_, fun x hx => ?_⟩ ?_
    · rw [List.map_append, List.length_append]
      exact ho'
    · rcases List.mem_append.1 hx with h1 | h1
      · exact hown.2 x h1
      · rw [List.mem_singleton.1 h1]; exact hf
    · refine ((Below.refl _ _).alloc hbase _).trans ⟨hg.os, hg.tape, hg.output, hg.size, fun j hj => hg.block j (by rw [World.size_alloc]; omega) ?_⟩
      intro e
      obtain ⟨⟨_, ⟨rfl, _⟩ | ⟨g', cap', cur, rfl, h4, h5, _⟩⟩, _⟩ := hown
      · cases e
      · have : j = g' := Option.some.inj e
        omega
/-- ID again, with the bounds of what it gives. -/
def IdR (g : Nat) (w : World) (e : Ending) (w' : World) : Prop := ∃ v : Int, (-9223372036854775808 ≤ v ∧ v ≤ 9223372036854775807) ∧ e = .returned (.int .i64 v) ∧ TStep w g w'
theorem nds_step {w w' : World} {g : Nat} {A : Option Addr} {l : List Nd} (h : Nds w w.heap.size A l) (hA : ∀ b o, A = some ⟨b, o, none⟩ → b ≠ g) (k : TStep w g w') : Nds w' w'.heap.size A l := fun hn => by
  obtain ⟨b, o, e, hb, hc⟩ := h hn
  have hk := k.2.block b hb (fun e2 => hA b o e (Option.some.inj e2))
  exact ⟨b, o, e, Nat.lt_of_lt_of_le hb k.2.size, fun i hi => ⟨(World.cell?_of_block hk).trans (hc i hi).1, (World.cell?_of_block hk).trans (hc i hi).2.1, (World.cell?_of_block hk).trans (hc i hi).2.2⟩⟩
/-- What Down gives. -/
def DownP (n g : Nat) (w : World) (e : Ending) (w' : World) : Prop := ∃ A c l, e = .returned (.slice A (l : List Int).length c) ∧ OwnZ w' w.heap.size (.slice A l.length c) l ∧ l.length ≤ n ∧ TStep w g w'
end Go.Proofs.YtjokbdhineilcaaDoor
