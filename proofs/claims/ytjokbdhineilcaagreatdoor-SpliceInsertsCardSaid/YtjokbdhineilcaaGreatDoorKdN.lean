/-
  Lists of nodes: slices of nodes as they are read, and rows of nodes of the call's own, to which nodes are appended. No condition.
-/
import Derived.Test.YtjokbdhineilcaaGreatDoorLsP
import Derived.Test.YtjokbdhineilcaaGreatDoorKwL
import Derived.Test.YtjokbdhineilcaaGreatDoorKbA
import Derived.Test.YtjokbdhineilcaaGreatDoorRows
import Derived.Outline
import Derived.Lib.Hide
import Derived.Deep.AppendLies
namespace Go.Proofs.YtjokbdhineilcaaGreatDoor
open Go.RowKit

/-- A node, as the program holds it. -/
structure Nd where
  id : Int
  key : ByteArray
  word : Nat
abbrev Nd.val (f : Nd) : Value := .agg #[.int .i64 f.id, .string f.key, .int .u32 (f.word : Int)]
/-- What comes in fits its Go types. -/
def Nd.wide (f : Nd) : Prop := (-9223372036854775808 ≤ f.id ∧ f.id ≤ 9223372036854775807) ∧ f.word < 4294967296

/-- Slices of nodes below block B, as they are read. -/
def Nds (w : World) (B : Nat) (A : Option Addr) (l : List Nd) : Prop :=
  l ≠ [] → ∃ b o, A = some ⟨b, o, none⟩ ∧ b < B ∧ ∀ i (h : i < l.length), w.cell? ⟨b, o + i * 3, none⟩ = some (.int .i64 l[i].id) ∧ w.cell? ⟨b, o + i * 3 + 1, none⟩ = some (.string l[i].key) ∧ w.cell? ⟨b, o + i * 3 + 2, none⟩ = some (.int .u32 (l[i].word : Int))
section
variable {w w' : World} {B B' : Nat} {A : Option Addr} {l : List Nd}
theorem Nds.keep (h : Nds w B A l) (k : ∀ i, i < B → w'.heap[i]? = w.heap[i]?) : Nds w' B A l := fun hn => by
  obtain ⟨b, o, e, hb, hc⟩ := h hn
  exact ⟨b, o, e, hb, fun i hi => ⟨(World.cell?_of_block (k b hb)).trans (hc i hi).1, (World.cell?_of_block (k b hb)).trans (hc i hi).2.1, (World.cell?_of_block (k b hb)).trans (hc i hi).2.2⟩⟩
theorem Nds.below (h : Nds w B A l) (k : Below B w w') : Nds w' B A l := h.keep k.block
theorem Nds.more (h : Nds w B A l) (hB : B ≤ B') : Nds w B' A l := fun hn => by
  obtain ⟨b, o, e, hb, hc⟩ := h hn
  exact ⟨b, o, e, by omega, hc⟩
theorem Nds.at_ (h : Nds w B A l) {i : Nat} (hi : i < l.length) : ∃ b o, A = some ⟨b, o, none⟩ ∧ b < B ∧ w.cell? ⟨b, o + i * 3, none⟩ = some (.int .i64 l[i].id) ∧ w.cell? ⟨b, o + i * 3 + 1, none⟩ = some (.string l[i].key) ∧ w.cell? ⟨b, o + i * 3 + 2, none⟩ = some (.int .u32 (l[i].word : Int)) := by
  obtain ⟨b, o, e, hb, hc⟩ := h (by intro e; rw [e] at hi; simp at hi)
  exact ⟨b, o, e, hb, hc i hi⟩
theorem Nds.nil (A : Option Addr) : Nds w B A [] := fun h => absurd rfl h
end
theorem infoNode : (Tryz.prog.info? 25).map (fun i => (i.zero, i.size, i.bytes)) = some (some (.agg #[.int .i64 0, .string ⟨#[]⟩, .int .u32 0]), 3, 32) := by kernel_rfl
theorem infoN_parts : ∃ i, Tryz.prog.info? 25 = some i ∧ i.zero = some (.agg #[.int .i64 0, .string ⟨#[]⟩, .int .u32 0]) ∧ i.size = 3 ∧ i.bytes = 32 := by
  obtain ⟨i, h, e⟩ := Option.map_eq_some_iff.1 infoNode
  injection e with e1 e2
  injection e2 with e2 e3
  exact ⟨i, h, e1, e2, e3⟩

/-- A row of nodes of the call's own. -/
def flatN (l : List Nd) : List Value := l.flatMap fun f => [.int .i64 f.id, .string f.key, .int .u32 (f.word : Int)]
theorem flatN_len (l : List Nd) : (flatN l).length = l.length * 3 := by
  induction l with
  | nil => rfl
  | cons x l ih => show (_ ++ flatN l).length = _; rw [List.length_append, ih]; simp; omega
theorem flatN_snoc (l : List Nd) (f : Nd) : flatN (l ++ [f]) = flatN l ++ [.int .i64 f.id, .string f.key, .int .u32 (f.word : Int)] := by simp [flatN]
theorem flatN_at : ∀ (l : List Nd) (i : Nat) (h : i < l.length), (flatN l)[i * 3]? = some (.int .i64 l[i].id) ∧ (flatN l)[i * 3 + 1]? = some (.string l[i].key) ∧ (flatN l)[i * 3 + 2]? = some (.int .u32 (l[i].word : Int))
  | [], _, h => by simp at h
  | _ :: _, 0, _ => ⟨rfl, rfl, rfl⟩
  | f :: l, i + 1, h => by
    have := flatN_at l i (by simpa using h)
    rw [show (i + 1) * 3 = i * 3 + 3 by omega]
    exact this
def OwnN (w : World) (base : Nat) (v : Value) (l : List Nd) : Prop := w.ownsRow base 25 3 v l.length (flatN l)
theorem OwnN.nil (w : World) (base : Nat) : OwnN w base (.slice none 0 0) [] := World.ownsRow_nil _ _ _ _
theorem OwnN.below {w w' : World} {base : Nat} {v : Value} {l : List Nd} (h : OwnN w base v l) (k : Below w.heap.size w w') : OwnN w' base v l := by
  obtain ⟨h1, h2 | ⟨g, cap, cur, h3, h4, h5, h6⟩⟩ := h
  · exact ⟨h1, .inl h2⟩
  · exact ⟨h1, .inr ⟨g, cap, cur, h3, h4, (k.block g (Has.lt h5)).trans h5, h6⟩⟩
theorem OwnN.read {w : World} {base : Nat} {v : Value} {l : List Nd} (h : OwnN w base v l) : ∃ A c, v = .slice A l.length c ∧ Nds w w.heap.size A l := by
  obtain ⟨h1, ⟨rfl, h2⟩ | ⟨g, cap, cur, rfl, h4, h5, h6, h7, h8, h9⟩⟩ := h
  · have hl : l = [] := List.eq_nil_of_length_eq_zero h2
    subst hl
    exact ⟨none, 0, rfl, Nds.nil _⟩
  · refine ⟨_, cap, rfl, fun _ => ⟨g, 0, rfl, Has.lt h5, fun i hi => ?_⟩⟩
    have hh := flatN_at l i hi
    rw [← h9] at hh
    have ht : ∀ j u, (cur.toList.take (l.length * 3))[j]? = some u → w.cell? ⟨g, 0 + j, none⟩ = some u := fun j u hj => by
      rw [Nat.zero_add, Has.cell h5, ← Array.getElem?_toList]
      rw [List.getElem?_take] at hj
      split at hj
      · exact hj
      · cases hj
    exact ⟨ht _ _ hh.1, ht _ _ hh.2.1, ht _ _ hh.2.2⟩
section
variable {P : Program}
/-- append of one node, which lies in the block that was just made. -/
theorem wpList_pushN {ops : Array Oper} {rest : List Oper} {o : Oper} {a : Act} {Q : Exit → Act → World → Prop} (hgd : o.guard = none) (s x : Operand) (t : TypeId)
    (ho : o.op = .call { callee := .builtin .append, args := #[s, x], argTypes := #[t, t] })
    (base : Nat) (i : TypeInfo) (ht : P.underlying t = some (.slice 25)) (hi : P.info? 25 = some i) (hz : i.zero = some (.agg #[.int .i64 0, .string ⟨#[]⟩, .int .u32 0])) (hsize : i.size = 3) (hby : i.bytes = 32)
    (v : Value) (l : List Nd) (w0 : World) (f : Nd) (hs : a.eval s = v) (hown : OwnN w0 base v l) (hx : a.eval x = .slice (some ⟨w0.heap.size, 0, none⟩) 1 1) (hlen : l.length < 1000000) (hbase : base ≤ w0.heap.size)
    (h : ∀ v' w', OwnN w' base v' (l ++ [f]) → Below base w0 w' → wpList P ops Q rest (a.put o.dst v') w') : wpList P ops Q (o :: rest) a (w0.alloc (.cells #[.int .i64 f.id, .string f.key, .int .u32 (f.word : Int)] 25)) := by
  refine wpList_append_own_at _ hgd s x t ho base 25 i (.agg #[.int .i64 0, .string ⟨#[]⟩, .int .u32 0]) 3 32 ht hi hz hsize hby rfl (by decide) v l.length (flatN l) hs (OwnN.below hown ((Below.refl _ _).alloc (Nat.le_refl _) _)) ⟨w0.heap.size, 0, none⟩ 1 1 [.int .i64 f.id, .string f.key, .int .u32 (f.word : Int)] hx rfl ?_ ?_ (by unfold maxLen; omega) (by omega) (by simp; omega) ?_
  · intro j u hj
    rw [add_at, Nat.zero_add, (Has.new w0 25 #[.int .i64 f.id, .string f.key, .int .u32 (f.word : Int)]).cell, ← Array.getElem?_toList]
    exact hj
  · intro u hu
    simp at hu
    rcases hu with rfl | rfl | rfl <;> rfl
  · intro v' w' ho' hg _ hat
    refine h v' w' ?_ ?_
    · unfold OwnN
      rw [flatN_snoc, List.length_append]
      exact ho'
    · refine ((Below.refl _ _).alloc hbase _).trans ⟨hg.os, hg.tape, hg.output, hg.size, fun j hj => hg.block j (by rw [World.size_alloc]; omega) ?_⟩
      intro e
      obtain ⟨_, ⟨rfl, _⟩ | ⟨g', cap', cur, rfl, h4, h5, _⟩⟩ := hown
      · cases e
      · have : j = g' := Option.some.inj e
        omega
end
theorem OwnN.keep {w w' : World} {base : Nat} {v : Value} {l : List Nd} (h : OwnN w base v l) (k : ∀ i, base ≤ i → i < w.heap.size → w'.heap[i]? = w.heap[i]?) : OwnN w' base v l := by
  obtain ⟨h1, h2 | ⟨g, cap, cur, h3, h4, h5, h6⟩⟩ := h
  · exact ⟨h1, .inl h2⟩
  · exact ⟨h1, .inr ⟨g, cap, cur, h3, h4, (k g h4 (Has.lt h5)).trans h5, h6⟩⟩
theorem OwnN.step {w w' : World} {base g : Nat} {v : Value} {l : List Nd} (h : OwnN w base v l) (hg : g < base) (k : TStep w g w') : OwnN w' base v l := h.keep fun i h1 hi => k.2.block i hi (fun e => by have := Option.some.inj e; omega)
end Go.Proofs.YtjokbdhineilcaaGreatDoor
