/-
  A row of ranges of the call's own, to which ranges are appended; who owns a key, by its place. No condition.
-/
import Derived.Test.YtiafimbehcemcaaDoorKsH
import Derived.Test.YtiafimbehcemcaaDoorKgM
import Derived.Test.YtiafimbehcemcaaDoorKwL
import Derived.Deep.AppendLies
namespace Go.Proofs.YtiafimbehcemcaaDoor
open Go.RowKit

theorem flatR_at : ∀ (l : List Rg) (i : Nat) (h : i < l.length), (flat l)[i * 4]? = some (.string l[i].lo.key) ∧ (flat l)[i * 4 + 1]? = some (.bool l[i].lo.top) ∧ (flat l)[i * 4 + 2]? = some (.string l[i].hi.key) ∧ (flat l)[i * 4 + 3]? = some (.bool l[i].hi.top)
  | [], _, h => by simp at h
  | _ :: _, 0, _ => ⟨rfl, rfl, rfl, rfl⟩
  | f :: l, i + 1, h => by
    have := flatR_at l i (by simpa using h)
    rw [show (i + 1) * 4 = i * 4 + 4 by omega]
    exact this
theorem rgs_up {w w' : World} {B : Nat} {A : Option Addr} {l : List Rg} (h : Rgs w B A l) (hB : B ≤ w.heap.size) (k : Below w.heap.size w w') : Rgs w' w'.heap.size A l := fun hn => by
  obtain ⟨b, o, e, hb, hc⟩ := (h.keep (w' := w') fun i hi => k.block i (by omega)) hn
  exact ⟨b, o, e, by have := k.size; omega, hc⟩
theorem rgs_step {w w' : World} {g : Nat} {A : Option Addr} {l : List Rg} (h : Rgs w w.heap.size A l) (hA : ∀ b o, A = some ⟨b, o, none⟩ → b ≠ g) (k : TStep w g w') : Rgs w' w'.heap.size A l := fun hn => by
  obtain ⟨b, o, e, hb, hc⟩ := h hn
  have hk := k.2.block b hb (fun e2 => hA b o e (Option.some.inj e2))
  exact ⟨b, o, e, Nat.lt_of_lt_of_le hb k.2.size, fun i hi => ⟨(World.cell?_of_block hk).trans (hc i hi).1, (World.cell?_of_block hk).trans (hc i hi).2.1, (World.cell?_of_block hk).trans (hc i hi).2.2.1, (World.cell?_of_block hk).trans (hc i hi).2.2.2⟩⟩
theorem rgs_at {w : World} {B : Nat} {A : Option Addr} {l : List Rg} (h : Rgs w B A l) {i : Nat} (hi : i < l.length) : ∃ b o, A = some ⟨b, o, none⟩ ∧ b < B ∧ w.cell? ⟨b, o + i * 4, none⟩ = some (.string l[i].lo.key) ∧ w.cell? ⟨b, o + i * 4 + 1, none⟩ = some (.bool l[i].lo.top) ∧ w.cell? ⟨b, o + i * 4 + 2, none⟩ = some (.string l[i].hi.key) ∧ w.cell? ⟨b, o + i * 4 + 3, none⟩ = some (.bool l[i].hi.top) := by
  obtain ⟨b, o, e, hb, hc⟩ := h (by intro e; rw [e] at hi; simp at hi)
  exact ⟨b, o, e, hb, hc i hi⟩
def OwnG (w : World) (base : Nat) (v : Value) (l : List Rg) : Prop := w.ownsRow base 74 4 v l.length (flat l)
theorem OwnG.nil (w : World) (base : Nat) : OwnG w base (.slice none 0 0) [] := World.ownsRow_nil _ _ _ _
theorem OwnG.below {w w' : World} {base : Nat} {v : Value} {l : List Rg} (h : OwnG w base v l) (k : Below w.heap.size w w') : OwnG w' base v l := own_below h k
theorem OwnG.read {w : World} {base : Nat} {v : Value} {l : List Rg} (h : OwnG w base v l) : ∃ A c, v = .slice A l.length c ∧ l.length ≤ c ∧ c ≤ maxLen ∧ Rgs w w.heap.size A l ∧ ∀ b o, A = some ⟨b, o, none⟩ → base ≤ b := by
  obtain ⟨h1, ⟨rfl, h2⟩ | ⟨g, cap, cur, rfl, h4, h5, h6, h7, h8, h9⟩⟩ := h
  · have hl : l = [] := List.eq_nil_of_length_eq_zero h2
    subst hl
    exact ⟨none, 0, rfl, Nat.le_refl _, by unfold maxLen; omega, fun h => absurd rfl h, fun _ _ e => by cases e⟩
  · refine ⟨_, cap, rfl, h6, h7, fun _ => ⟨g, 0, rfl, Has.lt h5, fun i hi => ?_⟩, fun b o e => by injection e with e; injection e with e _; omega⟩
    have hh := flatR_at l i hi
    rw [← h9] at hh
    have ht : ∀ j u, (cur.toList.take (l.length * 4))[j]? = some u → w.cell? ⟨g, 0 + j, none⟩ = some u := fun j u hj => by
      rw [Nat.zero_add, Has.cell h5, ← Array.getElem?_toList]
      rw [List.getElem?_take] at hj
      split at hj
      · exact hj
      · cases hj
    exact ⟨ht _ _ hh.1, ht _ _ hh.2.1, ht _ _ hh.2.2.1, ht _ _ hh.2.2.2⟩
section
variable {P : Program}
/-- append of one range, which lies in the block that was just made. -/
theorem wpList_pushR {ops : Array Oper} {rest : List Oper} {o : Oper} {a : Act} {Q : Exit → Act → World → Prop} (hgd : o.guard = none) (s x : Operand) (t : TypeId)
    (ho : o.op = .call { callee := .builtin .append, args := #[s, x], argTypes := #[t, t] })
    (base : Nat) (i : TypeInfo) (ht : P.underlying t = some (.slice 74)) (hi : P.info? 74 = some i) (hz : i.zero = some (.agg #[.string ⟨#[]⟩, .bool false, .string ⟨#[]⟩, .bool false])) (hsize : i.size = 4) (hby : i.bytes = 48)
    (v : Value) (l : List Rg) (w0 : World) (k1 : ByteArray) (t1 : Bool) (k2 : ByteArray) (t2 : Bool) (hs : a.eval s = v) (hown : OwnG w0 base v l) (hx : a.eval x = .slice (some ⟨w0.heap.size, 0, none⟩) 1 1) (hlen : l.length < 1000000) (hbase : base ≤ w0.heap.size)
    (h : ∀ v' w', OwnG w' base v' (l ++ [⟨⟨k1, t1⟩, ⟨k2, t2⟩⟩]) → Below base w0 w' → wpList P ops Q rest (a.put o.dst v') w') : wpList P ops Q (o :: rest) a (w0.alloc (.cells #[.string k1, .bool t1, .string k2, .bool t2] 74)) := by
  refine wpList_append_own_at _ hgd s x t ho base 74 i (.agg #[.string ⟨#[]⟩, .bool false, .string ⟨#[]⟩, .bool false]) 4 48 ht hi hz hsize hby rfl (by decide) v l.length (flat l) hs (OwnG.below hown ((Below.refl _ _).alloc (Nat.le_refl _) _)) ⟨w0.heap.size, 0, none⟩ 1 1 [.string k1, .bool t1, .string k2, .bool t2] hx rfl ?_ ?_ (by unfold maxLen; omega) (by omega) (by simp; omega) ?_
  · intro j u hj
    have ea : (⟨w0.heap.size, 0, none⟩ : Addr).add j = ⟨w0.heap.size, 0 + j, none⟩ := by unfold Addr.add; split <;> simp_all
    rw [ea, Nat.zero_add, (Has.new w0 74 #[.string k1, .bool t1, .string k2, .bool t2]).cell, ← Array.getElem?_toList]
    exact hj
  · intro u hu
    simp at hu
    rcases hu with rfl | rfl | rfl | rfl <;> rfl
  · intro v' w' ho' hg _ hat
    refine h v' w' ?_ ?_
    · unfold OwnG
      rw [flat_snoc, List.length_append]
      exact ho'
    · refine ((Below.refl _ _).alloc hbase _).trans ⟨hg.os, hg.tape, hg.output, hg.size, fun j hj => hg.block j (by rw [World.size_alloc]; omega) ?_⟩
      intro e
      obtain ⟨_, ⟨rfl, _⟩ | ⟨g', cap', cur, rfl, h4, h5, _⟩⟩ := hown
      · cases e
      · have : j = g' := Option.some.inj e
        omega
end
theorem infoG_parts : ∃ i, Tryd.prog.info? 74 = some i ∧ i.zero = some (.agg #[.string ⟨#[]⟩, .bool false, .string ⟨#[]⟩, .bool false]) ∧ i.size = 4 ∧ i.bytes = 48 := by
  obtain ⟨i, h, e⟩ := Option.map_eq_some_iff.1 infoRange
  injection e with e1 e2
  injection e2 with e2 e3
  exact ⟨i, h, e1, e2, e3⟩
theorem own_at {s : List Nd} (h0 : s ≠ []) (key : ByteArray) : ∃ h : abv s key - 1 < s.length, ownV s key = s[abv s key - 1] := by
  have h1 := abv_le s key
  have h2 : 0 < s.length := List.length_pos_iff.2 h0
  have h3 : abv s key - 1 < s.length := by omega
  exact ⟨h3, by unfold ownV; rw [List.getElem?_eq_getElem h3]; rfl⟩
/-- Whether a node owns a key. -/
theorem owns_iff {s : List Nd} (h0 : s ≠ []) (ha : s.Pairwise Nd.apart) (key : ByteArray) {i : Nat} (hi : i < s.length) : (s[i].id == (ownV s key).id) = decide (i = abv s key - 1) := by
  obtain ⟨h1, h2⟩ := own_at h0 key
  rw [h2]
  by_cases e : i = abv s key - 1
  · simp [e]
  · have : s[i].id ≠ (s[abv s key - 1]).id := fun h => e (apart_at ha hi h1 h)
    simp [e, this]
theorem tiles_take {s : List Nd} {k : Nat} (h : k < s.length) : (tilesOf s).take (k + 1) = (tilesOf s).take k ++ [ivlAt s k] := by
  have hk : k < (tilesOf s).length := by rw [tilesOf_len]; exact h
  rw [List.take_succ_eq_append_getElem hk, tilesOf_at hk]
end Go.Proofs.YtiafimbehcemcaaDoor
