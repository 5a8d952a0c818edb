/-
  A row of nodes that is being sorted: the worlds through which the sort passes. No condition.
-/
import Derived.Test.YtiafimbehcemcaaDoorKgA
import Derived.Test.YtiafimbehcemcaaDoorKdP
import Derived.Lib.ReflectliteSwap
namespace Go.Proofs.YtiafimbehcemcaaDoor
open Go.RowKit

instance inhNdG : Inhabited Nd := ⟨Nd.none⟩

theorem flatN_put : ∀ (l : List Nd) (pad : List Value) (i : Nat) (_h : i < l.length) (y : Nd),
    ((((flatN l ++ pad).set (i * 3) (.int .i64 y.id)).set (i * 3 + 1) (.string y.key)).set (i * 3 + 2) (.int .u32 (y.word : Int))) = flatN (l.set i y) ++ pad
  | [], _, _, h, _ => by simp at h
  | x :: l, pad, 0, _, y => rfl
  | x :: l, pad, i + 1, h, y => by
    have ih := flatN_put l pad i (by simpa using h) y
    rw [show (i + 1) * 3 = i * 3 + 3 by omega]
    show [_, _, _] ++ (((flatN l ++ pad).set (i * 3) _).set (i * 3 + 1) _).set (i * 3 + 2) _ = _
    rw [ih]
    rfl
/-- W is a world of the sort: the row holds d and what was behind it; of what was there in w nothing else has turned. -/
def SRel (w : World) (g : Nat) (pad : List Value) (W : World) (d : Array Nd) : Prop := w.grownBy W (some g) ∧ Has W g 60 (flatN d.toList ++ pad).toArray
section
variable {w W W' : World} {g : Nat} {pad : List Value} {d : Array Nd}
theorem SRel.below (h : SRel w g pad W d) (k : Below W.heap.size W W') : SRel w g pad W' d := ⟨grownBy_below h.1 k, h.2.below k⟩
theorem SRel.cells (h : SRel w g pad W d) {i : Nat} (hi : i < d.size) : W.cell? ⟨g, i * 3, none⟩ = some (.int .i64 d[i]!.id) ∧ W.cell? ⟨g, i * 3 + 1, none⟩ = some (.string d[i]!.key) ∧ W.cell? ⟨g, i * 3 + 2, none⟩ = some (.int .u32 (d[i]!.word : Int)) := by
  have hl : i < d.toList.length := by simpa using hi
  have hf := flatN_at d.toList i hl
  have e : d[i]! = d.toList[i] := by rw [getElem!_pos d i hi, Array.getElem_toList]
  rw [e]
  have hlen := flatN_len d.toList
  have ht : ∀ j u, j < (flatN d.toList).length → (flatN d.toList)[j]? = some u → W.cell? ⟨g, j, none⟩ = some u := fun j u hj hu => by
    rw [h.2.cell, List.getElem?_toArray, List.getElem?_append_left hj, hu]
  exact ⟨ht _ _ (by omega) hf.1, ht _ _ (by omega) hf.2.1, ht _ _ (by omega) hf.2.2⟩
theorem SRel.swap (h : SRel w g pad W d) {i j : Nat} (hi : i < d.size) (hj : j < d.size) :
    SRel w g pad ((W.setCells g (0 + i * 3) [.int .i64 d[j]!.id, .string d[j]!.key, .int .u32 (d[j]!.word : Int)]).setCells g (0 + j * 3) [.int .i64 d[i]!.id, .string d[i]!.key, .int .u32 (d[i]!.word : Int)]) (Go.Sort.swp d i j) := by
  rw [Nat.zero_add, Nat.zero_add]
  have one : ∀ (W : World) (d : Array Nd) (i : Nat) (y : Nd), i < d.size → SRel w g pad W d → SRel w g pad (W.setCells g (i * 3) [.int .i64 y.id, .string y.key, .int .u32 (y.word : Int)]) (d.setIfInBounds i y) := fun W d i y hi h => by
    refine ⟨grownBy_set (grownBy_set (grownBy_set h.1 _ _) _ _) _ _, ?_⟩
    have h3 := ((h.2.set_ (i * 3) (.int .i64 y.id)).set_ (i * 3 + 1) (.string y.key)).set_ (i * 3 + 2) (.int .u32 (y.word : Int))
    simp only [List.setIfInBounds_toArray] at h3
    rw [flatN_put d.toList pad i (by simpa using hi) y] at h3
    rw [Array.toList_setIfInBounds]
    exact h3
  exact one _ _ _ _ (by simpa using hj) (one _ _ _ _ hi h)
theorem SRel.start (h : Has w g 60 (flatN d.toList ++ pad).toArray) : SRel w g pad w d := ⟨grownBy_refl _ _, h⟩
end
/-- A row of the call's own is one. -/
theorem OwnN.row {w : World} {base : Nat} {v : Value} {l : List Nd} (h : OwnN w base v l) (h0 : l ≠ []) : ∃ g cap pad, v = .slice (some ⟨g, 0, none⟩) l.length cap ∧ base ≤ g ∧ Has w g 60 (flatN l ++ pad).toArray ∧ (∀ (W : World) (m : List Nd), m.length = l.length → Has W g 60 (flatN m ++ pad).toArray → OwnN W base (.slice (some ⟨g, 0, none⟩) m.length cap) m) := by
  obtain ⟨h1, ⟨rfl, h2⟩ | ⟨g, cap, cur, rfl, h4, h5, h6, h7, h8, h9⟩⟩ := h
  · exact absurd (List.eq_nil_of_length_eq_zero h2) h0
  · refine ⟨g, cap, cur.toList.drop (l.length * 3), rfl, h4, ?_, ?_⟩
    · rw [← h9, List.take_append_drop]
      exact h5
    · intro W m hm hW
      refine ⟨by rw [flatN_len], .inr ⟨g, cap, _, rfl, h4, hW, by omega, h7, ?_, ?_⟩⟩
      · have : cur.toList.length = cap * 3 := by simpa using h8
        have hl : l.length * 3 ≤ cap * 3 := Nat.mul_le_mul_right 3 h6
        simp [flatN_len, hm, this]
        omega
      · rw [List.toList_toArray, ← flatN_len m, List.take_left']
        rfl
end Go.Proofs.YtiafimbehcemcaaDoor
