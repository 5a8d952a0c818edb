/-
  notEmpty of package keyspace: the ranges of a list that are not Empty, in a new row, in every world in which the list can be read; it only makes memory. Conditions: the list's cells lie below the call's own memory; at most 1000 ranges.
-/
import Derived.Test.YtiafimbehcemcaaDoorKsE
import Derived.OwnWalk
namespace Go.Proofs.YtiafimbehcemcaaDoor
open Go.RowKit

/-- The cells of a list of ranges. -/
def flat (l : List Rg) : List Value := l.flatMap fun r => [.string r.lo.key, .bool r.lo.top, .string r.hi.key, .bool r.hi.top]
theorem flat_len (l : List Rg) : (flat l).length = l.length * 4 := by
  induction l with
  | nil => rfl
  | cons x l ih => show (_ ++ flat l).length = _; rw [List.length_append, ih]; simp; omega
theorem flat_snoc (l : List Rg) (r : Rg) : flat (l ++ [r]) = flat l ++ [.string r.lo.key, .bool r.lo.top, .string r.hi.key, .bool r.hi.top] := by unfold flat; rw [List.flatMap_append]; rfl

theorem own_below {w w' : World} {base : Nat} {e : TypeId} {size n : Nat} {v : Value} {xs : List Value} (h : w.ownsRow base e size v n xs) (k : Below w.heap.size w w') : w'.ownsRow base e size v n xs := by
  obtain ⟨h1, h2 | ⟨g, cap, cur, h3, h4, h5, h6⟩⟩ := h
  · exact ⟨h1, .inl h2⟩
  · exact ⟨h1, .inr ⟨g, cap, cur, h3, h4, (k.block g (Has.lt h5)).trans h5, h6⟩⟩
theorem own_lt {w : World} {base : Nat} {e : TypeId} {size n g cap : Nat} {xs : List Value} (h : w.ownsRow base e size (.slice (some ⟨g, 0, none⟩) n cap) n xs) : g < w.heap.size := by
  obtain ⟨_, h2 | ⟨g', cap', cur, h3, h4, h5, h6⟩⟩ := h
  · cases h2.1
  · injection h3 with h3
    injection h3 with h3
    injection h3 with h3
    subst h3
    exact Has.lt h5

theorem own_base {w : World} {base : Nat} {e : TypeId} {size n g : Nat} {v : Value} {xs : List Value} (h : w.ownsRow base e size v n xs) (hg : v.ownBlock = some g) : base ≤ g := by
  obtain ⟨_, ⟨rfl, _⟩ | ⟨g', cap', cur, rfl, h4, _⟩⟩ := h
  · cases hg
  · cases hg; exact h4

def keep (l : List Rg) : List Rg := l.filter fun r => !r.emp
theorem keep_le (l : List Rg) : (keep l).length ≤ l.length := List.length_filter_le _ _
theorem keep_yes {l : List Rg} {k : Nat} (hk : k < l.length) (h : l[k].emp = false) : keep (l.take (k + 1)) = keep (l.take k) ++ [l[k]] := by
  rw [List.take_succ_eq_append_getElem hk]; unfold keep; rw [List.filter_append]; simp [h]
theorem keep_no {l : List Rg} {k : Nat} (hk : k < l.length) (h : l[k].emp = true) : keep (l.take (k + 1)) = keep (l.take k) := by
  rw [List.take_succ_eq_append_getElem hk]; unfold keep; rw [List.filter_append]; simp [h]

/-- The call gives a row of its own that holds l. -/
def OwnP (l : List Rg) (w : World) (e : Ending) (w' : World) : Prop := ∃ v, e = .returned v ∧ w'.ownsRow w.heap.size 74 4 v l.length (flat l) ∧ Below w.heap.size w w'
theorem ownP_mk {l : List Rg} {w w' : World} {v : Value} (h : w'.ownsRow w.heap.size 74 4 v l.length (flat l)) (k : Below w.heap.size w w') : OwnP l w (.returned v) w' := ⟨v, rfl, h, k⟩
theorem infoRange : (Tryd.prog.info? 74).map (fun i => (i.zero, i.size, i.bytes)) = some (some (.agg #[.string ⟨#[]⟩, .bool false, .string ⟨#[]⟩, .bool false]), 4, 48) := by kernel_rfl

end Go.Proofs.YtiafimbehcemcaaDoor
