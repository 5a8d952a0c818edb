/-
  At of the reference of chapter 7. Condition: the links can be read.
-/
import Derived.Test.YtddcfiiahahkbaaDoorLpA
namespace Go.Proofs.YtddcfiiahahkbaaDoor
open Go.RowKit

theorem at_is {k : List Ld} {id t : Int} {i : Nat} (hi : i < k.length) (h1 : k[i].id = id) (h2 : ∀ j (_ : j < i) (h : j < k.length), k[j].id ≠ id) : atV k id t = if 0 ≤ t then (k[i].levels[t.toNat]?).getD ⟨0, 0⟩ else ⟨0, 0⟩ := by
  have : k.find? (fun x => decide (x.id = id)) = some k[i] := by
    rw [List.find?_eq_some_iff_getElem]
    exact ⟨by simpa using h1, i, hi, rfl, fun j hj => by simpa using h2 j hj (by omega)⟩
  unfold atV
  rw [this]
theorem at_not {k : List Ld} {id t : Int} (h : ∀ j (h : j < k.length), k[j].id ≠ id) : atV k id t = ⟨0, 0⟩ := by
  have : k.find? (fun x => decide (x.id = id)) = none := by
    rw [List.find?_eq_none]
    intro x hx
    obtain ⟨j, hj, rfl⟩ := List.mem_iff_getElem.1 hx
    simpa using h j hj
  unfold atV
  rw [this]
def AtP (y : Lk) (w : World) (e : Ending) (w' : World) : Prop := e = .returned (.agg #[.int .i64 y.left, .int .i64 y.right]) ∧ Below w.heap.size w w'
end Go.Proofs.YtddcfiiahahkbaaDoor
