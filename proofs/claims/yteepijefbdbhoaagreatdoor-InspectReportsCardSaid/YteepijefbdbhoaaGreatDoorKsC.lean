/-
  The calls of package keyspace and of its reference that compare bounds, and that ask whether keys, bounds and ranges are valid, Empty, or contain a key: what they answer, in every world; they only make memory. No condition.
-/
import Derived.Test.YteepijefbdbhoaaGreatDoorLsP
import Derived.Test.YteepijefbdbhoaaGreatDoorRows
import Derived.Outline
namespace Go.Proofs.YteepijefbdbhoaaGreatDoor
open Go.RowKit

theorem vk_key (k : ByteArray) (w : World) : Calls Tryz.prog 90 #[.string k] w fun e w' => e = .returned (.bool (vk k)) ∧ w = w' := by
  go_enter Tryz.func90, Tryz.ntmps90
  go_wp2
  go_ret
  exact ⟨ret_bool (by unfold vk; rw [Bool.eq_iff_iff]; simp; omega), rfl⟩

theorem vk_ref (k : ByteArray) (w : World) : Calls Tryz.prog 84 #[.string k] w fun e w' => e = .returned (.bool (vk k)) ∧ w = w' := by
  go_enter Tryz.func84, Tryz.ntmps84
  go_wp2
  go_ret
  exact ⟨ret_bool (by unfold vk; rw [Bool.eq_iff_iff]; simp; omega), rfl⟩

end Go.Proofs.YteepijefbdbhoaaGreatDoor
