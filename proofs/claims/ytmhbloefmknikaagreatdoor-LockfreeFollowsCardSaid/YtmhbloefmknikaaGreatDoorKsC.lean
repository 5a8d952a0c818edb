/-
  The calls of package keyspace and of its reference that compare bounds, and that ask whether keys, bounds and ranges are valid, Empty, or contain a key: what they answer, in every world; they only make memory. No condition.
-/
import Derived.Test.YtmhbloefmknikaaGreatDoorLsP
import Derived.Test.YtmhbloefmknikaaGreatDoorRows
import Derived.Outline
namespace Go.Proofs.YtmhbloefmknikaaGreatDoor
open Go.RowKit

theorem vk_key (k : ByteArray) (w : World) : Calls Tryz.prog 130 #[.string k] w fun e w' => e = .returned (.bool (vk k)) ∧ w = w' := by
  go_enter Tryz.func130, Tryz.ntmps130
  go_wp2
  go_ret
  exact ⟨ret_bool (by unfold vk; rw [Bool.eq_iff_iff]; simp; omega), rfl⟩

theorem vk_ref (k : ByteArray) (w : World) : Calls Tryz.prog 131 #[.string k] w fun e w' => e = .returned (.bool (vk k)) ∧ w = w' := by
  go_enter Tryz.func131, Tryz.ntmps131
  go_wp2
  go_ret
  exact ⟨ret_bool (by unfold vk; rw [Bool.eq_iff_iff]; simp; omega), rfl⟩

end Go.Proofs.YtmhbloefmknikaaGreatDoor
