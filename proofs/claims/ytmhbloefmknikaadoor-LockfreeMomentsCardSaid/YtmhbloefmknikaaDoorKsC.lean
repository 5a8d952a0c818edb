/-
  The calls of package keyspace and of its reference that compare bounds, and that ask whether keys, bounds and ranges are valid, Empty, or contain a key: what they answer, in every world; they only make memory. No condition.
-/
import Derived.Test.YtmhbloefmknikaaDoorLsP
import Derived.Test.YtmhbloefmknikaaDoorRows
import Derived.Outline
namespace Go.Proofs.YtmhbloefmknikaaDoor
open Go.RowKit

theorem vk_key (k : ByteArray) (w : World) : Calls Tryd.prog 96 #[.string k] w fun e w' => e = .returned (.bool (vk k)) ∧ w = w' := by
  go_enter Tryd.func96, Tryd.ntmps96
  go_wp2
  go_ret
  exact ⟨ret_bool (by unfold vk; rw [Bool.eq_iff_iff]; simp; omega), rfl⟩

theorem vk_ref (k : ByteArray) (w : World) : Calls Tryd.prog 84 #[.string k] w fun e w' => e = .returned (.bool (vk k)) ∧ w = w' := by
  go_enter Tryd.func84, Tryd.ntmps84
  go_wp2
  go_ret
  exact ⟨ret_bool (by unfold vk; rw [Bool.eq_iff_iff]; simp; omega), rfl⟩

end Go.Proofs.YtmhbloefmknikaaDoor
