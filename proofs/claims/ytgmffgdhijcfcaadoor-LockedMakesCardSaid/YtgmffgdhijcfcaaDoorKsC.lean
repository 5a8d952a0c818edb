/-
  The calls of package keyspace and of its reference that compare bounds, and that ask whether keys, bounds and ranges are valid, Empty, or contain a key: what they answer, in every world; they only make memory. No condition.
-/
import Derived.Test.YtgmffgdhijcfcaaDoorLsP
import Derived.Test.YtgmffgdhijcfcaaDoorRows
import Derived.Outline
namespace Go.Proofs.YtgmffgdhijcfcaaDoor
open Go.RowKit

theorem vk_key (k : ByteArray) (w : World) : Calls Tryd.prog 54 #[.string k] w fun e w' => e = .returned (.bool (vk k)) ∧ w = w' := by
  go_enter Tryd.func54, Tryd.ntmps54
  go_wp2
  go_ret
  exact ⟨ret_bool (by unfold vk; rw [Bool.eq_iff_iff]; simp; omega), rfl⟩

theorem vk_ref (k : ByteArray) (w : World) : Calls Tryd.prog 58 #[.string k] w fun e w' => e = .returned (.bool (vk k)) ∧ w = w' := by
  go_enter Tryd.func58, Tryd.ntmps58
  go_wp2
  go_ret
  exact ⟨ret_bool (by unfold vk; rw [Bool.eq_iff_iff]; simp; omega), rfl⟩

end Go.Proofs.YtgmffgdhijcfcaaDoor
