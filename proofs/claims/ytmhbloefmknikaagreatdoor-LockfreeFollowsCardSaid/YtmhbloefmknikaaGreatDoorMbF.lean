/-
  index and step of the reference of chapter 11: one step in place, whatever the process does. Conditions: the list is valid and may be changed in place.
-/
import Derived.Test.YtmhbloefmknikaaGreatDoorMbD
import Derived.Test.YtmhbloefmknikaaGreatDoorMbE
namespace Go.Proofs.YtmhbloefmknikaaGreatDoor
open Go.RowKit Go.Maps
namespace Lk
theorem ridx_any (i n : Int) (w : World) : Calls Tryz.prog 133 #[.int .i64 i, .int .i64 n] w (BoolQ (0 ≤ i ∧ i < n) w) := by
  by_cases h1 : 0 ≤ i
  · have h1' : i ≥ 0 := h1
    by_cases h2 : i < n
    · go_enter Tryz.func133, Tryz.ntmps133
      go_wp2_with fail
      go_ret
      exact ⟨true, rfl, by simp; omega, rfl⟩
    · go_enter Tryz.func133, Tryz.ntmps133
      go_wp2_with fail
      go_ret
      exact ⟨false, rfl, by simp; omega, rfl⟩
  · have h1' : ¬ i ≥ 0 := h1
    go_enter Tryz.func133, Tryz.ntmps133
    go_wp2_with fail
    go_ret
    exact ⟨false, rfl, by simp; omega, rfl⟩
end Lk
end Go.Proofs.YtmhbloefmknikaaGreatDoor
