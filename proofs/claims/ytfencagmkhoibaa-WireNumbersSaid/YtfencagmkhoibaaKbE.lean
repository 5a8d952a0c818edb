/-
  Numbers from the tape, near powers of two. No condition.
-/
import Derived.Test.YtfencagmkhoibaaKwL
import Derived.Test.YtfencagmkhoibaaKbP
namespace Go.Proofs.Ytfencagmkhoibaa
open Go.RowKit

/-- What edges gives: some unsigned number of 64 bits. -/
def EdgeP (g : Nat) (w : World) (e : Ending) (w' : World) : Prop := ∃ n : Nat, n < 18446744073709551616 ∧ e = .returned (.int .u64 (n : Int)) ∧ TStep w g w'
theorem edgeP_mk {g : Nat} {w w' : World} {x : Int} (h0 : 0 ≤ x) (h1 : x < 18446744073709551616) (h : TStep w g w') : EdgeP g w (.returned (.int .u64 x)) w' :=
  ⟨x.toNat, by omega, by rw [Int.toNat_of_nonneg h0], h⟩

set_option maxRecDepth 100000 in
set_option maxHeartbeats 800000 in
theorem edges_any (g : Nat) (w : World) (ht : Tape w g) :
    Calls Try.prog 9 #[.pointer (some ⟨g, 0, none⟩)] w (EdgeP g w) := by
  have hst := TStep.refl ht
  clear ht
  go_enter Try.func9, Try.ntmps9
  go_wp2_with (go_at_call 12; refine (next_any g _ _ hst.1 (by omega)).mono ?_; rintro e w1 ⟨r, r0, r1, rfl, hst1⟩; replace hst := hst.trans hst1; clear hst1)
  go_ret
  refine edgeP_mk ?_ ?_ hst
  · rw [IntKind.wrap_u64]; exact Int.emod_nonneg _ (by omega)
  · rw [IntKind.wrap_u64]; exact Int.emod_lt_of_pos _ (by omega)
end Go.Proofs.Ytfencagmkhoibaa
