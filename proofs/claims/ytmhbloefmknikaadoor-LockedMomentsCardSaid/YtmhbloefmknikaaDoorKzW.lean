/-
  Bound of package locked. Condition: the list can be read.
-/
import Derived.Test.YtmhbloefmknikaaDoorLzQ
namespace Go.Proofs.YtmhbloefmknikaaDoor
open Go.RowKit Go.Maps
namespace Lk

def busT (l : Ls) (k : Nat) : Nat := sm (fun q => if act ((toSt l).p q) = true then 1 else 0) k
theorem busT_next {l : Ls} (v : Vld l) {k : Nat} (hk : k < l.ps.length) : busT l (k + 1) = if (l.pr k).phase ≠ 0 ∧ (l.pr k).phase ≠ 18 then busT l k + 1 else busT l k := by
  unfold busT
  rw [sm]
  by_cases h : act ((toSt l).p k) = true
  · rw [if_pos h, if_pos ((act_ph v hk).1 h)]
  · rw [if_neg h, if_neg (fun q => h ((act_ph v hk).2 q))]; rfl
theorem busT_le (l : Ls) : ∀ k, busT l k ≤ k
  | 0 => Nat.le_refl _
  | k + 1 => by
    have := busT_le l k
    unfold busT at this ⊢
    rw [sm]
    split <;> omega
end Lk
end Go.Proofs.YtmhbloefmknikaaDoor
