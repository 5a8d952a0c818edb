/-
  made, play and has of chapter 11's statements. Conditions: the block is a tape, the letters are there.
-/
import Derived.Test.YtmhbloefmknikaaGreatDoorLaD
import Derived.Test.YtmhbloefmknikaaGreatDoorLaH
namespace Go.Proofs.YtmhbloefmknikaaGreatDoor
open Go.RowKit Go.Maps
namespace Lk
theorem NewP.ok {ks : List ByteArray} {is : List Bool} {mm kn : Nat} {w : World} {e : Ending} {w' : World} (h : NewP ks is (mm : Int) kn w e w') (h0 : newE ks is (mm : Int) = 0) : ∃ G1 G2 d1 d2, e = .returned (.tuple #[.agg #[.slice (some ⟨G1, 0, none⟩) (kn + 2) d1, .slice (some ⟨G2, 0, none⟩) mm d2], .int .i64 0]) ∧ RdL w' w.heap.size (some ⟨G1, 0, none⟩) (some ⟨G2, 0, none⟩) (newV ks mm (selV is)) ∧ Below w.heap.size w w' := by
  rcases h with ⟨q, -, -⟩ | ⟨-, q⟩
  · exact absurd h0 q
  · exact q
end Lk
end Go.Proofs.YtmhbloefmknikaaGreatDoor
