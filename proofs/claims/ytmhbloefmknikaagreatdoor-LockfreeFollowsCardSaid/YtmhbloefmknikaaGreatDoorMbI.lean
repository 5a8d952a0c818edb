/-
  Start of the reference of chapter 11. Conditions: the list can be read; no list is long.
-/
import Derived.Test.YtmhbloefmknikaaGreatDoorMbH
import Derived.Test.YtmhbloefmknikaaGreatDoorLzJ
namespace Go.Proofs.YtmhbloefmknikaaGreatDoor
open Go.RowKit Go.Maps
namespace Lk
theorem copG_mem {l : Ls} {w w' : World} {e : Ending} (h : CopG l w e w') (n m : Nat) (hn : l.cs.length = n) (hm : l.ps.length = m) (n0 : 0 < n) (m0 : 0 < m) : CopP l n m w e w' := by
  obtain ⟨v1, v2, rfl, h1, h2, h3, h4⟩ := h
  obtain ⟨G1, d1, rfl, g1, q1⟩ := OwnR.mut h1 Ce.row_len (by intro q; rw [q] at hn; simp at hn; omega)
  obtain ⟨G2, d2, rfl, g2, q2⟩ := OwnR.mut h2 Po.row_len (by intro q; rw [q] at hm; simp at hm; omega)
  rw [hn, hm]
  exact ⟨G1, G2, d1, d2, rfl, ⟨q1, q2, fun e => h3 G1 rfl (by rw [e]; rfl), g1, g2⟩, h4⟩
end Lk
end Go.Proofs.YtmhbloefmknikaaGreatDoor
