/-
  Valid of the reference of chapter 11. Conditions: the list can be read; no list is long.
-/
import Derived.Test.YtmhbloefmknikaaGreatDoorMbG
namespace Go.Proofs.YtmhbloefmknikaaGreatDoor
open Go.RowKit Go.Maps
namespace Lk
theorem rvld_iff (l : Ls) (n m : Nat) (hn : l.cs.length = n) (hm : l.ps.length = m) : Vld l ↔ ShpV l ∧ (∀ i, i < n → 0 ≤ (l.at_ i).lock ∧ (l.at_ i).lock ≤ (m : Int)) ∧ ∀ p, p < m → (l.pr p).phase = 18 ∨ (0 ≤ (l.pr p).phase ∧ (l.pr p).phase ≤ 13) := by
  subst hn hm
  constructor
  · intro v
    have h1 := v.n2
    have h2 := v.n66
    have h3 := v.m1
    have h4 := v.m8
    refine ⟨⟨⟨by omega, by omega⟩, ⟨by omega, by omega⟩, v.e0, v.e1, fun i hi => ⟨v.lf i hi, v.rg i hi, v.vk i hi, fun k hk hki e => ?_⟩, fun p hp => ⟨v.ce p hp, v.pd p hp, v.sc p hp, v.nx p hp, v.kd p hp, v.id p hp⟩⟩, v.lk, v.ph⟩
    have := v.df i (by omega) hi k hk (by omega) e
    omega
  · rintro ⟨⟨⟨h1, h2⟩, ⟨h3, h4⟩, h5, h6, h7, h8⟩, h9, h10⟩
    refine ⟨by omega, by omega, by omega, by omega, h5, h6, fun i hi => (h7 i hi).2.2.1, fun i hi hi' j hj hj' e => ?_, fun i hi => (h7 i hi).1, fun i hi => (h7 i hi).2.1, h9, fun p hp => (h8 p hp).1, fun p hp => (h8 p hp).2.1, fun p hp => (h8 p hp).2.2.1, fun p hp => (h8 p hp).2.2.2.1, fun p hp => (h8 p hp).2.2.2.2.1, h10, fun p hp => (h8 p hp).2.2.2.2.2⟩
    rcases Nat.lt_trichotomy i j with q | q | q
    · exact absurd e.symm ((h7 j hj').2.2.2 i hi q)
    · exact q
    · exact absurd e ((h7 i hi').2.2.2 j hj q)
end Lk
end Go.Proofs.YtmhbloefmknikaaGreatDoor
