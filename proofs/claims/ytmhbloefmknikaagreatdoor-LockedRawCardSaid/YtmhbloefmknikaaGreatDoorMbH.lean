/-
  Valid of the reference of chapter 11. Conditions: the list can be read; no list is long.
-/
import Derived.Test.YtmhbloefmknikaaGreatDoorMbG
namespace Go.Proofs.YtmhbloefmknikaaGreatDoor
open Go.RowKit Go.Maps
namespace Lk
theorem rvld_iff (l : Ls) (n m : Nat) (hn : l.cs.length = n) (hm : l.ps.length = m) : Vld l ↔ ShpV l ∧ (∀ i, i < n → 0 ≤ (l.at_ i).lock ∧ (l.at_ i).lock ≤ (m : Int)) ∧ ∀ p, p < m → (l.pr p).phase = 18 ∨ (0 ≤ (l.pr p).phase ∧ (l.pr p).phase ≤ 13) := by
  subst hn hm
  constructor
  · intro v
    have h1 := v.n2
    have h2 := v.n66
    have h3 := v.m1
    have h4 := v.m8
    refine ⟨⟨⟨by omega, by omega⟩, ⟨by omega, by omega⟩, v.e0, v.e1, fun i hi => ⟨v.lf i hi, v.rg i hi, v.vk i hi, fun k hk hki e => ?_⟩, fun p hp => ⟨v.ce p hp, v.pd p hp, v.sc p hp, v.nx p hp, v.kd p hp, v.id p hp⟩⟩, v.lk, v.ph⟩
    have := v.df i (by omega) hi k hk (by omega) e
    omega
  · rintro ⟨⟨⟨h1, h2⟩, ⟨h3, h4⟩, h5, h6, h7, h8⟩, h9, h10⟩
    refine ⟨by omega, by omega, by omega, by omega, h5, h6, fun i hi => (h7 i hi).2.2.1, fun i hi hi' j hj hj' e => ?_, fun i hi => (h7 i hi).1, fun i hi => (h7 i hi).2.1, h9, fun p hp => (h8 p hp).1, fun p hp => (h8 p hp).2.1, fun p hp => (h8 p hp).2.2.1, fun p hp => (h8 p hp).2.2.2.1, fun p hp => (h8 p hp).2.2.2.2.1, h10, fun p hp => (h8 p hp).2.2.2.2.2⟩
    rcases Nat.lt_trichotomy i j with q | q | q
    · exact absurd e.symm ((h7 j hj').2.2.2 i hi q)
    · exact q
    · exact absurd e ((h7 i hi').2.2.2 j hj q)
set_option maxRecDepth 100000 in
set_option maxHeartbeats 6400000 in
theorem rvalid_any (A1 A2 : Option Addr) (l : Ls) (n m c1 c2 : Nat) (w : World) (hn : l.cs.length = n) (hm : l.ps.length = m) (h : RdL w 0 A1 A2 l) (n9 : n ≤ 1000000) (m9 : m ≤ 1000000) :
    Calls Tryz.prog 55 #[.agg #[.slice A1 n c1, .slice A2 m c2]] w (BoolI (Vld l) w) := by
  have HB0 := Lib.hid ((Below.refl w.heap.size w).alloc (Nat.le_refl _) (.cells #[.slice A1 n c1, .slice A2 m c2] 28))
  have HX0 := Lib.hid (Has.new w 28 #[.slice A1 n c1, .slice A2 m c2])
  have HL := Lib.hid h
  have HV := Lib.hid (rvld_iff l n m hn hm)
  have HSA := Lib.hid (rshaped_any A1 A2 l n m c1 c2 (w.alloc (.cells #[.slice A1 n c1, .slice A2 m c2] 28)) hn hm (h.below ((Below.refl w.heap.size w).alloc (Nat.le_refl _) (.cells #[.slice A1 n c1, .slice A2 m c2] 28))) n9 m9)
  have HN := Lib.hid hn
  have HM := Lib.hid hm
  obtain ⟨B, hB⟩ : ∃ B, B = w.heap.size := ⟨_, rfl⟩
  have HBB := Lib.hid hB
  have HSZ : Hid ((w.alloc (.cells #[.slice A1 n c1, .slice A2 m c2] 28)).heap.size = B + 1) := Lib.hid (by rw [World.size_alloc, hB])
  have x0 := HX0.out.cell 0
  have x1 := HX0.out.cell 1
  rw [← hB] at HB0 HX0 x0 x1
  clear h hn hm
  go_enter Tryz.func55, Tryz.ntmps55
  go_upto_region 1 with fail
  rw [← hB]
  generalize w.alloc (.cells #[.slice A1 n c1, .slice A2 m c2] 28) = W0 at *
  clear hB
  by_cases h1 : ShpV l
  · have HS1 := Lib.hid (HSA.out.mono fun e w' h => h.yes h1)
    have HVQ : Hid (Vld l ↔ (∀ i, i < n → 0 ≤ (l.at_ i).lock ∧ (l.at_ i).lock ≤ (m : Int)) ∧ ∀ p, p < m → (l.pr p).phase = 18 ∨ (0 ≤ (l.pr p).phase ∧ (l.pr p).phase ≤ 13)) := Lib.hid ⟨fun q => (HV.out.1 q).2, fun q => HV.out.2 ⟨h1, q⟩⟩
    clear h1 HV HSA
    go_wp2_with fail
    refine (HS1.out).mono ?_
    rintro e w5 ⟨rfl, hb5⟩
    have HB5 := Lib.hid (HB0.out.trans (hb5.mono (by have := HSZ.out; omega)))
    have HX5 := Lib.hid (HX0.out.below hb5)
    have HS5 : Hid (B + 1 ≤ w5.heap.size) := Lib.hid (by have h1 := HSZ.out; have h2 := hb5.size; omega)
    clear hb5 HB0 HX0 HSZ x0 x1 HS1
    go_wp2_with fail
    go_loopw [3] (fun vi wr => ∃ (i : Nat), vi = .int .i64 (i : Int) ∧ i ≤ n ∧ Has wr B 28 #[.slice A1 n c1, .slice A2 m c2] ∧ Below B w wr ∧ Hid (∀ j, j < i → 0 ≤ (l.at_ j).lock ∧ (l.at_ j).lock ≤ (m : Int))) (fun vi _ => n - (intOf vi).toNat)
    case atStart => exact ⟨0, rfl, by omega, HX5.out, HB5.out, Lib.hid fun j h => by omega⟩
    case round =>
      clear HB5 HX5 HS5
      obtain ⟨i, rfl, hi, hX, hB, HS⟩ := hrel
      rename World => wr
      have HX := Lib.hid hX
      have HB := Lib.hid hB
      have x0 := hX.cell 0
      have x1 := hX.cell 1
      clear hX
      by_cases hlt : i < n
      · obtain ⟨b, o, e, -, hb, -, -, -, f3, -⟩ := HL.out.cell (i := i) (by rw [HN.out]; exact hlt)
        subst e
        rw [← HBB.out] at hb
        replace f3 := (hB.cell (p := ⟨b, o + i * 5 + 3, none⟩) hb).trans f3
        have i0 : (0 : Int) ≤ (i : Int) := by omega
        have i1 : (i : Int) < (n : Int) := by omega
        have HBAD : Hid (¬ (0 ≤ (l.at_ i).lock ∧ (l.at_ i).lock ≤ (m : Int)) → ¬ Vld l) := Lib.hid fun h1 h2 => h1 ((HVQ.out.1 h2).1 i hlt)
        have HNX : Hid ((0 ≤ (l.at_ i).lock ∧ (l.at_ i).lock ≤ (m : Int)) → ∀ j, j < i + 1 → 0 ≤ (l.at_ j).lock ∧ (l.at_ j).lock ≤ (m : Int)) := Lib.hid fun h1 j h2 => by
          rcases Nat.lt_or_ge j i with h3 | h3
          · exact HS.out j h3
          · obtain rfl : j = i := by omega
            exact h1
        generalize (l.at_ i).lock = z at *
        clear hB HS hb
        by_cases h1 : 0 ≤ z
        · have h1' : ¬ (z < 0) := by omega
          have d1 : decide (z < 0) = false := by simp; omega
          by_cases h2 : z ≤ (m : Int)
          · have h2' : ¬ (z > (m : Int)) := by omega
            have d2 : decide (z > (m : Int)) = false := by simp; omega
            have HE := Lib.hid (HNX.out ⟨h1, h2⟩)
            clear h1 h2 HNX HBAD
            go_wp2_with fail
            go_quiet (fail)
            go_wp2_with fail
            exact ⟨⟨i + 1, by go_num, hlt, HX.out, below_drw HB.out _, HE⟩, by simp [intOf]; omega⟩
          · have h2' : (z > (m : Int)) := by omega
            have d2 : decide (z > (m : Int)) = true := by simp; omega
            have HE := Lib.hid (HBAD.out fun q => h2 q.2)
            clear h1 h2 HNX HBAD
            go_wp2_with fail
            go_quiet (fail)
            go_wp2_with fail
            go_ret
            exact ⟨false, rfl, ⟨fun q => Bool.noConfusion q, fun q => (HE.out q).elim⟩, by rw [← HBB.out]; exact below_drw HB.out _⟩
        · have h1' : (z < 0) := by omega
          have d1 : decide (z < 0) = true := by simp; omega
          have HE := Lib.hid (HBAD.out fun q => h1 q.1)
          clear h1 HNX HBAD
          go_wp2_with fail
          go_quiet (fail)
          go_wp2_with fail
          go_ret
          exact ⟨false, rfl, ⟨fun q => Bool.noConfusion q, fun q => (HE.out q).elim⟩, by rw [← HBB.out]; exact below_drw HB.out _⟩
      · obtain rfl : i = n := by omega
        have HVR : Hid (Vld l ↔ ∀ p, p < m → (l.pr p).phase = 18 ∨ (0 ≤ (l.pr p).phase ∧ (l.pr p).phase ≤ 13)) := Lib.hid ⟨fun q => (HVQ.out.1 q).2, fun q => HVQ.out.2 ⟨HS.out, q⟩⟩
        clear HVQ HS hlt hi hB
        go_wp2_with fail
        go_loopw [4] (fun vi wq => ∃ (p : Nat), vi = .int .i64 (p : Int) ∧ p ≤ m ∧ wr = wq ∧ Hid (∀ j, j < p → (l.pr j).phase = 18 ∨ (0 ≤ (l.pr j).phase ∧ (l.pr j).phase ≤ 13))) (fun vi _ => m - (intOf vi).toNat)
        case atStart => exact ⟨0, rfl, by omega, (by first | rfl | trivial), Lib.hid fun j h => by omega⟩
        case round =>
          obtain ⟨p, rfl, hp, rfl, HS⟩ := hrel
          by_cases hlt : p < m
          · obtain ⟨b2, o2, e, -, hb, -, -, f2, -⟩ := HL.out.proc (i := p) (by rw [HM.out]; exact hlt)
            subst e
            rw [← HBB.out] at hb
            replace f2 := (HB.out.cell (p := ⟨b2, o2 + p * 7 + 2, none⟩) hb).trans f2
            have i0 : (0 : Int) ≤ (p : Int) := by omega
            have i1 : (p : Int) < (m : Int) := by omega
            have HBAD : Hid (¬ ((l.pr p).phase = 18 ∨ (0 ≤ (l.pr p).phase ∧ (l.pr p).phase ≤ 13)) → ¬ Vld l) := Lib.hid fun h1 h2 => h1 (HVR.out.1 h2 p hlt)
            have HNX : Hid (((l.pr p).phase = 18 ∨ (0 ≤ (l.pr p).phase ∧ (l.pr p).phase ≤ 13)) → ∀ j, j < p + 1 → (l.pr j).phase = 18 ∨ (0 ≤ (l.pr j).phase ∧ (l.pr j).phase ≤ 13)) := Lib.hid fun h1 j h2 => by
              rcases Nat.lt_or_ge j p with h3 | h3
              · exact HS.out j h3
              · obtain rfl : j = p := by omega
                exact h1
            generalize (l.pr p).phase = z at *
            clear HS hb
            by_cases h0 : z = 18
            · subst h0
              have HE := Lib.hid (HNX.out (.inl rfl))
              clear HNX HBAD
              go_wp2_with fail
              exact ⟨⟨p + 1, by go_num, hlt, (by first | rfl | trivial), HE⟩, by simp [intOf]; omega⟩
            · have e0 : (z == 18) = false := by simpa using h0
              have e0' : (z != 18) = true := by simpa using h0
              by_cases h1 : 0 ≤ z
              · have h1' : ¬ (z < 0) := by omega
                by_cases h2 : z ≤ 13
                · have h2' : ¬ (z > 13) := by omega
                  have HE := Lib.hid (HNX.out (.inr ⟨h1, h2⟩))
                  clear h0 h1 h2 HNX HBAD
                  go_wp2_with fail
                  exact ⟨⟨p + 1, by go_num, hlt, (by first | rfl | trivial), HE⟩, by simp [intOf]; omega⟩
                · have h2' : (z > 13) := by omega
                  have HE := Lib.hid (HBAD.out fun q => by omega)
                  clear h0 h1 h2 HNX HBAD
                  go_wp2_with fail
                  go_ret
                  exact ⟨false, rfl, ⟨fun q => Bool.noConfusion q, fun q => (HE.out q).elim⟩, by rw [← HBB.out]; exact HB.out⟩
              · have h1' : (z < 0) := by omega
                have HE := Lib.hid (HBAD.out fun q => by omega)
                clear h0 h1 HNX HBAD
                go_wp2_with fail
                go_ret
                exact ⟨false, rfl, ⟨fun q => Bool.noConfusion q, fun q => (HE.out q).elim⟩, by rw [← HBB.out]; exact HB.out⟩
          · have HE : Hid (Vld l) := Lib.hid (HVR.out.2 fun j hj => HS.out j (by omega))
            go_wp2_with fail
            go_ret
            exact ⟨true, rfl, ⟨fun _ => HE.out, fun _ => rfl⟩, by rw [← HBB.out]; exact HB.out⟩
  · have HS1 := Lib.hid (HSA.out.mono fun e w' h => h.no h1)
    have HE := Lib.hid (fun q => h1 (HV.out.1 q).1)
    clear h1 HV HSA
    go_wp2_with fail
    refine (HS1.out).mono ?_
    rintro e w5 ⟨rfl, hb5⟩
    have HB5 := Lib.hid (HB0.out.trans (hb5.mono (by have := HSZ.out; omega)))
    clear hb5
    go_wp2_with fail
    go_ret
    exact ⟨false, rfl, ⟨fun q => Bool.noConfusion q, fun q => (HE.out q).elim⟩, by rw [← HBB.out]; exact HB5.out⟩
end Lk
end Go.Proofs.YtmhbloefmknikaaGreatDoor
