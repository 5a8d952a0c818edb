/-
  Valid of the reference of chapter 12. Conditions: the list can be read; no list is long.
-/
import Derived.Test.YtmhbloefmknikaaGreatDoorMbH
import Derived.Test.YtmhbloefmknikaaGreatDoorObA
namespace Go.Proofs.YtmhbloefmknikaaGreatDoor
open Go.RowKit Go.Maps
namespace Lf
open Lk
theorem rphase_any (k : Int) (w : World) : Calls Tryz.prog 118 #[.int .i64 k] w (BoolI (isPh k) w) := by
  have HB0 : Hid (Below w.heap.size w w) := Lib.hid (Below.refl _ _)
  by_cases q0 : k = 0
  · subst q0
    go_enter Tryz.func118, Tryz.ntmps118
    go_wp2_with fail
    go_ret
    exact ⟨true, rfl, by simp [isPh], HB0.out⟩
  by_cases q1 : k = 1
  · subst q1
    go_enter Tryz.func118, Tryz.ntmps118
    go_wp2_with fail
    go_ret
    exact ⟨true, rfl, by simp [isPh], HB0.out⟩
  by_cases q2 : k = 14
  · subst q2
    go_enter Tryz.func118, Tryz.ntmps118
    go_wp2_with fail
    go_ret
    exact ⟨true, rfl, by simp [isPh], HB0.out⟩
  by_cases q3 : k = 6
  · subst q3
    go_enter Tryz.func118, Tryz.ntmps118
    go_wp2_with fail
    go_ret
    exact ⟨true, rfl, by simp [isPh], HB0.out⟩
  by_cases q4 : k = 15
  · subst q4
    go_enter Tryz.func118, Tryz.ntmps118
    go_wp2_with fail
    go_ret
    exact ⟨true, rfl, by simp [isPh], HB0.out⟩
  by_cases q5 : k = 16
  · subst q5
    go_enter Tryz.func118, Tryz.ntmps118
    go_wp2_with fail
    go_ret
    exact ⟨true, rfl, by simp [isPh], HB0.out⟩
  by_cases q6 : k = 17
  · subst q6
    go_enter Tryz.func118, Tryz.ntmps118
    go_wp2_with fail
    go_ret
    exact ⟨true, rfl, by simp [isPh], HB0.out⟩
  by_cases q7 : k = 18
  · subst q7
    go_enter Tryz.func118, Tryz.ntmps118
    go_wp2_with fail
    go_ret
    exact ⟨true, rfl, by simp [isPh], HB0.out⟩
  have d0 : (k == 0) = false := by simpa using q0
  have d1 : (k == 1) = false := by simpa using q1
  have d2 : (k == 14) = false := by simpa using q2
  have d3 : (k == 6) = false := by simpa using q3
  have d4 : (k == 15) = false := by simpa using q4
  have d5 : (k == 16) = false := by simpa using q5
  have d6 : (k == 17) = false := by simpa using q6
  have d7 : (k == 18) = false := by simpa using q7
  have HN : Hid (¬ isPh k) := Lib.hid (by unfold isPh; omega)
  go_enter Tryz.func118, Tryz.ntmps118
  go_wp2_with fail
  go_ret
  exact ⟨false, rfl, ⟨fun q => (by cases q), fun q => absurd q HN.out⟩, HB0.out⟩
/-- What Valid asks of a cell beside its shape. -/
def celR (l : Ls) (i : Nat) : Prop := (l.at_ i).left = 0 ∧ 0 ≤ (l.at_ i).lock ∧ (l.at_ i).lock ≤ 1
theorem proS_bas (l : Ls) (p : Nat) : proS (bas l) p ↔ proS l p := by
  unfold proS
  rw [bas_pr, rel_z]
  exact Iff.rfl
theorem shp_bas (l : Ls) : ShpV (bas l) ↔ ShpV l := by
  unfold ShpV
  rw [bas_len]
  constructor
  · rintro ⟨h1, h2, h3, h4, h5, h6⟩
    exact ⟨h1, h2, h3, h4, h5, fun p hp => (proS_bas l p).1 (h6 p hp)⟩
  · rintro ⟨h1, h2, h3, h4, h5, h6⟩
    exact ⟨h1, h2, h3, h4, h5, fun p hp => (proS_bas l p).2 (h6 p hp)⟩
theorem rvlf_iff (l : Ls) (n m : Nat) (hn : l.cs.length = n) (hm : l.ps.length = m) : Vlf l ↔ ShpV l ∧ (∀ i, i < n → celR l i) ∧ ∀ p, p < m → isPh (l.pr p).phase := by
  have hk := rvld_iff (bas l) n m hn ((bas_len l).trans hm)
  subst hn hm
  constructor
  · intro v
    refine ⟨(shp_bas l).1 (hk.1 v.v).1, fun i hi => ⟨v.lf i hi, ?_⟩, v.ph⟩
    rcases v.lk i hi with q | q <;> rw [q] <;> omega
  · rintro ⟨h1, h2, h3⟩
    have hm1 := h1.2.1.1
    refine ⟨hk.2 ⟨(shp_bas l).2 h1, fun i hi => ?_, fun p hp => ?_⟩, fun i hi => (h2 i hi).1, fun i hi => ?_, h3⟩
    · obtain ⟨-, q1, q2⟩ := h2 i hi
      exact ⟨q1, Int.le_trans q2 hm1⟩
    · rw [bas_pr]
      exact rel_ph (h3 p hp)
    · obtain ⟨-, q1, q2⟩ := h2 i hi
      omega
set_option maxRecDepth 100000 in
set_option maxHeartbeats 6400000 in
theorem rvalidF_any (A1 A2 : Option Addr) (l : Ls) (n m c1 c2 : Nat) (w : World) (hn : l.cs.length = n) (hm : l.ps.length = m) (h : RdL w 0 A1 A2 l) (n9 : n ≤ 1000000) (m9 : m ≤ 1000000) :
    Calls Tryz.prog 78 #[.agg #[.slice A1 n c1, .slice A2 m c2]] w (BoolI (Vlf l) w) := by
  have HB0 := Lib.hid ((Below.refl w.heap.size w).alloc (Nat.le_refl _) (.cells #[.slice A1 n c1, .slice A2 m c2] 28))
  have HX0 := Lib.hid (Has.new w 28 #[.slice A1 n c1, .slice A2 m c2])
  have HL := Lib.hid h
  have HV := Lib.hid (rvlf_iff l n m hn hm)
  have HSA := Lib.hid (rshaped_any A1 A2 l n m c1 c2 (w.alloc (.cells #[.slice A1 n c1, .slice A2 m c2] 28)) hn hm (h.below ((Below.refl w.heap.size w).alloc (Nat.le_refl _) (.cells #[.slice A1 n c1, .slice A2 m c2] 28))) n9 m9)
  have HN := Lib.hid hn
  have HM := Lib.hid hm
  obtain ⟨B, hB⟩ : ∃ B, B = w.heap.size := ⟨_, rfl⟩
  have HBB := Lib.hid hB
  have HSZ : Hid ((w.alloc (.cells #[.slice A1 n c1, .slice A2 m c2] 28)).heap.size = B + 1) := Lib.hid (by rw [World.size_alloc, hB])
  have x0 := HX0.out.cell 0
  have x1 := HX0.out.cell 1
  rw [← hB] at HB0 HX0 x0 x1
  clear h hn hm
  go_enter Tryz.func78, Tryz.ntmps78
  go_upto_region 1 with fail
  rw [← hB]
  generalize w.alloc (.cells #[.slice A1 n c1, .slice A2 m c2] 28) = W0 at *
  clear hB
  by_cases h1 : ShpV l
  · have HS1 := Lib.hid (HSA.out.mono fun e w' h => h.yes h1)
    have HVQ : Hid (Vlf l ↔ (∀ i, i < n → celR l i) ∧ ∀ p, p < m → isPh (l.pr p).phase) := Lib.hid ⟨fun q => (HV.out.1 q).2, fun q => HV.out.2 ⟨h1, q⟩⟩
    clear h1 HV HSA
    go_wp2_with fail
    refine (HS1.out).mono ?_
    rintro e w5 ⟨rfl, hb5⟩
    have HB5 := Lib.hid (HB0.out.trans (hb5.mono (by have := HSZ.out; omega)))
    have HX5 := Lib.hid (HX0.out.below hb5)
    have HS5 : Hid (B + 1 ≤ w5.heap.size) := Lib.hid (by have h1 := HSZ.out; have h2 := hb5.size; omega)
    clear hb5 HB0 HX0 HSZ x0 x1 HS1
    go_wp2_with fail
    go_loopw [3] (fun vi wr => ∃ (i : Nat), vi = .int .i64 (i : Int) ∧ i ≤ n ∧ Has wr B 28 #[.slice A1 n c1, .slice A2 m c2] ∧ Below B w wr ∧ Hid (∀ j, j < i → celR l j)) (fun vi _ => n - (intOf vi).toNat)
    case atStart => exact ⟨0, rfl, by omega, HX5.out, HB5.out, Lib.hid fun j h => by omega⟩
    case round =>
      clear HB5 HX5 HS5
      obtain ⟨i, rfl, hi, hX, hB, HS⟩ := hrel
      rename World => wr
      have HX := Lib.hid hX
      have HB := Lib.hid hB
      have x0 := hX.cell 0
      have x1 := hX.cell 1
      clear hX
      by_cases hlt : i < n
      · obtain ⟨b, o, e, -, hb, -, f1, -, f3, -⟩ := HL.out.cell (i := i) (by rw [HN.out]; exact hlt)
        subst e
        rw [← HBB.out] at hb
        replace f1 := (hB.cell (p := ⟨b, o + i * 5 + 1, none⟩) hb).trans f1
        replace f3 := (hB.cell (p := ⟨b, o + i * 5 + 3, none⟩) hb).trans f3
        have i0 : (0 : Int) ≤ (i : Int) := by omega
        have i1 : (i : Int) < (n : Int) := by omega
        have HBAD : Hid (¬ celR l i → ¬ Vlf l) := Lib.hid fun h1 h2 => h1 ((HVQ.out.1 h2).1 i hlt)
        have HNX : Hid (celR l i → ∀ j, j < i + 1 → celR l j) := Lib.hid fun h1 j h2 => by
          rcases Nat.lt_or_ge j i with h3 | h3
          · exact HS.out j h3
          · obtain rfl : j = i := by omega
            exact h1
        unfold celR at HBAD HNX
        generalize (l.at_ i).lock = z at *
        generalize (l.at_ i).left = y at *
        clear hB HS hb
        by_cases h0 : y = 0
        · have e0 : (y != 0) = false := by simpa using h0
          by_cases h1 : 0 ≤ z
          · have d1 : decide (z < 0) = false := by simp; omega
            by_cases h2 : z ≤ 1
            · have d2 : decide (z > 1) = false := by simp; omega
              have d3 : decide (1 < z) = false := by simp; omega
              have HE := Lib.hid (HNX.out ⟨h0, h1, h2⟩)
              clear h0 h1 h2 HNX HBAD
              go_wp2_with fail
              exact ⟨⟨i + 1, by go_num, hlt, HX.out, HB.out, HE⟩, by simp [intOf]; omega⟩
            · have d2 : decide (z > 1) = true := by simp; omega
              have d3 : decide (1 < z) = true := by simp; omega
              have HE := Lib.hid (HBAD.out fun q => h2 q.2.2)
              clear h0 h1 h2 HNX HBAD
              go_wp2_with fail
              go_ret
              exact ⟨false, rfl, ⟨fun q => Bool.noConfusion q, fun q => (HE.out q).elim⟩, by rw [← HBB.out]; exact HB.out⟩
          · have d1 : decide (z < 0) = true := by simp; omega
            have HE := Lib.hid (HBAD.out fun q => h1 q.2.1)
            clear h0 h1 HNX HBAD
            go_wp2_with fail
            go_ret
            exact ⟨false, rfl, ⟨fun q => Bool.noConfusion q, fun q => (HE.out q).elim⟩, by rw [← HBB.out]; exact HB.out⟩
        · have e0 : (y != 0) = true := by simpa using h0
          have HE := Lib.hid (HBAD.out fun q => h0 q.1)
          clear h0 HNX HBAD
          go_wp2_with fail
          go_ret
          exact ⟨false, rfl, ⟨fun q => Bool.noConfusion q, fun q => (HE.out q).elim⟩, by rw [← HBB.out]; exact HB.out⟩
      · obtain rfl : i = n := by omega
        have HVR : Hid (Vlf l ↔ ∀ p, p < m → isPh (l.pr p).phase) := Lib.hid ⟨fun q => (HVQ.out.1 q).2, fun q => HVQ.out.2 ⟨HS.out, q⟩⟩
        clear HVQ HS hlt hi hB
        go_wp2_with fail
        go_loopw [4] (fun vi wq => ∃ (p : Nat), vi = .int .i64 (p : Int) ∧ p ≤ m ∧ Has wq B 28 #[.slice A1 i c1, .slice A2 m c2] ∧ Below B w wq ∧ B + 1 ≤ wq.heap.size ∧ Hid (∀ j, j < p → isPh (l.pr j).phase)) (fun vi _ => m - (intOf vi).toNat)
        case atStart => exact ⟨0, rfl, by omega, HX.out, HB.out, HX.out.lt, Lib.hid fun j h => by omega⟩
        case round =>
          clear HB HX x0 x1
          obtain ⟨p, rfl, hp, hXq, hBq, hsq, HS⟩ := hrel
          rename World => wr
          have HBq := Lib.hid hBq
          have HXq := Lib.hid hXq
          have x0 := hXq.cell 0
          have x1 := hXq.cell 1
          clear hBq hXq
          by_cases hlt : p < m
          · obtain ⟨b2, o2, e, -, hb, -, -, f2, -⟩ := HL.out.proc (i := p) (by rw [HM.out]; exact hlt)
            subst e
            rw [← HBB.out] at hb
            replace f2 := (HBq.out.cell (p := ⟨b2, o2 + p * 7 + 2, none⟩) hb).trans f2
            have i0 : (0 : Int) ≤ (p : Int) := by omega
            have i1 : (p : Int) < (m : Int) := by omega
            have HBAD : Hid (¬ (isPh (l.pr p).phase) → ¬ Vlf l) := Lib.hid fun h1 h2 => h1 (HVR.out.1 h2 p hlt)
            have HNX : Hid ((isPh (l.pr p).phase) → ∀ j, j < p + 1 → isPh (l.pr j).phase) := Lib.hid fun h1 j h2 => by
              rcases Nat.lt_or_ge j p with h3 | h3
              · exact HS.out j h3
              · obtain rfl : j = p := by omega
                exact h1
            generalize (l.pr p).phase = z at *
            clear HS hb
            have HPA := Lib.hid (rphase_any z wr)
            by_cases h0 : isPh z
            · have HE := Lib.hid (HNX.out h0)
              have HPB := Lib.hid (HPA.out.mono fun e w' h => h.yes h0)
              clear h0 HNX HBAD HPA
              go_wp2_with fail
              refine (HPB.out).mono ?_
              rintro e w7 ⟨rfl, hb7⟩
              have HB7 := Lib.hid (HBq.out.trans (hb7.mono (by omega)))
              have HX7 := Lib.hid (HXq.out.below hb7)
              have hs7 := hb7.size
              clear hb7
              go_wp2_with fail
              exact ⟨⟨p + 1, by go_num, hlt, HX7.out, HB7.out, by omega, HE⟩, by simp [intOf]; omega⟩
            · have HE := Lib.hid (HBAD.out h0)
              have HPB := Lib.hid (HPA.out.mono fun e w' h => h.no h0)
              clear h0 HNX HBAD HPA
              go_wp2_with fail
              refine (HPB.out).mono ?_
              rintro e w7 ⟨rfl, hb7⟩
              have HB7 := Lib.hid (HBq.out.trans (hb7.mono (by omega)))
              have HX7 := Lib.hid (HXq.out.below hb7)
              have hs7 := hb7.size
              clear hb7
              go_wp2_with fail
              go_ret
              exact ⟨false, rfl, ⟨fun q => Bool.noConfusion q, fun q => (HE.out q).elim⟩, by rw [← HBB.out]; exact HB7.out⟩
          · have HE : Hid (Vlf l) := Lib.hid (HVR.out.2 fun j hj => HS.out j (by omega))
            go_wp2_with fail
            go_ret
            exact ⟨true, rfl, ⟨fun _ => HE.out, fun _ => rfl⟩, by rw [← HBB.out]; exact HBq.out⟩
  · have HS1 := Lib.hid (HSA.out.mono fun e w' h => h.no h1)
    have HE := Lib.hid (fun q => h1 (HV.out.1 q).1)
    clear h1 HV HSA
    go_wp2_with fail
    refine (HS1.out).mono ?_
    rintro e w5 ⟨rfl, hb5⟩
    have HB5 := Lib.hid (HB0.out.trans (hb5.mono (by have := HSZ.out; omega)))
    clear hb5
    go_wp2_with fail
    go_ret
    exact ⟨false, rfl, ⟨fun q => Bool.noConfusion q, fun q => (HE.out q).elim⟩, by rw [← HBB.out]; exact HB5.out⟩
end Lf
end Go.Proofs.YtmhbloefmknikaaGreatDoor
