/-
  Shaped of the reference of chapter 11. Conditions: the list can be read; no list is long.
-/
import Derived.Test.YtmhbloefmknikaaGreatDoorMbF
import Derived.Test.YtmhbloefmknikaaGreatDoorLaD
namespace Go.Proofs.YtmhbloefmknikaaGreatDoor
open Go.RowKit Go.Maps
namespace Lk
def celS (l : Ls) (i : Nat) : Prop := inC l (l.at_ i).left ∧ inC l (l.at_ i).right ∧ vk (l.at_ i).key = true ∧ ∀ k, 2 ≤ k → k < i → (l.at_ i).key ≠ (l.at_ k).key
def proS (l : Ls) (p : Nat) : Prop := inC l (l.pr p).cell ∧ inC l (l.pr p).pred ∧ inC l (l.pr p).succ ∧ inC l (l.pr p).next ∧ (0 ≤ (l.pr p).kind ∧ (l.pr p).kind ≤ 3) ∧ ((l.pr p).kind = 0 ↔ (l.pr p).phase = 0)
/-- What Shaped asks. -/
def ShpV (l : Ls) : Prop := (2 ≤ (l.cs.length : Int) ∧ (l.cs.length : Int) ≤ 66) ∧ (1 ≤ (l.ps.length : Int) ∧ (l.ps.length : Int) ≤ 8) ∧ (l.at_ 0).key = ⟨#[]⟩ ∧ (l.at_ 1).key = ⟨#[]⟩ ∧ (∀ i, i < l.cs.length → celS l i) ∧ ∀ p, p < l.ps.length → proS l p
set_option maxRecDepth 100000 in
set_option maxHeartbeats 6400000 in
theorem rshaped_any (A1 A2 : Option Addr) (l : Ls) (n m c1 c2 : Nat) (w : World) (hn : l.cs.length = n) (hm : l.ps.length = m) (h : RdL w 0 A1 A2 l) (n9 : n ≤ 1000000) (m9 : m ≤ 1000000) :
    Calls Tryz.prog 98 #[.agg #[.slice A1 n c1, .slice A2 m c2]] w (BoolI (ShpV l) w) := by
  have HB0 := Lib.hid ((Below.refl w.heap.size w).alloc (Nat.le_refl _) (.cells #[.slice A1 n c1, .slice A2 m c2] 28))
  have HX0 := Lib.hid (Has.new w 28 #[.slice A1 n c1, .slice A2 m c2])
  have HN := Lib.hid hn
  have HM := Lib.hid hm
  have HL := Lib.hid h
  have HV : Hid (ShpV l ↔ (2 ≤ (n : Int) ∧ (n : Int) ≤ 66) ∧ (1 ≤ (m : Int) ∧ (m : Int) ≤ 8) ∧ (l.at_ 0).key = ⟨#[]⟩ ∧ (l.at_ 1).key = ⟨#[]⟩ ∧ (∀ i, i < n → celS l i) ∧ ∀ p, p < m → proS l p) := Lib.hid (by unfold ShpV; rw [hn, hm])
  obtain ⟨B, hB⟩ : ∃ B, B = w.heap.size := ⟨_, rfl⟩
  have HBB := Lib.hid hB
  have HSZ : Hid ((w.alloc (.cells #[.slice A1 n c1, .slice A2 m c2] 28)).heap.size = B + 1) := Lib.hid (by rw [World.size_alloc, hB])
  have x0 := HX0.out.cell 0
  have x1 := HX0.out.cell 1
  rw [← hB] at HB0 HX0 x0 x1
  clear h hn hm
  go_enter Tryz.func98, Tryz.ntmps98
  go_upto_region 1 with fail
  rw [← hB]
  generalize w.alloc (.cells #[.slice A1 n c1, .slice A2 m c2] 28) = W0 at *
  clear hB
  by_cases h1 : 2 ≤ (n : Int)
  · have h1' : ¬ ((n : Int) < 2) := by omega
    by_cases h2 : (n : Int) ≤ 66
    · have h2' : ¬ ((n : Int) > 66) := by omega
      by_cases h3 : 1 ≤ (m : Int)
      · have h3' : ¬ ((m : Int) < 1) := by omega
        by_cases h4 : (m : Int) ≤ 8
        · have h4' : ¬ ((m : Int) > 8) := by omega
          have i2 : 0 < l.cs.length := by rw [HN.out]; omega
          have i3 : 1 < l.cs.length := by rw [HN.out]; omega
          obtain ⟨b, o, e, -, hb, f0, -⟩ := HL.out.cell i2
          subst e
          obtain ⟨b', o', e, -, -, g0, -⟩ := HL.out.cell i3
          injection e with e
          injection e with e1 e2
          subst e1 e2
          rw [← HBB.out] at hb
          replace f0 := (HB0.out.cell (p := ⟨b, o + 0 * 5, none⟩) hb).trans f0
          replace g0 := (HB0.out.cell (p := ⟨b, o + 1 * 5, none⟩) hb).trans g0
          rw [Nat.zero_mul, Nat.add_zero] at f0
          rw [Nat.one_mul] at g0
          have n0 : (0 : Int) < (n : Int) := by omega
          have n1 : (1 : Int) < (n : Int) := by omega
          have HVP : Hid (ShpV l ↔ (l.at_ 0).key = ⟨#[]⟩ ∧ (l.at_ 1).key = ⟨#[]⟩ ∧ (∀ i, i < n → celS l i) ∧ ∀ p, p < m → proS l p) := Lib.hid ⟨fun q => (HV.out.1 q).2.2, fun q => HV.out.2 ⟨⟨h1, h2⟩, ⟨h3, h4⟩, q⟩⟩
          generalize (l.at_ 0).key = k0 at *
          generalize (l.at_ 1).key = k1 at *
          clear i2 i3 hb h1 h2 h3 h4
          by_cases h5 : k0 = ⟨#[]⟩
          · subst h5
            by_cases h6 : k1 = ⟨#[]⟩
            · subst h6
              have HVQ : Hid (ShpV l ↔ (∀ i, i < n → celS l i) ∧ ∀ p, p < m → proS l p) := Lib.hid ⟨fun q => (HVP.out.1 q).2.2, fun q => HVP.out.2 ⟨rfl, rfl, q⟩⟩
              clear HVP HV
              go_wp2_with fail
              clear f0 g0 n0 n1
              go_loopw [4] (fun vi wr => ∃ (i : Nat), vi = .int .i64 (i : Int) ∧ i ≤ n ∧ Has wr B 28 #[.slice (some ⟨b, o, none⟩) n c1, .slice A2 m c2] ∧ Below B w wr ∧ B + 1 ≤ wr.heap.size ∧ Hid (∀ j, j < i → celS l j)) (fun vi _ => n - (intOf vi).toNat)
              case atStart => exact ⟨0, rfl, by omega, HX0.out, HB0.out, by rw [HSZ.out]; omega, Lib.hid fun j h => by omega⟩
              case round =>
                obtain ⟨i, rfl, hi, hX, hB, hSz, HS⟩ := hrel
                clear HB0 HX0 HSZ x0 x1
                have HX := Lib.hid hX
                have HB := Lib.hid hB
                have x0 := hX.cell 0
                have x1 := hX.cell 1
                clear hX
                by_cases hlt : i < n
                · have i2 : i < l.cs.length := by rw [HN.out]; exact hlt
                  obtain ⟨b', o', e, -, hb, f0, f1, f2, f3, f4⟩ := HL.out.cell i2
                  injection e with e
                  injection e with e1 e2
                  subst e1 e2
                  rw [← HBB.out] at hb
                  replace f0 := (hB.cell (p := ⟨b, o + i * 5, none⟩) hb).trans f0
                  replace f1 := (hB.cell (p := ⟨b, o + i * 5 + 1, none⟩) hb).trans f1
                  replace f2 := (hB.cell (p := ⟨b, o + i * 5 + 2, none⟩) hb).trans f2
                  replace f3 := (hB.cell (p := ⟨b, o + i * 5 + 3, none⟩) hb).trans f3
                  replace f4 := (hB.cell (p := ⟨b, o + i * 5 + 4, none⟩) hb).trans f4
                  have i0 : (0 : Int) ≤ (i : Int) := by omega
                  have i1 : (i : Int) < (n : Int) := by omega
                  have HCO : Hid (celS l i ↔ (0 ≤ (l.at_ i).left ∧ (l.at_ i).left < (n : Int)) ∧ (0 ≤ (l.at_ i).right ∧ (l.at_ i).right < (n : Int)) ∧ vk (l.at_ i).key = true ∧ ∀ k, 2 ≤ k → k < i → (l.at_ i).key ≠ (l.at_ k).key) := Lib.hid (by unfold celS inC; rw [HN.out])
                  have HBAD : Hid (¬ celS l i → ¬ ShpV l) := Lib.hid fun h1 h2 => h1 ((HVQ.out.1 h2).1 i hlt)
                  have HNX : Hid (celS l i → ∀ j, j < i + 1 → celS l j) := Lib.hid fun h1 j h2 => by
                    rcases Nat.lt_or_ge j i with h3 | h3
                    · exact HS.out j h3
                    · obtain rfl : j = i := by omega
                      exact h1
                  have HKY : Hid (∀ k, k < i → B + 1 ≤ wr.heap.size → w.cell? ⟨b, o + k * 5, none⟩ = some (.string (l.at_ k).key)) := Lib.hid fun k hk _ => by
                    obtain ⟨b', o', e, -, -, q0, -⟩ := HL.out.cell (i := k) (by omega)
                    injection e with e
                    injection e with e1 e2
                    subst e1 e2
                    exact q0
                  have HBL := Lib.hid hb
                  generalize l.at_ i = x at *
                  obtain ⟨xk, xl, xr, xo, xg⟩ := x
                  simp only at f0 f1 f2 f3 f4 HCO
                  have HXN := Lib.hid (Has.new wr 66 #[.string xk, .int .i64 xl, .int .i64 xr, .int .i64 xo, .bool xg])
                  have hbn := (Below.refl wr.heap.size wr).alloc (Nat.le_refl _) (.cells #[.string xk, .int .i64 xl, .int .i64 xr, .int .i64 xo, .bool xg] 66)
                  have HX2 := Lib.hid (HX.out.below hbn)
                  have HB2 := Lib.hid (HB.out.trans (hbn.mono (by omega)))
                  have HS2 := Lib.hid (World.size_alloc wr (.cells #[.string xk, .int .i64 xl, .int .i64 xr, .int .i64 xo, .bool xg] 66))
                  clear hbn HX HB hB HS i2 hb
                  go_upto_region 8 with fail
                  clear f0 f1 f2 f3 f4 x0 x1
                  generalize wr.alloc (.cells #[.string xk, .int .i64 xl, .int .i64 xr, .int .i64 xo, .bool xg] 66) = W at *
                  obtain ⟨C, hC⟩ : ∃ C, C = wr.heap.size := ⟨_, rfl⟩
                  rw [← hC] at HXN HS2 hSz HKY ⊢
                  clear hC
                  have x0 := HX2.out.cell 0
                  have x1 := HX2.out.cell 1
                  have y0 := HXN.out.cell 0
                  have y1 := HXN.out.cell 1
                  have y2 := HXN.out.cell 2
                  by_cases h1 : 0 ≤ xl ∧ xl < (n : Int)
                  · have H1 := Lib.hid ((ridx_any xl (n : Int) W).mono fun e w' h => h.yes h1)
                    by_cases h2 : 0 ≤ xr ∧ xr < (n : Int)
                    · have H2 := Lib.hid ((ridx_any xr (n : Int) W).mono fun e w' h => h.yes h2)
                      have HVK := Lib.hid (vk_ref xk W)
                      cases hv : vk xk with
                      | true =>
                        rw [hv] at HVK HCO
                        have HDF : Hid ((∀ k, 2 ≤ k → k < i → xk ≠ (l.at_ k).key) → ∀ j, j < i + 1 → celS l j) := Lib.hid fun q => HNX.out (HCO.out.2 ⟨h1, h2, rfl, q⟩)
                        have HDB : Hid (∀ k, 2 ≤ k → k < i → xk = (l.at_ k).key → ¬ ShpV l) := Lib.hid fun k q1 q2 q3 => HBAD.out fun q => (HCO.out.1 q).2.2.2 k q1 q2 q3
                        clear h1 h2 hv HNX HBAD HCO
                        go_wp2_with (first | (go_at_call 133; with_reducible refine (H1.out).mono ?_; rintro e w' ⟨rfl, rfl⟩) | (go_at_call 133; with_reducible refine (H2.out).mono ?_; rintro e w' ⟨rfl, rfl⟩) | (go_at_call 131; with_reducible refine (HVK.out).mono ?_; rintro e w' ⟨rfl, rfl⟩))
                        clear x0 x1 y0 y1 y2
                        go_loopw [6] (fun vk' wq => ∃ (k : Nat), vk' = .int .i64 (k : Int) ∧ 2 ≤ k ∧ (k ≤ i ∨ k = 2) ∧ Below W.heap.size W wq ∧ Hid (∀ j, 2 ≤ j → j < k → xk ≠ (l.at_ j).key)) (fun vk' _ => i - (intOf vk').toNat)
                        case atStart => exact ⟨2, rfl, by omega, .inr rfl, Below.refl _ _, Lib.hid fun j h h2 => by omega⟩
                        case round =>
                          obtain ⟨k, rfl, hk2, hki, hbq, HD⟩ := hrel
                          have HBQ := Lib.hid hbq
                          by_cases hkl : k < i
                          · have y0 := (HXN.out.below hbq).cell 0
                            have x0 := (HX2.out.below hbq).cell 0
                            have x1 := (HX2.out.below hbq).cell 1
                            have g1 := (((HB2.out.trans (hbq.mono (by rw [HS2.out]; omega))).cell (p := ⟨b, o + k * 5, none⟩) HBL.out)).trans (HKY.out k hkl hSz)
                            have z0 : (0 : Int) ≤ (k : Int) := by omega
                            have z1 : (k : Int) < (i : Int) := by omega
                            have z2 : (k : Int) < (n : Int) := by omega
                            have HDK := Lib.hid (HDB.out k hk2 hkl)
                            have HDN : Hid (xk ≠ (l.at_ k).key → ∀ j, 2 ≤ j → j < k + 1 → xk ≠ (l.at_ j).key) := Lib.hid fun q j q1 q2 => by
                              rcases Nat.lt_or_ge j k with q3 | q3
                              · exact HD.out j q1 q3
                              · obtain rfl : j = k := by omega
                                exact q
                            generalize (l.at_ k).key = y at *
                            clear hbq
                            cases he : (xk.toList == y.toList) with
                            | true =>
                              have HE := Lib.hid (HDK.out (toList_inj (by simpa using he)))
                              go_wp2_with fail
                              go_quiet (fail)
                              go_wp2_with fail
                              go_ret
                              exact ⟨false, rfl, ⟨fun q => Bool.noConfusion q, fun q => (HE.out q).elim⟩, by rw [← HBB.out]; exact HB2.out.trans ((below_drw HBQ.out _).mono (by rw [HS2.out]; omega))⟩
                            | false =>
                              have HE := Lib.hid (HDN.out (by intro q; rw [q] at he; simp at he))
                              go_wp2_with fail
                              go_quiet (fail)
                              go_wp2_with fail
                              exact ⟨⟨k + 1, by go_num, by omega, .inl (by omega), below_drw HBQ.out _, HE.out |> Lib.hid⟩, by simp [intOf]; omega⟩
                          · have HE := Lib.hid (HDF.out fun j q1 q2 => HD.out j q1 (by omega))
                            have hs := hbq.size
                            have hs2 := HS2.out
                            go_wp2_with fail
                            exact ⟨⟨i + 1, by go_num, hlt, HX2.out.below hbq, HB2.out.trans (hbq.mono (by omega)), by omega, HE⟩, by simp [intOf]; omega⟩
                      | false =>
                        rw [hv] at HVK
                        have HE := Lib.hid (HBAD.out fun q => by have := (HCO.out.1 q).2.2.1; rw [hv] at this; cases this)
                        clear hv HNX HBAD HCO
                        go_wp2_with (first | (go_at_call 133; with_reducible refine (H1.out).mono ?_; rintro e w' ⟨rfl, rfl⟩) | (go_at_call 133; with_reducible refine (H2.out).mono ?_; rintro e w' ⟨rfl, rfl⟩) | (go_at_call 131; with_reducible refine (HVK.out).mono ?_; rintro e w' ⟨rfl, rfl⟩))
                        go_ret
                        exact ⟨false, rfl, ⟨fun q => Bool.noConfusion q, fun q => (HE.out q).elim⟩, by rw [← HBB.out]; exact HB2.out⟩
                    · have H2 := Lib.hid ((ridx_any xr (n : Int) W).mono fun e w' h => h.no h2)
                      have HE := Lib.hid (HBAD.out fun q => h2 (HCO.out.1 q).2.1)
                      clear h2 HNX HBAD HCO
                      go_wp2_with (first | (go_at_call 133; with_reducible refine (H1.out).mono ?_; rintro e w' ⟨rfl, rfl⟩) | (go_at_call 133; with_reducible refine (H2.out).mono ?_; rintro e w' ⟨rfl, rfl⟩))
                      go_ret
                      exact ⟨false, rfl, ⟨fun q => Bool.noConfusion q, fun q => (HE.out q).elim⟩, by rw [← HBB.out]; exact HB2.out⟩
                  · have H1 := Lib.hid ((ridx_any xl (n : Int) W).mono fun e w' h => h.no h1)
                    have HE := Lib.hid (HBAD.out fun q => h1 (HCO.out.1 q).1)
                    clear h1 HNX HBAD HCO
                    go_wp2_with (go_at_call 133; with_reducible refine (H1.out).mono ?_; rintro e w' ⟨rfl, rfl⟩)
                    go_ret
                    exact ⟨false, rfl, ⟨fun q => Bool.noConfusion q, fun q => (HE.out q).elim⟩, by rw [← HBB.out]; exact HB2.out⟩
                · obtain rfl : i = n := by omega
                  have HVR : Hid (ShpV l ↔ ∀ p, p < m → proS l p) := Lib.hid ⟨fun q => (HVQ.out.1 q).2, fun q => HVQ.out.2 ⟨HS.out, q⟩⟩
                  have HSZ := Lib.hid hSz
                  clear HVQ HS hlt hi hB hSz
                  go_wp2_with fail
                  clear x0 x1
                  go_loopw [7] (fun vi wq => ∃ (p : Nat), vi = .int .i64 (p : Int) ∧ p ≤ m ∧ Has wq B 28 #[.slice (some ⟨b, o, none⟩) i c1, .slice A2 m c2] ∧ Below B w wq ∧ B + 1 ≤ wq.heap.size ∧ Hid (∀ j, j < p → proS l j)) (fun vi _ => m - (intOf vi).toNat)
                  case atStart => exact ⟨0, rfl, by omega, HX.out, HB.out, HSZ.out, Lib.hid fun j h => by omega⟩
                  case round =>
                    clear HX HB HSZ
                    obtain ⟨p, rfl, hp, hX, hB, hSz, HS⟩ := hrel
                    rename World => wq
                    have HX := Lib.hid hX
                    have HB := Lib.hid hB
                    have x0 := hX.cell 0
                    have x1 := hX.cell 1
                    clear hX
                    by_cases hlt : p < m
                    · have i2 : p < l.ps.length := by rw [HM.out]; exact hlt
                      obtain ⟨b2, o2, e, -, hb, f0, f1, f2, f3, f4, f5, f6⟩ := HL.out.proc i2
                      subst e
                      rw [← HBB.out] at hb
                      replace f0 := (hB.cell (p := ⟨b2, o2 + p * 7, none⟩) hb).trans f0
                      replace f1 := (hB.cell (p := ⟨b2, o2 + p * 7 + 1, none⟩) hb).trans f1
                      replace f2 := (hB.cell (p := ⟨b2, o2 + p * 7 + 2, none⟩) hb).trans f2
                      replace f3 := (hB.cell (p := ⟨b2, o2 + p * 7 + 3, none⟩) hb).trans f3
                      replace f4 := (hB.cell (p := ⟨b2, o2 + p * 7 + 4, none⟩) hb).trans f4
                      replace f5 := (hB.cell (p := ⟨b2, o2 + p * 7 + 5, none⟩) hb).trans f5
                      replace f6 := (hB.cell (p := ⟨b2, o2 + p * 7 + 6, none⟩) hb).trans f6
                      have i0 : (0 : Int) ≤ (p : Int) := by omega
                      have i1 : (p : Int) < (m : Int) := by omega
                      have HCO : Hid (proS l p ↔ (0 ≤ (l.pr p).cell ∧ (l.pr p).cell < (i : Int)) ∧ (0 ≤ (l.pr p).pred ∧ (l.pr p).pred < (i : Int)) ∧ (0 ≤ (l.pr p).succ ∧ (l.pr p).succ < (i : Int)) ∧ (0 ≤ (l.pr p).next ∧ (l.pr p).next < (i : Int)) ∧ (0 ≤ (l.pr p).kind ∧ (l.pr p).kind ≤ 3) ∧ ((l.pr p).kind = 0 ↔ (l.pr p).phase = 0)) := Lib.hid (by unfold proS inC; rw [HN.out])
                      have HBAD : Hid (¬ proS l p → ¬ ShpV l) := Lib.hid fun h1 h2 => h1 (HVR.out.1 h2 p hlt)
                      have HNX : Hid (proS l p → ∀ j, j < p + 1 → proS l j) := Lib.hid fun h1 j h2 => by
                        rcases Nat.lt_or_ge j p with h3 | h3
                        · exact HS.out j h3
                        · obtain rfl : j = p := by omega
                          exact h1
                      generalize l.pr p = x at *
                      obtain ⟨xk, xc, xp, xd, xs, xx, xr⟩ := x
                      simp only at f0 f1 f2 f3 f4 f5 f6 HCO
                      have HXN := Lib.hid (Has.new wq 63 #[.int .i64 xk, .int .i64 xc, .int .i64 xp, .int .i64 xd, .int .i64 xs, .int .i64 xx, .bool xr])
                      have hbn := (Below.refl wq.heap.size wq).alloc (Nat.le_refl _) (.cells #[.int .i64 xk, .int .i64 xc, .int .i64 xp, .int .i64 xd, .int .i64 xs, .int .i64 xx, .bool xr] 63)
                      have HX2 := Lib.hid (HX.out.below hbn)
                      have HB2 := Lib.hid (HB.out.trans (hbn.mono (by omega)))
                      have hS2 : B + 1 ≤ (wq.alloc (.cells #[.int .i64 xk, .int .i64 xc, .int .i64 xp, .int .i64 xd, .int .i64 xs, .int .i64 xx, .bool xr] 63)).heap.size := by rw [World.size_alloc]; omega
                      clear hbn HX HB hB HS i2 hb
                      go_upto_region 19 with fail
                      clear f0 f1 f2 f3 f4 f5 f6 x0 x1
                      generalize wq.alloc (.cells #[.int .i64 xk, .int .i64 xc, .int .i64 xp, .int .i64 xd, .int .i64 xs, .int .i64 xx, .bool xr] 63) = W at *
                      have y0 := HXN.out.cell 0
                      have y1 := HXN.out.cell 1
                      have y2 := HXN.out.cell 2
                      have y3 := HXN.out.cell 3
                      have y4 := HXN.out.cell 4
                      have y5 := HXN.out.cell 5
                      by_cases h1 : 0 ≤ xc ∧ xc < (i : Int)
                      · have H1 := Lib.hid ((ridx_any xc (i : Int) W).mono fun e w' h => h.yes h1)
                        by_cases h2 : 0 ≤ xd ∧ xd < (i : Int)
                        · have H2 := Lib.hid ((ridx_any xd (i : Int) W).mono fun e w' h => h.yes h2)
                          by_cases h3 : 0 ≤ xs ∧ xs < (i : Int)
                          · have H3 := Lib.hid ((ridx_any xs (i : Int) W).mono fun e w' h => h.yes h3)
                            by_cases h4 : 0 ≤ xx ∧ xx < (i : Int)
                            · have H4 := Lib.hid ((ridx_any xx (i : Int) W).mono fun e w' h => h.yes h4)
                              by_cases h5 : 0 ≤ xk
                              · have h5' : ¬ (xk < 0) := by omega
                                by_cases h6 : xk ≤ 3
                                · have h6' : ¬ (xk > 3) := by omega
                                  by_cases h7 : xk = 0 ↔ xp = 0
                                  · have HE := Lib.hid (HNX.out (HCO.out.2 ⟨h1, h2, h3, h4, ⟨h5, h6⟩, h7⟩))
                                    have hz := bool_same h7
                                    clear h1 h2 h3 h4 h5 h6 h7 HNX HBAD HCO
                                    go_wp2_with (first | (go_at_call 133; with_reducible refine (H1.out).mono ?_; rintro e w' ⟨rfl, rfl⟩) | (go_at_call 133; with_reducible refine (H2.out).mono ?_; rintro e w' ⟨rfl, rfl⟩) | (go_at_call 133; with_reducible refine (H3.out).mono ?_; rintro e w' ⟨rfl, rfl⟩) | (go_at_call 133; with_reducible refine (H4.out).mono ?_; rintro e w' ⟨rfl, rfl⟩))
                                    exact ⟨⟨p + 1, by go_num, hlt, HX2.out, HB2.out, hS2, HE⟩, by simp [intOf]; omega⟩
                                  · have HE := Lib.hid (HBAD.out fun q => h7 (HCO.out.1 q).2.2.2.2.2)
                                    have hz := bool_other h7
                                    clear h1 h2 h3 h4 h5 h6 h7 HNX HBAD HCO
                                    go_wp2_with (first | (go_at_call 133; with_reducible refine (H1.out).mono ?_; rintro e w' ⟨rfl, rfl⟩) | (go_at_call 133; with_reducible refine (H2.out).mono ?_; rintro e w' ⟨rfl, rfl⟩) | (go_at_call 133; with_reducible refine (H3.out).mono ?_; rintro e w' ⟨rfl, rfl⟩) | (go_at_call 133; with_reducible refine (H4.out).mono ?_; rintro e w' ⟨rfl, rfl⟩))
                                    go_ret
                                    exact ⟨false, rfl, ⟨fun q => Bool.noConfusion q, fun q => (HE.out q).elim⟩, by rw [← HBB.out]; exact HB2.out⟩
                                · have h6' : (xk > 3) := by omega
                                  have HE := Lib.hid (HBAD.out fun q => h6 (HCO.out.1 q).2.2.2.2.1.2)
                                  clear h1 h2 h3 h4 h6 HNX HBAD HCO
                                  go_wp2_with (first | (go_at_call 133; with_reducible refine (H1.out).mono ?_; rintro e w' ⟨rfl, rfl⟩) | (go_at_call 133; with_reducible refine (H2.out).mono ?_; rintro e w' ⟨rfl, rfl⟩) | (go_at_call 133; with_reducible refine (H3.out).mono ?_; rintro e w' ⟨rfl, rfl⟩) | (go_at_call 133; with_reducible refine (H4.out).mono ?_; rintro e w' ⟨rfl, rfl⟩))
                                  go_ret
                                  exact ⟨false, rfl, ⟨fun q => Bool.noConfusion q, fun q => (HE.out q).elim⟩, by rw [← HBB.out]; exact HB2.out⟩
                              · have h5' : (xk < 0) := by omega
                                have HE := Lib.hid (HBAD.out fun q => h5 (HCO.out.1 q).2.2.2.2.1.1)
                                clear h1 h2 h3 h4 h5 HNX HBAD HCO
                                go_wp2_with (first | (go_at_call 133; with_reducible refine (H1.out).mono ?_; rintro e w' ⟨rfl, rfl⟩) | (go_at_call 133; with_reducible refine (H2.out).mono ?_; rintro e w' ⟨rfl, rfl⟩) | (go_at_call 133; with_reducible refine (H3.out).mono ?_; rintro e w' ⟨rfl, rfl⟩) | (go_at_call 133; with_reducible refine (H4.out).mono ?_; rintro e w' ⟨rfl, rfl⟩))
                                go_ret
                                exact ⟨false, rfl, ⟨fun q => Bool.noConfusion q, fun q => (HE.out q).elim⟩, by rw [← HBB.out]; exact HB2.out⟩
                            · have H4 := Lib.hid ((ridx_any xx (i : Int) W).mono fun e w' h => h.no h4)
                              have HE := Lib.hid (HBAD.out fun q => h4 (HCO.out.1 q).2.2.2.1)
                              clear h4 HNX HBAD HCO
                              go_wp2_with (first | (go_at_call 133; with_reducible refine (H1.out).mono ?_; rintro e w' ⟨rfl, rfl⟩) | (go_at_call 133; with_reducible refine (H2.out).mono ?_; rintro e w' ⟨rfl, rfl⟩) | (go_at_call 133; with_reducible refine (H3.out).mono ?_; rintro e w' ⟨rfl, rfl⟩) | (go_at_call 133; with_reducible refine (H4.out).mono ?_; rintro e w' ⟨rfl, rfl⟩))
                              go_ret
                              exact ⟨false, rfl, ⟨fun q => Bool.noConfusion q, fun q => (HE.out q).elim⟩, by rw [← HBB.out]; exact HB2.out⟩
                          · have H3 := Lib.hid ((ridx_any xs (i : Int) W).mono fun e w' h => h.no h3)
                            have HE := Lib.hid (HBAD.out fun q => h3 (HCO.out.1 q).2.2.1)
                            clear h3 HNX HBAD HCO
                            go_wp2_with (first | (go_at_call 133; with_reducible refine (H1.out).mono ?_; rintro e w' ⟨rfl, rfl⟩) | (go_at_call 133; with_reducible refine (H2.out).mono ?_; rintro e w' ⟨rfl, rfl⟩) | (go_at_call 133; with_reducible refine (H3.out).mono ?_; rintro e w' ⟨rfl, rfl⟩))
                            go_ret
                            exact ⟨false, rfl, ⟨fun q => Bool.noConfusion q, fun q => (HE.out q).elim⟩, by rw [← HBB.out]; exact HB2.out⟩
                        · have H2 := Lib.hid ((ridx_any xd (i : Int) W).mono fun e w' h => h.no h2)
                          have HE := Lib.hid (HBAD.out fun q => h2 (HCO.out.1 q).2.1)
                          clear h2 HNX HBAD HCO
                          go_wp2_with (first | (go_at_call 133; with_reducible refine (H1.out).mono ?_; rintro e w' ⟨rfl, rfl⟩) | (go_at_call 133; with_reducible refine (H2.out).mono ?_; rintro e w' ⟨rfl, rfl⟩))
                          go_ret
                          exact ⟨false, rfl, ⟨fun q => Bool.noConfusion q, fun q => (HE.out q).elim⟩, by rw [← HBB.out]; exact HB2.out⟩
                      · have H1 := Lib.hid ((ridx_any xc (i : Int) W).mono fun e w' h => h.no h1)
                        have HE := Lib.hid (HBAD.out fun q => h1 (HCO.out.1 q).1)
                        clear h1 HNX HBAD HCO
                        go_wp2_with (go_at_call 133; with_reducible refine (H1.out).mono ?_; rintro e w' ⟨rfl, rfl⟩)
                        go_ret
                        exact ⟨false, rfl, ⟨fun q => Bool.noConfusion q, fun q => (HE.out q).elim⟩, by rw [← HBB.out]; exact HB2.out⟩
                    · have HE : Hid (ShpV l) := Lib.hid (HVR.out.2 fun j hj => HS.out j (by omega))
                      go_wp2_with fail
                      go_ret
                      exact ⟨true, rfl, ⟨fun _ => HE.out, fun _ => rfl⟩, by rw [← HBB.out]; exact HB.out⟩
            · obtain ⟨e1, e2⟩ := ne_empty h6
              have HE := Lib.hid (fun q => h6 (HVP.out.1 q).2.1)
              clear h6 HVP HV
              go_wp2_with fail
              go_ret
              exact ⟨false, rfl, ⟨fun q => Bool.noConfusion q, fun q => (HE.out q).elim⟩, by rw [← HBB.out]; exact HB0.out⟩
          · obtain ⟨e1, e2⟩ := ne_empty h5
            have HE := Lib.hid (fun q => h5 (HVP.out.1 q).1)
            clear h5 HVP HV
            go_wp2_with fail
            go_ret
            exact ⟨false, rfl, ⟨fun q => Bool.noConfusion q, fun q => (HE.out q).elim⟩, by rw [← HBB.out]; exact HB0.out⟩
        · have hh : (m : Int) > 8 := by omega
          have HE := Lib.hid (fun q => h4 (HV.out.1 q).2.1.2)
          clear h4 HV
          go_wp2_with fail
          go_ret
          exact ⟨false, rfl, ⟨fun q => Bool.noConfusion q, fun q => (HE.out q).elim⟩, by rw [← HBB.out]; exact HB0.out⟩
      · have hh : (m : Int) < 1 := by omega
        have HE := Lib.hid (fun q => h3 (HV.out.1 q).2.1.1)
        clear h3 HV
        go_wp2_with fail
        go_ret
        exact ⟨false, rfl, ⟨fun q => Bool.noConfusion q, fun q => (HE.out q).elim⟩, by rw [← HBB.out]; exact HB0.out⟩
    · have hh : (n : Int) > 66 := by omega
      have HE := Lib.hid (fun q => h2 (HV.out.1 q).1.2)
      clear h2 HV
      go_wp2_with fail
      go_ret
      exact ⟨false, rfl, ⟨fun q => Bool.noConfusion q, fun q => (HE.out q).elim⟩, by rw [← HBB.out]; exact HB0.out⟩
  · have hh : (n : Int) < 2 := by omega
    have HE := Lib.hid (fun q => h1 (HV.out.1 q).1.1)
    clear h1 HV
    go_wp2_with fail
    go_ret
    exact ⟨false, rfl, ⟨fun q => Bool.noConfusion q, fun q => (HE.out q).elim⟩, by rw [← HBB.out]; exact HB0.out⟩
end Lk
end Go.Proofs.YtmhbloefmknikaaGreatDoor
