/-
  validProcs of package locked. Conditions: the list can be read; no list is long.
-/
import Derived.Test.YtgmffgdhijcfcaaDoorKzK
namespace Go.Proofs.YtgmffgdhijcfcaaDoor
open Go.RowKit Go.Maps
namespace Lk

theorem bool_same {a b : Int} (h : a = 0 ↔ b = 0) : (!((a == 0) == (b == 0))) = false := by
  by_cases q : a = 0
  · subst q; simp [h.1 rfl]
  · have q2 : ¬ b = 0 := fun e => q (h.2 e)
    rw [show (a == 0) = false by simpa using q, show (b == 0) = false by simpa using q2]; rfl
theorem bool_other {a b : Int} (h : ¬ (a = 0 ↔ b = 0)) : (!((a == 0) == (b == 0))) = true := by
  by_cases q : a = 0
  · have q2 : ¬ b = 0 := fun e => h ⟨fun _ => e, fun _ => q⟩
    rw [show (a == 0) = true by simpa using q, show (b == 0) = false by simpa using q2]; rfl
  · have q2 : b = 0 := Classical.byContradiction fun e => h ⟨fun h => absurd h q, fun h => absurd h e⟩
    rw [show (a == 0) = false by simpa using q, show (b == 0) = true by simpa using q2]; rfl
def inC (l : Ls) (z : Int) : Prop := 0 ≤ z ∧ z < (l.cs.length : Int)
def proOk (l : Ls) (p : Nat) : Prop := inC l (l.pr p).cell ∧ inC l (l.pr p).pred ∧ inC l (l.pr p).succ ∧ inC l (l.pr p).next ∧ (0 ≤ (l.pr p).kind ∧ (l.pr p).kind ≤ 3) ∧ ((l.pr p).phase = 18 ∨ (0 ≤ (l.pr p).phase ∧ (l.pr p).phase ≤ 13)) ∧ ((l.pr p).kind = 0 ↔ (l.pr p).phase = 0)
def VprP (l : Ls) : Prop := ∀ p, p < l.ps.length → proOk l p
def fourV (c d s x : Int) (k : Nat) : Int := if k = 0 then c else if k = 1 then d else if k = 2 then s else x
set_option maxRecDepth 100000 in
set_option maxHeartbeats 6400000 in
theorem validProcs_any (A1 A2 : Option Addr) (l : Ls) (n m c1 c2 : Nat) (w : World) (hn : l.cs.length = n) (hm : l.ps.length = m) (h : RdL w 0 A1 A2 l) (m8 : m ≤ 1000) :
    Calls Tryd.prog 62 #[.agg #[.slice A1 n c1, .slice A2 m c2]] w (BoolI (VprP l) w) := by
  have HB0 := Lib.hid ((Below.refl w.heap.size w).alloc (Nat.le_refl _) (.cells #[.slice A1 n c1, .slice A2 m c2] 35))
  have HX0 := Lib.hid (Has.new w 35 #[.slice A1 n c1, .slice A2 m c2])
  have HN := Lib.hid hn
  have HM := Lib.hid hm
  have HL := Lib.hid h
  obtain ⟨B, hB⟩ : ∃ B, B = w.heap.size := ⟨_, rfl⟩
  have HBB := Lib.hid hB
  have HSZ : Hid ((w.alloc (.cells #[.slice A1 n c1, .slice A2 m c2] 35)).heap.size = B + 1) := Lib.hid (by rw [World.size_alloc, hB])
  have x0 := HX0.out.cell 0
  have x1 := HX0.out.cell 1
  rw [← hB] at HB0 HX0 x0 x1
  clear h hn hm
  go_enter Tryd.func62, Tryd.ntmps62
  go_upto_region 1 with fail
  rw [← hB]
  generalize w.alloc (.cells #[.slice A1 n c1, .slice A2 m c2] 35) = W0 at *
  clear hB
  go_wp2_with fail
  go_loopw [10] (fun vi wr => ∃ (i : Nat), vi = .int .i64 (i : Int) ∧ i ≤ m ∧ Has wr B 35 #[.slice A1 n c1, .slice A2 m c2] ∧ Below B w wr ∧ B + 1 ≤ wr.heap.size ∧ Hid (∀ j, j < i → proOk l j)) (fun vi _ => m - (intOf vi).toNat)
  case atStart => exact ⟨0, rfl, by omega, HX0.out, HB0.out, by rw [HSZ.out]; omega, Lib.hid fun j h => by omega⟩
  case round =>
    obtain ⟨i, rfl, hi, hX, hB, hSz, HS⟩ := hrel
    clear HB0 HX0 HSZ x0 x1
    have HX := Lib.hid hX
    have HB := Lib.hid hB
    have x0 := hX.cell 0
    have x1 := hX.cell 1
    clear hX
    by_cases hlt : i < m
    · have i2 : i < l.ps.length := by rw [HM.out]; exact hlt
      obtain ⟨b, o, e, -, hb, f0, f1, f2, f3, f4, f5, f6⟩ := HL.out.proc i2
      subst e
      rw [← HBB.out] at hb
      replace f0 := (hB.cell (p := ⟨b, o + i * 7, none⟩) hb).trans f0
      replace f1 := (hB.cell (p := ⟨b, o + i * 7 + 1, none⟩) hb).trans f1
      replace f2 := (hB.cell (p := ⟨b, o + i * 7 + 2, none⟩) hb).trans f2
      replace f3 := (hB.cell (p := ⟨b, o + i * 7 + 3, none⟩) hb).trans f3
      replace f4 := (hB.cell (p := ⟨b, o + i * 7 + 4, none⟩) hb).trans f4
      replace f5 := (hB.cell (p := ⟨b, o + i * 7 + 5, none⟩) hb).trans f5
      replace f6 := (hB.cell (p := ⟨b, o + i * 7 + 6, none⟩) hb).trans f6
      have i0 : (0 : Int) ≤ (i : Int) := by omega
      have i1 : (i : Int) < (m : Int) := by omega
      have HCO : Hid (proOk l i ↔ (∀ k, k < 4 → 0 ≤ fourV (l.pr i).cell (l.pr i).pred (l.pr i).succ (l.pr i).next k ∧ fourV (l.pr i).cell (l.pr i).pred (l.pr i).succ (l.pr i).next k < (n : Int)) ∧ (0 ≤ (l.pr i).kind ∧ (l.pr i).kind ≤ 3) ∧ ((l.pr i).phase = 18 ∨ (0 ≤ (l.pr i).phase ∧ (l.pr i).phase ≤ 13)) ∧ ((l.pr i).kind = 0 ↔ (l.pr i).phase = 0)) := Lib.hid (by
        unfold proOk inC
        rw [HN.out]
        constructor
        · rintro ⟨q0, q1, q2, q3, q4, q5, q6⟩
          refine ⟨fun k hk => ?_, q4, q5, q6⟩
          have hk' : k = 0 ∨ k = 1 ∨ k = 2 ∨ k = 3 := by omega
          rcases hk' with rfl | rfl | rfl | rfl
          · exact q0
          · exact q1
          · exact q2
          · exact q3
        · rintro ⟨q0, q4, q5, q6⟩
          exact ⟨q0 0 (by omega), q0 1 (by omega), q0 2 (by omega), q0 3 (by omega), q4, q5, q6⟩)
      have HBAD : Hid (¬ proOk l i → ¬ VprP l) := Lib.hid fun h1 h2 => h1 (h2 i i2)
      have HNX : Hid (proOk l i → ∀ j, j < i + 1 → proOk l j) := Lib.hid fun h1 j h2 => by
        rcases Nat.lt_or_ge j i with h3 | h3
        · exact HS.out j h3
        · obtain rfl : j = i := by omega
          exact h1
      generalize l.pr i = x at *
      obtain ⟨xk, xc, xp, xd, xs, xx, xr⟩ := x
      simp only at f0 f1 f2 f3 f4 f5 f6 HCO
      have HXN := Lib.hid (Has.new wr 52 #[.int .i64 xk, .int .i64 xc, .int .i64 xp, .int .i64 xd, .int .i64 xs, .int .i64 xx, .bool xr])
      have hbn := (Below.refl wr.heap.size wr).alloc (Nat.le_refl _) (.cells #[.int .i64 xk, .int .i64 xc, .int .i64 xp, .int .i64 xd, .int .i64 xs, .int .i64 xx, .bool xr] 52)
      have HX2 := Lib.hid (HX.out.below hbn)
      have HB2 := Lib.hid (HB.out.trans (hbn.mono (by omega)))
      have hS2 : (wr.alloc (.cells #[.int .i64 xk, .int .i64 xc, .int .i64 xp, .int .i64 xd, .int .i64 xs, .int .i64 xx, .bool xr] 52)).heap.size = wr.heap.size + 1 := by rw [World.size_alloc]
      clear hbn HX HB hB HS i2 hb
      go_upto_region 4 with fail
      clear f0 f1 f2 f3 f4 f5 f6 x0 x1
      generalize wr.alloc (.cells #[.int .i64 xk, .int .i64 xc, .int .i64 xp, .int .i64 xd, .int .i64 xs, .int .i64 xx, .bool xr] 52) = W at *
      have x0 := HX2.out.cell 0
      have x1 := HX2.out.cell 1
      have y0 := HXN.out.cell 0
      have y1 := HXN.out.cell 1
      have y2 := HXN.out.cell 2
      have y3 := HXN.out.cell 3
      have y4 := HXN.out.cell 4
      have y5 := HXN.out.cell 5
      have HXZ := Lib.hid (Has.new W 3 #[.int .i64 xc, .int .i64 xd, .int .i64 xs, .int .i64 xx])
      have hbz := (Below.refl W.heap.size W).alloc (Nat.le_refl _) (.cells #[.int .i64 xc, .int .i64 xd, .int .i64 xs, .int .i64 xx] 3)
      have HX3 := Lib.hid (HX2.out.below hbz)
      have HXN3 := Lib.hid (HXN.out.below hbz)
      have HB3 := Lib.hid (HB2.out.trans (hbz.mono (by omega)))
      have hS3 : (W.alloc (.cells #[.int .i64 xc, .int .i64 xd, .int .i64 xs, .int .i64 xx] 3)).heap.size = W.heap.size + 1 := by rw [World.size_alloc]
      clear hbz HX2 HXN HB2
      go_wp2_with fail
      clear x0 x1 y0 y1 y2 y3 y4 y5
      generalize W.alloc (.cells #[.int .i64 xc, .int .i64 xd, .int .i64 xs, .int .i64 xx] 3) = V at *
      obtain ⟨wo, hwo⟩ : ∃ wo, wo = wr := ⟨_, rfl⟩
      rw [← hwo] at hS2 HXN3 hSz ⊢
      clear hwo
      go_loopw [24] (fun vk' wr' => ∃ k : Nat, vk' = .int .i64 (k : Int) ∧ k ≤ 4 ∧ V = wr' ∧ Hid (∀ j, j < k → 0 ≤ fourV xc xd xs xx j ∧ fourV xc xd xs xx j < (n : Int))) (fun vk' _ => 4 - (intOf vk').toNat)
      case atStart => exact ⟨0, rfl, by omega, rfl, Lib.hid fun j h => by omega⟩
      case round =>
        obtain ⟨k, rfl, hk, rfl, HK⟩ := hrel
        by_cases hk4 : k < 4
        · have hz : V.cell? ⟨wo.heap.size + 1, k, none⟩ = some (.int .i64 (fourV xc xd xs xx k)) := by
            rw [← hS2, HXZ.out.cell]
            have hk' : k = 0 ∨ k = 1 ∨ k = 2 ∨ k = 3 := by omega
            rcases hk' with rfl | rfl | rfl | rfl <;> rfl
          have x0 := HX3.out.cell 0
          have k0 : (0 : Int) ≤ (k : Int) := by omega
          have k1 : (k : Int) < 4 := by omega
          have HKN := Lib.hid (fun (q : 0 ≤ fourV xc xd xs xx k ∧ fourV xc xd xs xx k < (n : Int)) (j : Nat) (h : j < k + 1) => (show 0 ≤ fourV xc xd xs xx j ∧ fourV xc xd xs xx j < (n : Int) from by
            rcases Nat.lt_or_ge j k with h3 | h3
            · exact HK.out j h3
            · obtain rfl : j = k := by omega
              exact q))
          have HKB := Lib.hid (fun (q : ¬ (0 ≤ fourV xc xd xs xx k ∧ fourV xc xd xs xx k < (n : Int))) (q2 : proOk l i) => q ((HCO.out.1 q2).1 k hk4))
          generalize fourV xc xd xs xx k = z at *
          by_cases h1 : 0 ≤ z ∧ z < (n : Int)
          · have H1 := Lib.hid ((isIndex_any z (n : Int) V).mono fun e w' h => h.yes h1)
            have HKO := Lib.hid (HKN.out h1)
            clear h1 HKN HKB
            go_wp2_with (go_at_call 44; with_reducible refine (H1.out).mono ?_; rintro e w' ⟨rfl, rfl⟩)
            exact ⟨⟨k + 1, by go_num, by omega, (by first | rfl | trivial), HKO⟩, by simp [intOf]; omega⟩
          · have H1 := Lib.hid ((isIndex_any z (n : Int) V).mono fun e w' h => h.no h1)
            have HKO := Lib.hid (HKB.out h1)
            clear h1 HKN HKB
            go_wp2_with (go_at_call 44; with_reducible refine (H1.out).mono ?_; rintro e w' ⟨rfl, rfl⟩)
            go_ret
            exact ⟨false, rfl, ⟨fun h => Bool.noConfusion h, fun h => (HBAD.out HKO.out h).elim⟩, by rw [← HBB.out]; exact HB3.out⟩
        · have HK4 := Lib.hid (fun j (h : j < 4) => HK.out j (by omega))
          obtain rfl : k = 4 := by omega
          have x0 := HX3.out.cell 0
          have y0 := HXN3.out.cell 0
          have y2 := HXN3.out.cell 2
          clear HK hk hk4
          by_cases h1 : 0 ≤ xk ∧ xk ≤ 3
          · have H1 := Lib.hid ((isKind_any xk V).mono fun e w' h => h.yes h1)
            by_cases h2 : xp = 18 ∨ (0 ≤ xp ∧ xp ≤ 13)
            · have H2 := Lib.hid ((isPhase_any xp V).mono fun e w' h => h.yes h2)
              by_cases h3 : xk = 0 ↔ xp = 0
              · have HOK := Lib.hid (HNX.out (HCO.out.2 ⟨HK4.out, h1, h2, h3⟩))
                have hz := bool_same h3
                have hsz : B + 1 ≤ V.heap.size := by omega
                clear h1 h2 h3 HNX HBAD HCO HK4
                go_wp2_with (first | (go_at_call 45; with_reducible refine (H1.out).mono ?_; rintro e w' ⟨rfl, rfl⟩) | (go_at_call 82; with_reducible refine (H2.out).mono ?_; rintro e w' ⟨rfl, rfl⟩))
                exact ⟨⟨i + 1, by go_num, hlt, HX3.out, HB3.out, hsz, HOK⟩, by simp [intOf]; omega⟩
              · have hz := bool_other h3
                go_wp2_with (first | (go_at_call 45; with_reducible refine (H1.out).mono ?_; rintro e w' ⟨rfl, rfl⟩) | (go_at_call 82; with_reducible refine (H2.out).mono ?_; rintro e w' ⟨rfl, rfl⟩))
                go_ret
                exact ⟨false, rfl, ⟨fun h => Bool.noConfusion h, fun h => (HBAD.out (fun q => h3 (HCO.out.1 q).2.2.2) h).elim⟩, by rw [← HBB.out]; exact HB3.out⟩
            · have H2 := Lib.hid ((isPhase_any xp V).mono fun e w' h => h.no h2)
              go_wp2_with (first | (go_at_call 45; with_reducible refine (H1.out).mono ?_; rintro e w' ⟨rfl, rfl⟩) | (go_at_call 82; with_reducible refine (H2.out).mono ?_; rintro e w' ⟨rfl, rfl⟩))
              go_ret
              exact ⟨false, rfl, ⟨fun h => Bool.noConfusion h, fun h => (HBAD.out (fun q => h2 (HCO.out.1 q).2.2.1) h).elim⟩, by rw [← HBB.out]; exact HB3.out⟩
          · have H1 := Lib.hid ((isKind_any xk V).mono fun e w' h => h.no h1)
            go_wp2_with ((go_at_call 45; with_reducible refine (H1.out).mono ?_; rintro e w' ⟨rfl, rfl⟩))
            go_ret
            exact ⟨false, rfl, ⟨fun h => Bool.noConfusion h, fun h => (HBAD.out (fun q => h1 (HCO.out.1 q).2.1) h).elim⟩, by rw [← HBB.out]; exact HB3.out⟩
    · go_wp2_with fail
      go_ret
      refine ⟨true, rfl, ⟨fun _ p hp => HS.out p (by have := HM.out; omega), fun _ => rfl⟩, by rw [← HBB.out]; exact HB.out⟩
end Lk
end Go.Proofs.YtgmffgdhijcfcaaDoor
