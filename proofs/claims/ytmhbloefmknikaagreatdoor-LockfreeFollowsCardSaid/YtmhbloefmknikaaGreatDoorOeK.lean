/-
  inserting of the reference of chapter 12. Conditions: the list can be read; no list is long.
-/
import Derived.Test.YtmhbloefmknikaaGreatDoorOeA
import Derived.Test.YtmhbloefmknikaaGreatDoorObJ
import Derived.Test.YtmhbloefmknikaaGreatDoorMaA
namespace Go.Proofs.YtmhbloefmknikaaGreatDoor
open Go.RowKit Go.Maps
namespace Lf
open Lk
theorem insB_at (l : Ls) (i m : Nat) (hm : l.ps.length = m) : insB l i = true ↔ ∃ p, p < m ∧ InsP (l.pr p) (i : Int) := by
  rw [insB_iff]
  constructor
  · rintro ⟨x, hx, h⟩
    obtain ⟨p, hp, e⟩ := List.getElem_of_mem hx
    exact ⟨p, by omega, by rw [← l.pr_lt hp, e]; exact h⟩
  · rintro ⟨p, hp, h⟩
    have hp' : p < l.ps.length := by omega
    rw [← l.pr_lt hp'] at h
    exact ⟨_, List.getElem_mem _, h⟩
set_option maxRecDepth 100000 in
set_option maxHeartbeats 3200000 in
theorem rins_any (A1 A2 : Option Addr) (l : Ls) (n m c1 c2 lo i : Nat) (w : World) (hm : l.ps.length = m) (h : RdL w lo A1 A2 l) (m9 : m ≤ 1000000) :
    Calls Tryz.prog 85 #[.agg #[.slice A1 n c1, .slice A2 m c2], .int .i64 (i : Int)] w (BoolI (insB l i = true) w) := by
  have hb := (Below.refl w.heap.size w).alloc (Nat.le_refl _) (.cells #[.slice A1 n c1, .slice A2 m c2] 28)
  have HX := Lib.hid (Has.new w 28 #[.slice A1 n c1, .slice A2 m c2])
  have HB := Lib.hid hb
  have HL := Lib.hid (h.below hb)
  have HM := Lib.hid hm
  have HU0 := Lib.hid (insB_at l i m hm)
  have x0 := HX.out.cell 0
  have x1 := HX.out.cell 1
  clear hb h hm
  go_enter Tryz.func85, Tryz.ntmps85
  go_upto_region 1 with fail
  generalize w.alloc (.cells #[.slice A1 n c1, .slice A2 m c2] 28) = W at *
  go_wp2_with fail
  go_loopw [5] (fun vk wr => ∃ k : Nat, vk = .int .i64 (k : Int) ∧ k ≤ m ∧ Has wr w.heap.size 28 #[.slice A1 n c1, .slice A2 m c2] ∧ Below W.heap.size W wr ∧ Hid (∀ j, j < k → ¬ InsP (l.pr j) (i : Int))) (fun vk _ => m - (intOf vk).toNat)
  case atStart => exact ⟨0, rfl, by omega, HX.out, Below.refl _ _, Lib.hid fun j h => by omega⟩
  case round =>
    obtain ⟨k, rfl, hk, hX, hB, HS⟩ := hrel
    have HXW := Lib.hid hX
    have HBW := Lib.hid hB
    clear x0 x1
    have x0 := hX.cell 0
    have x1 := hX.cell 1
    by_cases hlt : k < m
    · obtain ⟨b, o, e, -, hb, f0, f1, f2, f3, f4, f5, f6⟩ := HL.out.proc (i := k) (by rw [HM.out]; exact hlt)
      subst e
      replace f0 := (hB.cell (p := ⟨b, o + k * 7, none⟩) hb).trans f0
      replace f1 := (hB.cell (p := ⟨b, o + k * 7 + 1, none⟩) hb).trans f1
      replace f2 := (hB.cell (p := ⟨b, o + k * 7 + 2, none⟩) hb).trans f2
      replace f3 := (hB.cell (p := ⟨b, o + k * 7 + 3, none⟩) hb).trans f3
      replace f4 := (hB.cell (p := ⟨b, o + k * 7 + 4, none⟩) hb).trans f4
      replace f5 := (hB.cell (p := ⟨b, o + k * 7 + 5, none⟩) hb).trans f5
      replace f6 := (hB.cell (p := ⟨b, o + k * 7 + 6, none⟩) hb).trans f6
      have i0 : (0 : Int) ≤ (k : Int) := by omega
      have i1 : (k : Int) < (m : Int) := by omega
      have HY := Lib.hid (fun q : InsP (l.pr k) (i : Int) => HU0.out.2 ⟨k, hlt, q⟩)
      have HNX := Lib.hid (fun (q : ¬ InsP (l.pr k) (i : Int)) (j : Nat) (h : j < k + 1) => (show ¬ InsP (l.pr j) (i : Int) from by
        rcases Nat.lt_or_ge j k with h3 | h3
        · exact HS.out j h3
        · obtain rfl : j = k := by omega
          exact q))
      have HUW := Lib.hid (fun V => ract_any (l.pr k) V)
      clear HS hb hB hX
      generalize l.pr k = x at *
      obtain ⟨xk, xc, xp, xd, xs, xx, xr⟩ := x
      simp only at f0 f1 f2 f3 f4 f5 f6
      have hal := (Below.refl wr.heap.size wr).alloc (Nat.le_refl _) (.cells #[.int .i64 xk, .int .i64 xc, .int .i64 xp, .int .i64 xd, .int .i64 xs, .int .i64 xx, .bool xr] 63)
      have HXN := Lib.hid (HXW.out.below hal)
      have HBN := Lib.hid (HBW.out.trans (hal.mono HBW.out.size))
      have HPN := Lib.hid (Has.new wr 63 #[.int .i64 xk, .int .i64 xc, .int .i64 xp, .int .i64 xd, .int .i64 xs, .int .i64 xx, .bool xr])
      clear hal x0 x1
      have x0 := HXW.out.cell 0
      have x1 := HXW.out.cell 1
      go_upto_region 5 with fail
      clear f0 f1 f2 f3 f4 f5 f6 x0 x1
      obtain ⟨C, hC⟩ : ∃ C, C = wr.heap.size := ⟨_, rfl⟩
      rw [← hC] at HPN ⊢
      clear hC
      generalize wr.alloc (.cells #[.int .i64 xk, .int .i64 xc, .int .i64 xp, .int .i64 xd, .int .i64 xs, .int .i64 xx, .bool xr] 63) = V at *
      have y0 := HPN.out.cell 0
      have y1 := HPN.out.cell 1
      have y2 := HPN.out.cell 2
      have y3 := HPN.out.cell 3
      have y4 := HPN.out.cell 4
      have y5 := HPN.out.cell 5
      have y6 := HPN.out.cell 6
      by_cases h1 : xk = 1
      · subst h1
        by_cases h2 : xc = (i : Int)
        · subst h2
          by_cases h3 : xp ≠ 0 ∧ xp ≠ 18
          · have HE := Lib.hid (HY.out ⟨rfl, rfl, h3⟩)
            have HU := Lib.hid (fun V => (HUW.out V).mono fun e w' h => h.yes h3)
            clear h3 HUW HNX HY
            go_wp2_with (go_at_call 56; refine (HU.out _).mono ?_; rintro e w5 ⟨rfl, hb5⟩; have HX5 := Lib.hid (HXN.out.below hb5); have HB5 := Lib.hid (HBN.out.trans (hb5.mono HBN.out.size)))
            go_ret
            exact ⟨true, rfl, ⟨fun _ => HE.out, fun _ => rfl⟩, HB.out.trans (HB5.out.mono HB.out.size)⟩
          · have HE := Lib.hid (HNX.out (fun q => h3 q.2.2))
            have HU := Lib.hid (fun V => (HUW.out V).mono fun e w' h => h.no h3)
            clear h3 HUW HNX HY
            go_wp2_with (go_at_call 56; refine (HU.out _).mono ?_; rintro e w5 ⟨rfl, hb5⟩; have HX5 := Lib.hid (HXN.out.below hb5); have HB5 := Lib.hid (HBN.out.trans (hb5.mono HBN.out.size)))
            exact ⟨⟨k + 1, by go_num, hlt, HX5.out, HB5.out, HE⟩, by simp [intOf]; omega⟩
        · have e2 : (xc == (i : Int)) = false := by simpa using h2
          have HE := Lib.hid (HNX.out (fun q => h2 q.1))
          clear h2 HY HNX
          go_wp2_with fail
          exact ⟨⟨k + 1, by go_num, hlt, HXN.out, HBN.out, HE⟩, by simp [intOf]; omega⟩
      · have e1 : (xk == 1) = false := by simpa using h1
        have HE := Lib.hid (HNX.out (fun q => h1 q.2.1))
        clear h1 HY HNX
        go_wp2_with fail
        exact ⟨⟨k + 1, by go_num, hlt, HXN.out, HBN.out, HE⟩, by simp [intOf]; omega⟩
    · have HE : Hid (¬ insB l i = true) := Lib.hid fun q => by
        obtain ⟨p, hp, h⟩ := HU0.out.1 q
        exact HS.out p (by omega) h
      clear hX hB
      go_wp2_with fail
      go_ret
      exact ⟨false, rfl, ⟨fun q => Bool.noConfusion q, fun q => (HE.out q).elim⟩, HB.out.trans (HBW.out.mono HB.out.size)⟩
end Lf
end Go.Proofs.YtmhbloefmknikaaGreatDoor
