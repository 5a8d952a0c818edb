/-
  Check of the reference of chapter 11. Conditions: the list can be read; no list is long.
-/
import Derived.Test.YtmhbloefmknikaaGreatDoorMbL
import Derived.Test.YtmhbloefmknikaaGreatDoorMbM
import Derived.Test.YtmhbloefmknikaaGreatDoorMbO
namespace Go.Proofs.YtmhbloefmknikaaGreatDoor
open Go.RowKit Go.Maps
namespace Lk
set_option maxRecDepth 100000 in
set_option maxHeartbeats 12800000 in
theorem rcheckL_any (A1 A2 : Option Addr) (l : Ls) (n m c1 c2 : Nat) (w : World) (hn : l.cs.length = n) (hm : l.ps.length = m) (h : RdL w 0 A1 A2 l) (n9 : n ≤ 1000000) (m9 : m ≤ 1000000) :
    Calls Tryz.prog 23 #[.agg #[.slice A1 n c1, .slice A2 m c2]] w (BoolI (chkB l = true) w) := by
  have hb := (Below.refl w.heap.size w).alloc (Nat.le_refl _) (.cells #[.slice A1 n c1, .slice A2 m c2] 28)
  have HB := Lib.hid hb
  have HX := Lib.hid (Has.new w 28 #[.slice A1 n c1, .slice A2 m c2])
  have HL := Lib.hid (h.below hb)
  have HN := Lib.hid hn
  have HM := Lib.hid hm
  have HCI := Lib.hid (rchk_iff l)
  have x0 := HX.out.cell 0
  have x1 := HX.out.cell 1
  clear hb h hn hm
  generalize chkB l = Z at *
  go_enter Tryz.func23, Tryz.ntmps23
  go_upto_region 1 with fail
  have hW1 : (w.alloc (.cells #[.slice A1 n c1, .slice A2 m c2] 28)).heap.size = w.heap.size + 1 := World.size_alloc _ _
  generalize w.alloc (.cells #[.slice A1 n c1, .slice A2 m c2] 28) = W at *
  obtain ⟨B, hB⟩ : ∃ B, B = w.heap.size := ⟨_, rfl⟩
  have HFN := Lib.hid (fun (V : World) (q : Below W.heap.size W V) => HB.out.trans (q.mono HB.out.size))
  rw [← hB] at HB HX x0 x1 hW1 ⊢
  clear hB
  have HVA := Lib.hid (rvalid_any A1 A2 l n m c1 c2 W HN.out HM.out HL.out n9 m9)
  by_cases v : Vld l
  · have n66 : n ≤ 66 := by rw [← HN.out]; exact v.n66
    have n2 : 2 ≤ n := by rw [← HN.out]; exact v.n2
    have m8 : m ≤ 8 := by rw [← HM.out]; exact v.m8
    have HV := Lib.hid v
    have H1 := Lib.hid (HVA.out.mono fun e w' h => h.yes v)
    have HCH := Lib.hid (fun (V : World) (k : Below W.heap.size W V) => rchain_any A1 A2 l n m c1 c2 0 V HN.out (HL.out.below k) v)
    clear HVA v
    go_wp2_with fail
    refine (H1.out).mono ?_
    rintro e w2 ⟨rfl, hb2⟩
    obtain ⟨b, o, e, -, hbz, -, -, -, -, f4⟩ := HL.out.cell (i := 0) (by rw [HN.out]; omega)
    subst e
    obtain ⟨_, _, e, -, -, -, -, -, -, g4⟩ := HL.out.cell (i := 1) (by rw [HN.out]; omega)
    injection e with e
    injection e with e1 e2
    subst e1 e2
    rw [Nat.zero_mul, Nat.add_zero] at f4
    rw [Nat.one_mul] at g4
    replace f4 := (hb2.cell (p := ⟨b, o + 4, none⟩) hbz).trans f4
    replace g4 := (hb2.cell (p := ⟨b, o + 5 + 4, none⟩) hbz).trans g4
    have g4' : w2.cell? ⟨b, o + 9, none⟩ = some (.bool (l.at_ 1).gone) := g4
    have n0 : (0 : Int) < (n : Int) := by omega
    have n1 : (1 : Int) < (n : Int) := by omega
    have HB2 := Lib.hid hb2
    have HX2 := Lib.hid (HX.out.below hb2)
    have HCH2 := Lib.hid (HCH.out w2 hb2)
    have HG0 : Hid ((l.at_ 0).gone = true → ¬ Z = true) := Lib.hid fun q h => by have := (HCI.out.1 h).2.1; rw [q] at this; cases this
    have HG1 : Hid ((l.at_ 1).gone = true → ¬ Z = true) := Lib.hid fun q h => by have := (HCI.out.1 h).2.2.1; rw [q] at this; cases this
    have HC0 : Hid ((l.at_ 0).gone = false → (l.at_ 1).gone = false → (Z = true ↔ ∃ ch, chnV l l.cs.length 0 = some ch ∧ (∀ i, i < l.cs.length → rcOk l ch i) ∧ ((∃ i, i < l.cs.length ∧ (l.at_ i).lock ≠ 0) ∨ bckB l ch = true))) := Lib.hid fun q1 q2 => ⟨fun h => (HCI.out.1 h).2.2.2, fun h => HCI.out.2 ⟨HV.out, q1, q2, h⟩⟩
    clear hb2 hbz x0 x1 HCH HCI
    have x0 := HX2.out.cell 0
    have x1 := HX2.out.cell 1
    generalize (l.at_ 0).gone = ga at *
    generalize (l.at_ 1).gone = gb at *
    cases ga with
    | true =>
      have HNO := Lib.hid (HG0.out rfl)
      clear HG0 HG1 HC0
      go_wp2_with fail
      go_ret
      exact ⟨false, rfl, ⟨fun h => Bool.noConfusion h, fun h => (HNO.out h).elim⟩, HFN.out _ HB2.out⟩
    | false =>
    cases gb with
    | true =>
      have HNO := Lib.hid (HG1.out rfl)
      clear HG0 HG1 HC0
      go_wp2_with fail
      go_ret
      exact ⟨false, rfl, ⟨fun h => Bool.noConfusion h, fun h => (HNO.out h).elim⟩, HFN.out _ HB2.out⟩
    | false =>
    have HC1 := Lib.hid (HC0.out rfl rfl)
    clear HG0 HG1 HC0
    go_wp2_with fail
    refine (HCH2.out).mono ?_
    rintro e w3 (⟨hcn, ⟨vv, rfl⟩, hb3⟩ | ⟨ch, A3, k, c3, hcn, rfl, hk, hkn, hkc, hrd, hb3⟩)
    · have HNO : Hid (¬ Z = true) := Lib.hid fun q => by
        obtain ⟨ch, e, -⟩ := HC1.out.1 q
        rw [hcn] at e
        cases e
      have HB3 := Lib.hid (HB2.out.trans (hb3.mono HB2.out.size))
      clear hb3 x0 x1 hcn f4 g4 g4'
      go_wp2_with fail
      go_ret
      exact ⟨false, rfl, ⟨fun h => Bool.noConfusion h, fun h => (HNO.out h).elim⟩, HFN.out _ HB3.out⟩
    · have HB3 := Lib.hid (HB2.out.trans (hb3.mono HB2.out.size))
      have HX3 := Lib.hid (HX2.out.below hb3)
      have HL3 := Lib.hid (HL.out.below HB3.out)
      have HK := Lib.hid hk
      have HRD := Lib.hid (RdR.low hrd (Nat.zero_le _))
      have hkn' : k ≤ n := by rw [← HN.out]; exact hkn
      have k66 : k ≤ 66 := by omega
      have k0 : 0 < k := by
        obtain ⟨r, e⟩ := chn_head hcn
        rw [← hk, e]
        exact Nat.succ_pos _
      have HLT := Lib.hid (chn_lt HV.out (by rw [HN.out]; omega) hcn)
      have HC2 : Hid (Z = true ↔ (∀ i, i < n → rcOk l ch i) ∧ ((∃ i, i < n ∧ (l.at_ i).lock ≠ 0) ∨ bckB l ch = true)) := Lib.hid (by
        rw [HC1.out, HN.out]
        constructor
        · rintro ⟨ch', e, h⟩
          rw [HN.out] at hcn
          rw [hcn] at e
          obtain rfl := Option.some.inj e
          exact h
        · exact fun h => ⟨ch, by rw [← HN.out]; exact hcn, h⟩)
      have HFW := Lib.hid (fun (V : World) (q : Below w3.heap.size w3 V) => HFN.out V (HB3.out.trans (q.mono HB3.out.size)))
      clear hb3 x0 x1 hcn hrd hk HCH2 H1 HB2 f4 g4 g4' HX2 HC1
      go_wp2_with fail
      go_loopw [5, 6] (fun vf vi wr => ∃ (i : Nat) (fr : Bool), vi = .int .i64 (i : Int) ∧ .bool fr = vf ∧ i ≤ n ∧ Below w3.heap.size w3 wr ∧ Hid (∀ j, j < i → rcOk l ch j) ∧ Hid (fr = true ↔ ∀ j, j < i → (l.at_ j).lock = 0)) (fun _ vi _ => n - (intOf vi).toNat)
      case atStart => exact ⟨0, true, rfl, rfl, by omega, Below.refl _ _, Lib.hid fun j h => by omega, Lib.hid ⟨fun _ j h => by omega, fun _ => rfl⟩⟩
      case round =>
        obtain ⟨i, fr, rfl, rfl, hi, hB, HS, HF⟩ := hrel
        rename World => wr
        have HBR := Lib.hid hB
        have x0 := (HX3.out.below hB).cell 0
        have x1 := (HX3.out.below hB).cell 1
        by_cases hlt : i < n
        · obtain ⟨_, _, e, -, hbz, f0, f1, f2, f3, f4⟩ := HL3.out.cell (i := i) (by rw [HN.out]; exact hlt)
          injection e with e
          injection e with e1 e2
          subst e1 e2
          replace f0 := (hB.cell (p := ⟨b, o + i * 5, none⟩) hbz).trans f0
          replace f1 := (hB.cell (p := ⟨b, o + i * 5 + 1, none⟩) hbz).trans f1
          replace f2 := (hB.cell (p := ⟨b, o + i * 5 + 2, none⟩) hbz).trans f2
          replace f3 := (hB.cell (p := ⟨b, o + i * 5 + 3, none⟩) hbz).trans f3
          replace f4 := (hB.cell (p := ⟨b, o + i * 5 + 4, none⟩) hbz).trans f4
          have i0 : (0 : Int) ≤ (i : Int) := by omega
          have i1 : (i : Int) < (n : Int) := by omega
          have HRA : Hid (rcA l ch i ↔ ((l.at_ i).gone = false → i ∈ ch) ∧ ((l.at_ i).gone = true → i ∈ ch → unlB l i = true)) := Lib.hid Iff.rfl
          have HLH : Hid (∀ p, lhOk l i p ↔ ((l.at_ i).lock = (p : Int) + 1 ↔ holdB (l.pr p) i = true)) := Lib.hid fun p => Iff.rfl
          have HBA : Hid (¬ rcA l ch i → ¬ Z = true) := Lib.hid fun q h => q ((HC2.out.1 h).1 i hlt).1
          have HBL : Hid (∀ p, p < m → ¬ lhOk l i p → ¬ Z = true) := Lib.hid fun p hp q h => q (((HC2.out.1 h).1 i hlt).2 p (by rw [HM.out]; exact hp))
          have HNX : Hid (rcA l ch i → (∀ p, p < m → lhOk l i p) → ∀ j, j < i + 1 → rcOk l ch j) := Lib.hid fun h1 h2 j h3 => by
            rcases Nat.lt_or_ge j i with q | q
            · exact HS.out j q
            · obtain rfl : j = i := by omega
              exact ⟨h1, fun p hp => h2 p (by rw [← HM.out]; exact hp)⟩
          have HFT : Hid (fr = true → (l.at_ i).lock = 0 → ∀ j, j < i + 1 → (l.at_ j).lock = 0) := Lib.hid fun q1 q2 j h => by
            rcases Nat.lt_or_ge j i with q | q
            · exact HF.out.1 q1 j q
            · obtain rfl : j = i := by omega
              exact q2
          have HFX : Hid ((fr = false ∨ (l.at_ i).lock ≠ 0) → ¬ ∀ j, j < i + 1 → (l.at_ j).lock = 0) := Lib.hid fun q1 q => by
            rcases q1 with q1 | q1
            · rw [HF.out.2 fun j h => q j (by omega)] at q1; cases q1
            · exact q1 (q i (by omega))
          have HHI := Lib.hid (fun (V : World) (q : Below w3.heap.size w3 V) => rhasI_any A3 (nat2 ch) k c3 0 (i : Int) V (by rw [nat2_len]; exact HK.out) (RdR.below HRD.out q) (by unfold maxLen; omega))
          have HNM := Lib.hid (nat2_mem ch i)
          have HUL := Lib.hid (fun (V : World) (q : Below w3.heap.size w3 V) => runl_any (some ⟨b, o, none⟩) A2 l n m c1 c2 0 i V HM.out (HL3.out.below q) m9)
          generalize l.at_ i = x at *
          obtain ⟨xk, xl, xr, xo, xg⟩ := x
          simp only at f0 f1 f2 f3 f4 HRA HLH HFT HFX
          have HXN := Lib.hid (Has.new wr 66 #[.string xk, .int .i64 xl, .int .i64 xr, .int .i64 xo, .bool xg])
          have hbn := (Below.refl wr.heap.size wr).alloc (Nat.le_refl _) (.cells #[.string xk, .int .i64 xl, .int .i64 xr, .int .i64 xo, .bool xg] 66)
          have HB5 := Lib.hid (HBR.out.trans (hbn.mono HBR.out.size))
          have hsc : (wr.alloc (.cells #[.string xk, .int .i64 xl, .int .i64 xr, .int .i64 xo, .bool xg] 66)).heap.size = wr.heap.size + 1 := World.size_alloc _ _
          have HLT2 := Lib.hid hlt
          clear hbn hB HS HF hbz hlt
          go_upto_region 11 with fail
          clear f0 f1 f2 f3 f4 x0 x1
          generalize wr.alloc (.cells #[.string xk, .int .i64 xl, .int .i64 xr, .int .i64 xo, .bool xg] 66) = V at *
          obtain ⟨C, hC⟩ : ∃ C, C = wr.heap.size := ⟨_, rfl⟩
          rw [← hC] at HXN hsc ⊢
          clear hC
          have x0 := (HX3.out.below HB5.out).cell 0
          have x1 := (HX3.out.below HB5.out).cell 1
          have y3 := HXN.out.cell 3
          have y4 := HXN.out.cell 4
          by_cases hin : i ∈ ch
          · have H1 := Lib.hid ((HHI.out V HB5.out).mono fun e w' h => h.yes (HNM.out.2 hin))
            go_wp2_with fail
            refine (H1.out).mono ?_
            rintro e w' ⟨rfl, rfl⟩
            cases xg with
            | false =>
              have HRAO : Hid (rcA l ch i) := Lib.hid (HRA.out.2 ⟨fun _ => hin, fun q => Bool.noConfusion q⟩)
              have HB6 := Lib.hid (Below.refl V.heap.size V)
              have x0 := (HX3.out.below (HB5.out.trans (HB6.out.mono HB5.out.size))).cell 0
              have x1 := (HX3.out.below (HB5.out.trans (HB6.out.mono HB5.out.size))).cell 1
              go_wp2_with fail
              clear x0 x1 y3 y4
              go_loopw [9] (fun vp wq => ∃ (p : Nat), vp = .int .i64 (p : Int) ∧ p ≤ m ∧ Below V.heap.size V wq ∧ Hid (∀ j, j < p → lhOk l i j)) (fun vp _ => m - (intOf vp).toNat)
              case atStart => exact ⟨0, rfl, by omega, HB6.out, Lib.hid fun j h => by omega⟩
              case round =>
                clear HB6
                obtain ⟨p, rfl, hp, hq, HP⟩ := hrel
                rename World => wq
                have HBQ := Lib.hid hq
                have HB7 := Lib.hid (HB5.out.trans (hq.mono HB5.out.size))
                have x0 := (HX3.out.below HB7.out).cell 0
                have x1 := (HX3.out.below HB7.out).cell 1
                by_cases hlp : p < m
                · obtain ⟨b2, o2, e, -, hbz, f0, f1, f2, f3, f4, f5, f6⟩ := HL3.out.proc (i := p) (by rw [HM.out]; exact hlp)
                  subst e
                  have p0 : (0 : Int) ≤ (p : Int) := by omega
                  have p1 : (p : Int) < (m : Int) := by omega
                  have hw : IntKind.i64.wrap ((p : Int) + 1) = (p : Int) + 1 := IntWalk.i64_in _ (by omega)
                  have HLP := Lib.hid (HLH.out p)
                  have HNP : Hid (lhOk l i p → ∀ j, j < p + 1 → lhOk l i j) := Lib.hid fun h1 j h2 => by
                    rcases Nat.lt_or_ge j p with h3 | h3
                    · exact HP.out j h3
                    · obtain rfl : j = p := by omega
                      exact h1
                  have HBP := Lib.hid (HBL.out p hlp)
                  have HHO := Lib.hid (fun U => rholds_any (l.pr p) i U)
                  generalize l.pr p = y at *
                  obtain ⟨yk, yc, yp, yd, ys, yx, yr⟩ := y
                  simp only at f0 f1 f2 f3 f4 f5 f6
                  have HSS := Lib.hid (fun (U : World) (q : Below V.heap.size V U) => (have r := HB5.out.trans (q.mono HB5.out.size); ⟨(HXN.out.below q).cell 3, (HX3.out.below r).cell 1, (r.cell (p := ⟨b2, o2 + p * 7, none⟩) hbz).trans f0, (r.cell (p := ⟨b2, o2 + p * 7 + 1, none⟩) hbz).trans f1, (r.cell (p := ⟨b2, o2 + p * 7 + 2, none⟩) hbz).trans f2, (r.cell (p := ⟨b2, o2 + p * 7 + 3, none⟩) hbz).trans f3, (r.cell (p := ⟨b2, o2 + p * 7 + 4, none⟩) hbz).trans f4, (r.cell (p := ⟨b2, o2 + p * 7 + 5, none⟩) hbz).trans f5, (r.cell (p := ⟨b2, o2 + p * 7 + 6, none⟩) hbz).trans f6, q⟩ : U.cell? ⟨C, 3, none⟩ = some (.int .i64 xo) ∧ U.cell? ⟨B, 1, none⟩ = some (.slice (some ⟨b2, o2, none⟩) m c2) ∧ U.cell? ⟨b2, o2 + p * 7, none⟩ = some (.int .i64 yk) ∧ U.cell? ⟨b2, o2 + p * 7 + 1, none⟩ = some (.int .i64 yc) ∧ U.cell? ⟨b2, o2 + p * 7 + 2, none⟩ = some (.int .i64 yp) ∧ U.cell? ⟨b2, o2 + p * 7 + 3, none⟩ = some (.int .i64 yd) ∧ U.cell? ⟨b2, o2 + p * 7 + 4, none⟩ = some (.int .i64 ys) ∧ U.cell? ⟨b2, o2 + p * 7 + 5, none⟩ = some (.int .i64 yx) ∧ U.cell? ⟨b2, o2 + p * 7 + 6, none⟩ = some (.bool yr) ∧ Below V.heap.size V U))
                  have hS0 := HSS.out wq.drew hq.drew
                  have hbV : Below V.heap.size V wq.drew := hq.drew
                  clear f0 f1 f2 f3 f4 f5 f6 hq hbz
                  go_wp2_with fail
                  generalize holdB ⟨yk, yc, yp, yd, ys, yx, yr⟩ i = hh at *
                  by_cases hz : xo = (p : Int) + 1
                  · have hz1 : (xo == (p : Int) + 1) = true := by simpa using hz
                    have hz2 : decide (xo = (p : Int) + 1) = true := decide_eq_true hz
                    have HZ := Lib.hid hz
                    clear hz
                    cases hh with
                    | true =>
                      have HC5 := Lib.hid (fun U => (HHO.out U).mono fun e w' h => h.yes rfl)
                      clear HHO
                      go_region_held3 (fun U => U.cell? ⟨C, 3, none⟩ = some (.int .i64 xo) ∧ U.cell? ⟨B, 1, none⟩ = some (.slice (some ⟨b2, o2, none⟩) m c2) ∧ U.cell? ⟨b2, o2 + p * 7, none⟩ = some (.int .i64 yk) ∧ U.cell? ⟨b2, o2 + p * 7 + 1, none⟩ = some (.int .i64 yc) ∧ U.cell? ⟨b2, o2 + p * 7 + 2, none⟩ = some (.int .i64 yp) ∧ U.cell? ⟨b2, o2 + p * 7 + 3, none⟩ = some (.int .i64 yd) ∧ U.cell? ⟨b2, o2 + p * 7 + 4, none⟩ = some (.int .i64 ys) ∧ U.cell? ⟨b2, o2 + p * 7 + 5, none⟩ = some (.int .i64 yx) ∧ U.cell? ⟨b2, o2 + p * 7 + 6, none⟩ = some (.bool yr) ∧ Below V.heap.size V U) (first | with_reducible exact hS7 | with_reducible exact hS0) ((go_at_call 69; refine (HC5.out _).mono ?_; rintro e w7 ⟨rfl, hb7⟩; have hS7 := HSS.out _ (hbV.trans (hb7.mono hbV.size))))
                      have HB8 := Lib.hid hS7.2.2.2.2.2.2.2.2.2
                      clear hS7 hb7 HC5
                      have HOK := Lib.hid (HNP.out (HLP.out.2 ⟨fun _ => (by first | rfl | trivial), fun _ => HZ.out⟩))
                      go_wp2_with fail
                      exact ⟨⟨p + 1, by go_num, hlp, HB8.out, HOK⟩, by simp [intOf]; omega⟩
                    | false =>
                      have HC5 := Lib.hid (fun U => (HHO.out U).mono fun e w' h => h.no Bool.false_ne_true)
                      clear HHO
                      go_region_held3 (fun U => U.cell? ⟨C, 3, none⟩ = some (.int .i64 xo) ∧ U.cell? ⟨B, 1, none⟩ = some (.slice (some ⟨b2, o2, none⟩) m c2) ∧ U.cell? ⟨b2, o2 + p * 7, none⟩ = some (.int .i64 yk) ∧ U.cell? ⟨b2, o2 + p * 7 + 1, none⟩ = some (.int .i64 yc) ∧ U.cell? ⟨b2, o2 + p * 7 + 2, none⟩ = some (.int .i64 yp) ∧ U.cell? ⟨b2, o2 + p * 7 + 3, none⟩ = some (.int .i64 yd) ∧ U.cell? ⟨b2, o2 + p * 7 + 4, none⟩ = some (.int .i64 ys) ∧ U.cell? ⟨b2, o2 + p * 7 + 5, none⟩ = some (.int .i64 yx) ∧ U.cell? ⟨b2, o2 + p * 7 + 6, none⟩ = some (.bool yr) ∧ Below V.heap.size V U) (first | with_reducible exact hS7 | with_reducible exact hS0) ((go_at_call 69; refine (HC5.out _).mono ?_; rintro e w7 ⟨rfl, hb7⟩; have hS7 := HSS.out _ (hbV.trans (hb7.mono hbV.size))))
                      have HB8 := Lib.hid hS7.2.2.2.2.2.2.2.2.2
                      clear hS7 hb7 HC5
                      have HNO := Lib.hid (HBP.out fun q => Bool.noConfusion ((HLP.out.1 q).1 HZ.out))
                      go_wp2_with fail
                      go_ret
                      exact ⟨false, rfl, ⟨fun h => Bool.noConfusion h, fun h => (HNO.out h).elim⟩, HFW.out _ (HB5.out.trans (HB8.out.mono HB5.out.size))⟩
                  · have hz1 : (xo == (p : Int) + 1) = false := by simpa using hz
                    have hz2 : decide (xo = (p : Int) + 1) = false := decide_eq_false hz
                    have HZ := Lib.hid hz
                    clear hz
                    cases hh with
                    | true =>
                      have HC5 := Lib.hid (fun U => (HHO.out U).mono fun e w' h => h.yes rfl)
                      clear HHO
                      go_region_held3 (fun U => U.cell? ⟨C, 3, none⟩ = some (.int .i64 xo) ∧ U.cell? ⟨B, 1, none⟩ = some (.slice (some ⟨b2, o2, none⟩) m c2) ∧ U.cell? ⟨b2, o2 + p * 7, none⟩ = some (.int .i64 yk) ∧ U.cell? ⟨b2, o2 + p * 7 + 1, none⟩ = some (.int .i64 yc) ∧ U.cell? ⟨b2, o2 + p * 7 + 2, none⟩ = some (.int .i64 yp) ∧ U.cell? ⟨b2, o2 + p * 7 + 3, none⟩ = some (.int .i64 yd) ∧ U.cell? ⟨b2, o2 + p * 7 + 4, none⟩ = some (.int .i64 ys) ∧ U.cell? ⟨b2, o2 + p * 7 + 5, none⟩ = some (.int .i64 yx) ∧ U.cell? ⟨b2, o2 + p * 7 + 6, none⟩ = some (.bool yr) ∧ Below V.heap.size V U) (first | with_reducible exact hS7 | with_reducible exact hS0) ((go_at_call 69; refine (HC5.out _).mono ?_; rintro e w7 ⟨rfl, hb7⟩; have hS7 := HSS.out _ (hbV.trans (hb7.mono hbV.size))))
                      have HB8 := Lib.hid hS7.2.2.2.2.2.2.2.2.2
                      clear hS7 hb7 HC5
                      have HNO := Lib.hid (HBP.out fun q => HZ.out ((HLP.out.1 q).2 (by first | rfl | trivial)))
                      go_wp2_with fail
                      go_ret
                      exact ⟨false, rfl, ⟨fun h => Bool.noConfusion h, fun h => (HNO.out h).elim⟩, HFW.out _ (HB5.out.trans (HB8.out.mono HB5.out.size))⟩
                    | false =>
                      have HC5 := Lib.hid (fun U => (HHO.out U).mono fun e w' h => h.no Bool.false_ne_true)
                      clear HHO
                      go_region_held3 (fun U => U.cell? ⟨C, 3, none⟩ = some (.int .i64 xo) ∧ U.cell? ⟨B, 1, none⟩ = some (.slice (some ⟨b2, o2, none⟩) m c2) ∧ U.cell? ⟨b2, o2 + p * 7, none⟩ = some (.int .i64 yk) ∧ U.cell? ⟨b2, o2 + p * 7 + 1, none⟩ = some (.int .i64 yc) ∧ U.cell? ⟨b2, o2 + p * 7 + 2, none⟩ = some (.int .i64 yp) ∧ U.cell? ⟨b2, o2 + p * 7 + 3, none⟩ = some (.int .i64 yd) ∧ U.cell? ⟨b2, o2 + p * 7 + 4, none⟩ = some (.int .i64 ys) ∧ U.cell? ⟨b2, o2 + p * 7 + 5, none⟩ = some (.int .i64 yx) ∧ U.cell? ⟨b2, o2 + p * 7 + 6, none⟩ = some (.bool yr) ∧ Below V.heap.size V U) (first | with_reducible exact hS7 | with_reducible exact hS0) ((go_at_call 69; refine (HC5.out _).mono ?_; rintro e w7 ⟨rfl, hb7⟩; have hS7 := HSS.out _ (hbV.trans (hb7.mono hbV.size))))
                      have HB8 := Lib.hid hS7.2.2.2.2.2.2.2.2.2
                      clear hS7 hb7 HC5
                      have HOK := Lib.hid (HNP.out (HLP.out.2 ⟨fun q => absurd q HZ.out, fun q => Bool.noConfusion q⟩))
                      go_wp2_with fail
                      exact ⟨⟨p + 1, by go_num, hlp, HB8.out, HOK⟩, by simp [intOf]; omega⟩
                · have y3 := (HXN.out.below hq).cell 3
                  have HNW := Lib.hid (HNX.out HRAO.out fun j hj => HP.out j (by omega))
                  clear hq
                  cases fr with
                  | false =>
                    have HF2 : Hid (false = true ↔ ∀ j, j < i + 1 → (l.at_ j).lock = 0) := Lib.hid ⟨fun q => Bool.noConfusion q, fun q => absurd q (HFX.out (.inl rfl))⟩
                    clear HFX HFT
                    go_wp2_with fail
                    exact ⟨⟨i + 1, false, by go_num, rfl, HLT2.out, HB7.out, HNW, HF2⟩, by have := HLT2.out; simp [intOf]; omega⟩
                  | true =>
                    by_cases h0 : xo = 0
                    · have e0 : (xo == 0) = true := by simpa using h0
                      have e1 : decide (xo = 0) = true := decide_eq_true h0
                      have HF2 : Hid (true = true ↔ ∀ j, j < i + 1 → (l.at_ j).lock = 0) := Lib.hid ⟨fun _ => HFT.out rfl h0, fun _ => rfl⟩
                      clear HFX HFT h0
                      go_wp2_with fail
                      exact ⟨⟨i + 1, true, by go_num, rfl, HLT2.out, HB7.out, HNW, HF2⟩, by have := HLT2.out; simp [intOf]; omega⟩
                    · have e0 : (xo == 0) = false := by simpa using h0
                      have e1 : decide (xo = 0) = false := decide_eq_false h0
                      have HF2 : Hid (false = true ↔ ∀ j, j < i + 1 → (l.at_ j).lock = 0) := Lib.hid ⟨fun q => Bool.noConfusion q, fun q => absurd q (HFX.out (.inr h0))⟩
                      clear HFX HFT h0
                      go_wp2_with fail
                      exact ⟨⟨i + 1, false, by go_num, rfl, HLT2.out, HB7.out, HNW, HF2⟩, by have := HLT2.out; simp [intOf]; omega⟩
            | true =>
              by_cases hu : unlB l i = true
              · have H2 := Lib.hid ((HUL.out V HB5.out).mono fun e w' h => h.yes hu)
                go_wp2_with fail
                refine (H2.out).mono ?_
                rintro e w6 ⟨rfl, hb6⟩
                have HRAO : Hid (rcA l ch i) := Lib.hid (HRA.out.2 ⟨fun _ => hin, fun _ _ => hu⟩)
                have HB6 := Lib.hid (hb6)
                have x0 := (HX3.out.below (HB5.out.trans (HB6.out.mono HB5.out.size))).cell 0
                have x1 := (HX3.out.below (HB5.out.trans (HB6.out.mono HB5.out.size))).cell 1
                go_wp2_with fail
                clear x0 x1 y3 y4
                go_loopw [9] (fun vp wq => ∃ (p : Nat), vp = .int .i64 (p : Int) ∧ p ≤ m ∧ Below V.heap.size V wq ∧ Hid (∀ j, j < p → lhOk l i j)) (fun vp _ => m - (intOf vp).toNat)
                case atStart => exact ⟨0, rfl, by omega, HB6.out, Lib.hid fun j h => by omega⟩
                case round =>
                  clear HB6
                  obtain ⟨p, rfl, hp, hq, HP⟩ := hrel
                  rename World => wq
                  have HBQ := Lib.hid hq
                  have HB7 := Lib.hid (HB5.out.trans (hq.mono HB5.out.size))
                  have x0 := (HX3.out.below HB7.out).cell 0
                  have x1 := (HX3.out.below HB7.out).cell 1
                  by_cases hlp : p < m
                  · obtain ⟨b2, o2, e, -, hbz, f0, f1, f2, f3, f4, f5, f6⟩ := HL3.out.proc (i := p) (by rw [HM.out]; exact hlp)
                    subst e
                    have p0 : (0 : Int) ≤ (p : Int) := by omega
                    have p1 : (p : Int) < (m : Int) := by omega
                    have hw : IntKind.i64.wrap ((p : Int) + 1) = (p : Int) + 1 := IntWalk.i64_in _ (by omega)
                    have HLP := Lib.hid (HLH.out p)
                    have HNP : Hid (lhOk l i p → ∀ j, j < p + 1 → lhOk l i j) := Lib.hid fun h1 j h2 => by
                      rcases Nat.lt_or_ge j p with h3 | h3
                      · exact HP.out j h3
                      · obtain rfl : j = p := by omega
                        exact h1
                    have HBP := Lib.hid (HBL.out p hlp)
                    have HHO := Lib.hid (fun U => rholds_any (l.pr p) i U)
                    generalize l.pr p = y at *
                    obtain ⟨yk, yc, yp, yd, ys, yx, yr⟩ := y
                    simp only at f0 f1 f2 f3 f4 f5 f6
                    have HSS := Lib.hid (fun (U : World) (q : Below V.heap.size V U) => (have r := HB5.out.trans (q.mono HB5.out.size); ⟨(HXN.out.below q).cell 3, (HX3.out.below r).cell 1, (r.cell (p := ⟨b2, o2 + p * 7, none⟩) hbz).trans f0, (r.cell (p := ⟨b2, o2 + p * 7 + 1, none⟩) hbz).trans f1, (r.cell (p := ⟨b2, o2 + p * 7 + 2, none⟩) hbz).trans f2, (r.cell (p := ⟨b2, o2 + p * 7 + 3, none⟩) hbz).trans f3, (r.cell (p := ⟨b2, o2 + p * 7 + 4, none⟩) hbz).trans f4, (r.cell (p := ⟨b2, o2 + p * 7 + 5, none⟩) hbz).trans f5, (r.cell (p := ⟨b2, o2 + p * 7 + 6, none⟩) hbz).trans f6, q⟩ : U.cell? ⟨C, 3, none⟩ = some (.int .i64 xo) ∧ U.cell? ⟨B, 1, none⟩ = some (.slice (some ⟨b2, o2, none⟩) m c2) ∧ U.cell? ⟨b2, o2 + p * 7, none⟩ = some (.int .i64 yk) ∧ U.cell? ⟨b2, o2 + p * 7 + 1, none⟩ = some (.int .i64 yc) ∧ U.cell? ⟨b2, o2 + p * 7 + 2, none⟩ = some (.int .i64 yp) ∧ U.cell? ⟨b2, o2 + p * 7 + 3, none⟩ = some (.int .i64 yd) ∧ U.cell? ⟨b2, o2 + p * 7 + 4, none⟩ = some (.int .i64 ys) ∧ U.cell? ⟨b2, o2 + p * 7 + 5, none⟩ = some (.int .i64 yx) ∧ U.cell? ⟨b2, o2 + p * 7 + 6, none⟩ = some (.bool yr) ∧ Below V.heap.size V U))
                    have hS0 := HSS.out wq.drew hq.drew
                    have hbV : Below V.heap.size V wq.drew := hq.drew
                    clear f0 f1 f2 f3 f4 f5 f6 hq hbz
                    go_wp2_with fail
                    generalize holdB ⟨yk, yc, yp, yd, ys, yx, yr⟩ i = hh at *
                    by_cases hz : xo = (p : Int) + 1
                    · have hz1 : (xo == (p : Int) + 1) = true := by simpa using hz
                      have hz2 : decide (xo = (p : Int) + 1) = true := decide_eq_true hz
                      have HZ := Lib.hid hz
                      clear hz
                      cases hh with
                      | true =>
                        have HC5 := Lib.hid (fun U => (HHO.out U).mono fun e w' h => h.yes rfl)
                        clear HHO
                        go_region_held3 (fun U => U.cell? ⟨C, 3, none⟩ = some (.int .i64 xo) ∧ U.cell? ⟨B, 1, none⟩ = some (.slice (some ⟨b2, o2, none⟩) m c2) ∧ U.cell? ⟨b2, o2 + p * 7, none⟩ = some (.int .i64 yk) ∧ U.cell? ⟨b2, o2 + p * 7 + 1, none⟩ = some (.int .i64 yc) ∧ U.cell? ⟨b2, o2 + p * 7 + 2, none⟩ = some (.int .i64 yp) ∧ U.cell? ⟨b2, o2 + p * 7 + 3, none⟩ = some (.int .i64 yd) ∧ U.cell? ⟨b2, o2 + p * 7 + 4, none⟩ = some (.int .i64 ys) ∧ U.cell? ⟨b2, o2 + p * 7 + 5, none⟩ = some (.int .i64 yx) ∧ U.cell? ⟨b2, o2 + p * 7 + 6, none⟩ = some (.bool yr) ∧ Below V.heap.size V U) (first | with_reducible exact hS7 | with_reducible exact hS0) ((go_at_call 69; refine (HC5.out _).mono ?_; rintro e w7 ⟨rfl, hb7⟩; have hS7 := HSS.out _ (hbV.trans (hb7.mono hbV.size))))
                        have HB8 := Lib.hid hS7.2.2.2.2.2.2.2.2.2
                        clear hS7 hb7 HC5
                        have HOK := Lib.hid (HNP.out (HLP.out.2 ⟨fun _ => (by first | rfl | trivial), fun _ => HZ.out⟩))
                        go_wp2_with fail
                        exact ⟨⟨p + 1, by go_num, hlp, HB8.out, HOK⟩, by simp [intOf]; omega⟩
                      | false =>
                        have HC5 := Lib.hid (fun U => (HHO.out U).mono fun e w' h => h.no Bool.false_ne_true)
                        clear HHO
                        go_region_held3 (fun U => U.cell? ⟨C, 3, none⟩ = some (.int .i64 xo) ∧ U.cell? ⟨B, 1, none⟩ = some (.slice (some ⟨b2, o2, none⟩) m c2) ∧ U.cell? ⟨b2, o2 + p * 7, none⟩ = some (.int .i64 yk) ∧ U.cell? ⟨b2, o2 + p * 7 + 1, none⟩ = some (.int .i64 yc) ∧ U.cell? ⟨b2, o2 + p * 7 + 2, none⟩ = some (.int .i64 yp) ∧ U.cell? ⟨b2, o2 + p * 7 + 3, none⟩ = some (.int .i64 yd) ∧ U.cell? ⟨b2, o2 + p * 7 + 4, none⟩ = some (.int .i64 ys) ∧ U.cell? ⟨b2, o2 + p * 7 + 5, none⟩ = some (.int .i64 yx) ∧ U.cell? ⟨b2, o2 + p * 7 + 6, none⟩ = some (.bool yr) ∧ Below V.heap.size V U) (first | with_reducible exact hS7 | with_reducible exact hS0) ((go_at_call 69; refine (HC5.out _).mono ?_; rintro e w7 ⟨rfl, hb7⟩; have hS7 := HSS.out _ (hbV.trans (hb7.mono hbV.size))))
                        have HB8 := Lib.hid hS7.2.2.2.2.2.2.2.2.2
                        clear hS7 hb7 HC5
                        have HNO := Lib.hid (HBP.out fun q => Bool.noConfusion ((HLP.out.1 q).1 HZ.out))
                        go_wp2_with fail
                        go_ret
                        exact ⟨false, rfl, ⟨fun h => Bool.noConfusion h, fun h => (HNO.out h).elim⟩, HFW.out _ (HB5.out.trans (HB8.out.mono HB5.out.size))⟩
                    · have hz1 : (xo == (p : Int) + 1) = false := by simpa using hz
                      have hz2 : decide (xo = (p : Int) + 1) = false := decide_eq_false hz
                      have HZ := Lib.hid hz
                      clear hz
                      cases hh with
                      | true =>
                        have HC5 := Lib.hid (fun U => (HHO.out U).mono fun e w' h => h.yes rfl)
                        clear HHO
                        go_region_held3 (fun U => U.cell? ⟨C, 3, none⟩ = some (.int .i64 xo) ∧ U.cell? ⟨B, 1, none⟩ = some (.slice (some ⟨b2, o2, none⟩) m c2) ∧ U.cell? ⟨b2, o2 + p * 7, none⟩ = some (.int .i64 yk) ∧ U.cell? ⟨b2, o2 + p * 7 + 1, none⟩ = some (.int .i64 yc) ∧ U.cell? ⟨b2, o2 + p * 7 + 2, none⟩ = some (.int .i64 yp) ∧ U.cell? ⟨b2, o2 + p * 7 + 3, none⟩ = some (.int .i64 yd) ∧ U.cell? ⟨b2, o2 + p * 7 + 4, none⟩ = some (.int .i64 ys) ∧ U.cell? ⟨b2, o2 + p * 7 + 5, none⟩ = some (.int .i64 yx) ∧ U.cell? ⟨b2, o2 + p * 7 + 6, none⟩ = some (.bool yr) ∧ Below V.heap.size V U) (first | with_reducible exact hS7 | with_reducible exact hS0) ((go_at_call 69; refine (HC5.out _).mono ?_; rintro e w7 ⟨rfl, hb7⟩; have hS7 := HSS.out _ (hbV.trans (hb7.mono hbV.size))))
                        have HB8 := Lib.hid hS7.2.2.2.2.2.2.2.2.2
                        clear hS7 hb7 HC5
                        have HNO := Lib.hid (HBP.out fun q => HZ.out ((HLP.out.1 q).2 (by first | rfl | trivial)))
                        go_wp2_with fail
                        go_ret
                        exact ⟨false, rfl, ⟨fun h => Bool.noConfusion h, fun h => (HNO.out h).elim⟩, HFW.out _ (HB5.out.trans (HB8.out.mono HB5.out.size))⟩
                      | false =>
                        have HC5 := Lib.hid (fun U => (HHO.out U).mono fun e w' h => h.no Bool.false_ne_true)
                        clear HHO
                        go_region_held3 (fun U => U.cell? ⟨C, 3, none⟩ = some (.int .i64 xo) ∧ U.cell? ⟨B, 1, none⟩ = some (.slice (some ⟨b2, o2, none⟩) m c2) ∧ U.cell? ⟨b2, o2 + p * 7, none⟩ = some (.int .i64 yk) ∧ U.cell? ⟨b2, o2 + p * 7 + 1, none⟩ = some (.int .i64 yc) ∧ U.cell? ⟨b2, o2 + p * 7 + 2, none⟩ = some (.int .i64 yp) ∧ U.cell? ⟨b2, o2 + p * 7 + 3, none⟩ = some (.int .i64 yd) ∧ U.cell? ⟨b2, o2 + p * 7 + 4, none⟩ = some (.int .i64 ys) ∧ U.cell? ⟨b2, o2 + p * 7 + 5, none⟩ = some (.int .i64 yx) ∧ U.cell? ⟨b2, o2 + p * 7 + 6, none⟩ = some (.bool yr) ∧ Below V.heap.size V U) (first | with_reducible exact hS7 | with_reducible exact hS0) ((go_at_call 69; refine (HC5.out _).mono ?_; rintro e w7 ⟨rfl, hb7⟩; have hS7 := HSS.out _ (hbV.trans (hb7.mono hbV.size))))
                        have HB8 := Lib.hid hS7.2.2.2.2.2.2.2.2.2
                        clear hS7 hb7 HC5
                        have HOK := Lib.hid (HNP.out (HLP.out.2 ⟨fun q => absurd q HZ.out, fun q => Bool.noConfusion q⟩))
                        go_wp2_with fail
                        exact ⟨⟨p + 1, by go_num, hlp, HB8.out, HOK⟩, by simp [intOf]; omega⟩
                  · have y3 := (HXN.out.below hq).cell 3
                    have HNW := Lib.hid (HNX.out HRAO.out fun j hj => HP.out j (by omega))
                    clear hq
                    cases fr with
                    | false =>
                      have HF2 : Hid (false = true ↔ ∀ j, j < i + 1 → (l.at_ j).lock = 0) := Lib.hid ⟨fun q => Bool.noConfusion q, fun q => absurd q (HFX.out (.inl rfl))⟩
                      clear HFX HFT
                      go_wp2_with fail
                      exact ⟨⟨i + 1, false, by go_num, rfl, HLT2.out, HB7.out, HNW, HF2⟩, by have := HLT2.out; simp [intOf]; omega⟩
                    | true =>
                      by_cases h0 : xo = 0
                      · have e0 : (xo == 0) = true := by simpa using h0
                        have e1 : decide (xo = 0) = true := decide_eq_true h0
                        have HF2 : Hid (true = true ↔ ∀ j, j < i + 1 → (l.at_ j).lock = 0) := Lib.hid ⟨fun _ => HFT.out rfl h0, fun _ => rfl⟩
                        clear HFX HFT h0
                        go_wp2_with fail
                        exact ⟨⟨i + 1, true, by go_num, rfl, HLT2.out, HB7.out, HNW, HF2⟩, by have := HLT2.out; simp [intOf]; omega⟩
                      · have e0 : (xo == 0) = false := by simpa using h0
                        have e1 : decide (xo = 0) = false := decide_eq_false h0
                        have HF2 : Hid (false = true ↔ ∀ j, j < i + 1 → (l.at_ j).lock = 0) := Lib.hid ⟨fun q => Bool.noConfusion q, fun q => absurd q (HFX.out (.inr h0))⟩
                        clear HFX HFT h0
                        go_wp2_with fail
                        exact ⟨⟨i + 1, false, by go_num, rfl, HLT2.out, HB7.out, HNW, HF2⟩, by have := HLT2.out; simp [intOf]; omega⟩
              · have H2 := Lib.hid ((HUL.out V HB5.out).mono fun e w' h => h.no hu)
                have HNO := Lib.hid (HBA.out fun q => hu ((HRA.out.1 q).2 rfl hin))
                go_wp2_with fail
                refine (H2.out).mono ?_
                rintro e w6 ⟨rfl, hb6⟩
                have HB6 := Lib.hid (HB5.out.trans (hb6.mono HB5.out.size))
                go_wp2_with fail
                go_ret
                exact ⟨false, rfl, ⟨fun h => Bool.noConfusion h, fun h => (HNO.out h).elim⟩, HFW.out _ HB6.out⟩
          · have H1 := Lib.hid ((HHI.out V HB5.out).mono fun e w' h => h.no fun q => hin (HNM.out.1 q))
            go_wp2_with fail
            refine (H1.out).mono ?_
            rintro e w' ⟨rfl, rfl⟩
            cases xg with
            | false =>
              have HNO := Lib.hid (HBA.out fun q => hin ((HRA.out.1 q).1 rfl))
              go_wp2_with fail
              go_ret
              exact ⟨false, rfl, ⟨fun h => Bool.noConfusion h, fun h => (HNO.out h).elim⟩, HFW.out _ HB5.out⟩
            | true =>
              have HRAO : Hid (rcA l ch i) := Lib.hid (HRA.out.2 ⟨fun q => Bool.noConfusion q, fun _ q => absurd q hin⟩)
              have HB6 := Lib.hid (Below.refl V.heap.size V)
              have x0 := (HX3.out.below (HB5.out.trans (HB6.out.mono HB5.out.size))).cell 0
              have x1 := (HX3.out.below (HB5.out.trans (HB6.out.mono HB5.out.size))).cell 1
              go_wp2_with fail
              clear x0 x1 y3 y4
              go_loopw [9] (fun vp wq => ∃ (p : Nat), vp = .int .i64 (p : Int) ∧ p ≤ m ∧ Below V.heap.size V wq ∧ Hid (∀ j, j < p → lhOk l i j)) (fun vp _ => m - (intOf vp).toNat)
              case atStart => exact ⟨0, rfl, by omega, HB6.out, Lib.hid fun j h => by omega⟩
              case round =>
                clear HB6
                obtain ⟨p, rfl, hp, hq, HP⟩ := hrel
                rename World => wq
                have HBQ := Lib.hid hq
                have HB7 := Lib.hid (HB5.out.trans (hq.mono HB5.out.size))
                have x0 := (HX3.out.below HB7.out).cell 0
                have x1 := (HX3.out.below HB7.out).cell 1
                by_cases hlp : p < m
                · obtain ⟨b2, o2, e, -, hbz, f0, f1, f2, f3, f4, f5, f6⟩ := HL3.out.proc (i := p) (by rw [HM.out]; exact hlp)
                  subst e
                  have p0 : (0 : Int) ≤ (p : Int) := by omega
                  have p1 : (p : Int) < (m : Int) := by omega
                  have hw : IntKind.i64.wrap ((p : Int) + 1) = (p : Int) + 1 := IntWalk.i64_in _ (by omega)
                  have HLP := Lib.hid (HLH.out p)
                  have HNP : Hid (lhOk l i p → ∀ j, j < p + 1 → lhOk l i j) := Lib.hid fun h1 j h2 => by
                    rcases Nat.lt_or_ge j p with h3 | h3
                    · exact HP.out j h3
                    · obtain rfl : j = p := by omega
                      exact h1
                  have HBP := Lib.hid (HBL.out p hlp)
                  have HHO := Lib.hid (fun U => rholds_any (l.pr p) i U)
                  generalize l.pr p = y at *
                  obtain ⟨yk, yc, yp, yd, ys, yx, yr⟩ := y
                  simp only at f0 f1 f2 f3 f4 f5 f6
                  have HSS := Lib.hid (fun (U : World) (q : Below V.heap.size V U) => (have r := HB5.out.trans (q.mono HB5.out.size); ⟨(HXN.out.below q).cell 3, (HX3.out.below r).cell 1, (r.cell (p := ⟨b2, o2 + p * 7, none⟩) hbz).trans f0, (r.cell (p := ⟨b2, o2 + p * 7 + 1, none⟩) hbz).trans f1, (r.cell (p := ⟨b2, o2 + p * 7 + 2, none⟩) hbz).trans f2, (r.cell (p := ⟨b2, o2 + p * 7 + 3, none⟩) hbz).trans f3, (r.cell (p := ⟨b2, o2 + p * 7 + 4, none⟩) hbz).trans f4, (r.cell (p := ⟨b2, o2 + p * 7 + 5, none⟩) hbz).trans f5, (r.cell (p := ⟨b2, o2 + p * 7 + 6, none⟩) hbz).trans f6, q⟩ : U.cell? ⟨C, 3, none⟩ = some (.int .i64 xo) ∧ U.cell? ⟨B, 1, none⟩ = some (.slice (some ⟨b2, o2, none⟩) m c2) ∧ U.cell? ⟨b2, o2 + p * 7, none⟩ = some (.int .i64 yk) ∧ U.cell? ⟨b2, o2 + p * 7 + 1, none⟩ = some (.int .i64 yc) ∧ U.cell? ⟨b2, o2 + p * 7 + 2, none⟩ = some (.int .i64 yp) ∧ U.cell? ⟨b2, o2 + p * 7 + 3, none⟩ = some (.int .i64 yd) ∧ U.cell? ⟨b2, o2 + p * 7 + 4, none⟩ = some (.int .i64 ys) ∧ U.cell? ⟨b2, o2 + p * 7 + 5, none⟩ = some (.int .i64 yx) ∧ U.cell? ⟨b2, o2 + p * 7 + 6, none⟩ = some (.bool yr) ∧ Below V.heap.size V U))
                  have hS0 := HSS.out wq.drew hq.drew
                  have hbV : Below V.heap.size V wq.drew := hq.drew
                  clear f0 f1 f2 f3 f4 f5 f6 hq hbz
                  go_wp2_with fail
                  generalize holdB ⟨yk, yc, yp, yd, ys, yx, yr⟩ i = hh at *
                  by_cases hz : xo = (p : Int) + 1
                  · have hz1 : (xo == (p : Int) + 1) = true := by simpa using hz
                    have hz2 : decide (xo = (p : Int) + 1) = true := decide_eq_true hz
                    have HZ := Lib.hid hz
                    clear hz
                    cases hh with
                    | true =>
                      have HC5 := Lib.hid (fun U => (HHO.out U).mono fun e w' h => h.yes rfl)
                      clear HHO
                      go_region_held3 (fun U => U.cell? ⟨C, 3, none⟩ = some (.int .i64 xo) ∧ U.cell? ⟨B, 1, none⟩ = some (.slice (some ⟨b2, o2, none⟩) m c2) ∧ U.cell? ⟨b2, o2 + p * 7, none⟩ = some (.int .i64 yk) ∧ U.cell? ⟨b2, o2 + p * 7 + 1, none⟩ = some (.int .i64 yc) ∧ U.cell? ⟨b2, o2 + p * 7 + 2, none⟩ = some (.int .i64 yp) ∧ U.cell? ⟨b2, o2 + p * 7 + 3, none⟩ = some (.int .i64 yd) ∧ U.cell? ⟨b2, o2 + p * 7 + 4, none⟩ = some (.int .i64 ys) ∧ U.cell? ⟨b2, o2 + p * 7 + 5, none⟩ = some (.int .i64 yx) ∧ U.cell? ⟨b2, o2 + p * 7 + 6, none⟩ = some (.bool yr) ∧ Below V.heap.size V U) (first | with_reducible exact hS7 | with_reducible exact hS0) ((go_at_call 69; refine (HC5.out _).mono ?_; rintro e w7 ⟨rfl, hb7⟩; have hS7 := HSS.out _ (hbV.trans (hb7.mono hbV.size))))
                      have HB8 := Lib.hid hS7.2.2.2.2.2.2.2.2.2
                      clear hS7 hb7 HC5
                      have HOK := Lib.hid (HNP.out (HLP.out.2 ⟨fun _ => (by first | rfl | trivial), fun _ => HZ.out⟩))
                      go_wp2_with fail
                      exact ⟨⟨p + 1, by go_num, hlp, HB8.out, HOK⟩, by simp [intOf]; omega⟩
                    | false =>
                      have HC5 := Lib.hid (fun U => (HHO.out U).mono fun e w' h => h.no Bool.false_ne_true)
                      clear HHO
                      go_region_held3 (fun U => U.cell? ⟨C, 3, none⟩ = some (.int .i64 xo) ∧ U.cell? ⟨B, 1, none⟩ = some (.slice (some ⟨b2, o2, none⟩) m c2) ∧ U.cell? ⟨b2, o2 + p * 7, none⟩ = some (.int .i64 yk) ∧ U.cell? ⟨b2, o2 + p * 7 + 1, none⟩ = some (.int .i64 yc) ∧ U.cell? ⟨b2, o2 + p * 7 + 2, none⟩ = some (.int .i64 yp) ∧ U.cell? ⟨b2, o2 + p * 7 + 3, none⟩ = some (.int .i64 yd) ∧ U.cell? ⟨b2, o2 + p * 7 + 4, none⟩ = some (.int .i64 ys) ∧ U.cell? ⟨b2, o2 + p * 7 + 5, none⟩ = some (.int .i64 yx) ∧ U.cell? ⟨b2, o2 + p * 7 + 6, none⟩ = some (.bool yr) ∧ Below V.heap.size V U) (first | with_reducible exact hS7 | with_reducible exact hS0) ((go_at_call 69; refine (HC5.out _).mono ?_; rintro e w7 ⟨rfl, hb7⟩; have hS7 := HSS.out _ (hbV.trans (hb7.mono hbV.size))))
                      have HB8 := Lib.hid hS7.2.2.2.2.2.2.2.2.2
                      clear hS7 hb7 HC5
                      have HNO := Lib.hid (HBP.out fun q => Bool.noConfusion ((HLP.out.1 q).1 HZ.out))
                      go_wp2_with fail
                      go_ret
                      exact ⟨false, rfl, ⟨fun h => Bool.noConfusion h, fun h => (HNO.out h).elim⟩, HFW.out _ (HB5.out.trans (HB8.out.mono HB5.out.size))⟩
                  · have hz1 : (xo == (p : Int) + 1) = false := by simpa using hz
                    have hz2 : decide (xo = (p : Int) + 1) = false := decide_eq_false hz
                    have HZ := Lib.hid hz
                    clear hz
                    cases hh with
                    | true =>
                      have HC5 := Lib.hid (fun U => (HHO.out U).mono fun e w' h => h.yes rfl)
                      clear HHO
                      go_region_held3 (fun U => U.cell? ⟨C, 3, none⟩ = some (.int .i64 xo) ∧ U.cell? ⟨B, 1, none⟩ = some (.slice (some ⟨b2, o2, none⟩) m c2) ∧ U.cell? ⟨b2, o2 + p * 7, none⟩ = some (.int .i64 yk) ∧ U.cell? ⟨b2, o2 + p * 7 + 1, none⟩ = some (.int .i64 yc) ∧ U.cell? ⟨b2, o2 + p * 7 + 2, none⟩ = some (.int .i64 yp) ∧ U.cell? ⟨b2, o2 + p * 7 + 3, none⟩ = some (.int .i64 yd) ∧ U.cell? ⟨b2, o2 + p * 7 + 4, none⟩ = some (.int .i64 ys) ∧ U.cell? ⟨b2, o2 + p * 7 + 5, none⟩ = some (.int .i64 yx) ∧ U.cell? ⟨b2, o2 + p * 7 + 6, none⟩ = some (.bool yr) ∧ Below V.heap.size V U) (first | with_reducible exact hS7 | with_reducible exact hS0) ((go_at_call 69; refine (HC5.out _).mono ?_; rintro e w7 ⟨rfl, hb7⟩; have hS7 := HSS.out _ (hbV.trans (hb7.mono hbV.size))))
                      have HB8 := Lib.hid hS7.2.2.2.2.2.2.2.2.2
                      clear hS7 hb7 HC5
                      have HNO := Lib.hid (HBP.out fun q => HZ.out ((HLP.out.1 q).2 (by first | rfl | trivial)))
                      go_wp2_with fail
                      go_ret
                      exact ⟨false, rfl, ⟨fun h => Bool.noConfusion h, fun h => (HNO.out h).elim⟩, HFW.out _ (HB5.out.trans (HB8.out.mono HB5.out.size))⟩
                    | false =>
                      have HC5 := Lib.hid (fun U => (HHO.out U).mono fun e w' h => h.no Bool.false_ne_true)
                      clear HHO
                      go_region_held3 (fun U => U.cell? ⟨C, 3, none⟩ = some (.int .i64 xo) ∧ U.cell? ⟨B, 1, none⟩ = some (.slice (some ⟨b2, o2, none⟩) m c2) ∧ U.cell? ⟨b2, o2 + p * 7, none⟩ = some (.int .i64 yk) ∧ U.cell? ⟨b2, o2 + p * 7 + 1, none⟩ = some (.int .i64 yc) ∧ U.cell? ⟨b2, o2 + p * 7 + 2, none⟩ = some (.int .i64 yp) ∧ U.cell? ⟨b2, o2 + p * 7 + 3, none⟩ = some (.int .i64 yd) ∧ U.cell? ⟨b2, o2 + p * 7 + 4, none⟩ = some (.int .i64 ys) ∧ U.cell? ⟨b2, o2 + p * 7 + 5, none⟩ = some (.int .i64 yx) ∧ U.cell? ⟨b2, o2 + p * 7 + 6, none⟩ = some (.bool yr) ∧ Below V.heap.size V U) (first | with_reducible exact hS7 | with_reducible exact hS0) ((go_at_call 69; refine (HC5.out _).mono ?_; rintro e w7 ⟨rfl, hb7⟩; have hS7 := HSS.out _ (hbV.trans (hb7.mono hbV.size))))
                      have HB8 := Lib.hid hS7.2.2.2.2.2.2.2.2.2
                      clear hS7 hb7 HC5
                      have HOK := Lib.hid (HNP.out (HLP.out.2 ⟨fun q => absurd q HZ.out, fun q => Bool.noConfusion q⟩))
                      go_wp2_with fail
                      exact ⟨⟨p + 1, by go_num, hlp, HB8.out, HOK⟩, by simp [intOf]; omega⟩
                · have y3 := (HXN.out.below hq).cell 3
                  have HNW := Lib.hid (HNX.out HRAO.out fun j hj => HP.out j (by omega))
                  clear hq
                  cases fr with
                  | false =>
                    have HF2 : Hid (false = true ↔ ∀ j, j < i + 1 → (l.at_ j).lock = 0) := Lib.hid ⟨fun q => Bool.noConfusion q, fun q => absurd q (HFX.out (.inl rfl))⟩
                    clear HFX HFT
                    go_wp2_with fail
                    exact ⟨⟨i + 1, false, by go_num, rfl, HLT2.out, HB7.out, HNW, HF2⟩, by have := HLT2.out; simp [intOf]; omega⟩
                  | true =>
                    by_cases h0 : xo = 0
                    · have e0 : (xo == 0) = true := by simpa using h0
                      have e1 : decide (xo = 0) = true := decide_eq_true h0
                      have HF2 : Hid (true = true ↔ ∀ j, j < i + 1 → (l.at_ j).lock = 0) := Lib.hid ⟨fun _ => HFT.out rfl h0, fun _ => rfl⟩
                      clear HFX HFT h0
                      go_wp2_with fail
                      exact ⟨⟨i + 1, true, by go_num, rfl, HLT2.out, HB7.out, HNW, HF2⟩, by have := HLT2.out; simp [intOf]; omega⟩
                    · have e0 : (xo == 0) = false := by simpa using h0
                      have e1 : decide (xo = 0) = false := decide_eq_false h0
                      have HF2 : Hid (false = true ↔ ∀ j, j < i + 1 → (l.at_ j).lock = 0) := Lib.hid ⟨fun q => Bool.noConfusion q, fun q => absurd q (HFX.out (.inr h0))⟩
                      clear HFX HFT h0
                      go_wp2_with fail
                      exact ⟨⟨i + 1, false, by go_num, rfl, HLT2.out, HB7.out, HNW, HF2⟩, by have := HLT2.out; simp [intOf]; omega⟩
        · obtain rfl : i = n := by omega
          have HZ : Hid (Z = true ↔ (∃ j, j < i ∧ (l.at_ j).lock ≠ 0) ∨ bckB l ch = true) := Lib.hid ⟨fun h => (HC2.out.1 h).2, fun h => HC2.out.2 ⟨HS.out, h⟩⟩
          clear HC2 HS hlt hi hB
          cases fr with
          | false =>
            have HYES : Hid (Z = true) := Lib.hid (HZ.out.2 (.inl (Classical.byContradiction fun q => by
              have := HF.out.2 fun j h => Classical.byContradiction fun q2 => q ⟨j, h, q2⟩
              cases this)))
            go_wp2_with fail
            go_loopw [10] (fun vj wq => vj = .int .i64 1 ∧ wr = wq) (fun _ _ => 0)
            case atStart => exact ⟨rfl, rfl⟩
            case round =>
              obtain ⟨rfl, rfl⟩ := hrel
              go_wp2_with fail
              go_ret
              exact ⟨true, rfl, ⟨fun _ => HYES.out, fun _ => rfl⟩, HFW.out _ HBR.out⟩
          | true =>
            have HZB : Hid (Z = true ↔ ∀ t, lbOk l ch t) := Lib.hid (by
              rw [HZ.out, ← bck_iff]
              exact ⟨fun h => h.resolve_left fun ⟨j, h1, h2⟩ => h2 (HF.out.1 rfl j h1), .inr⟩)
            clear HZ HF
            go_wp2_with fail
            clear x0 x1
            go_loopw [10] (fun vj wq => ∃ t : Nat, vj = .int .i64 ((t : Int) + 1) ∧ t + 1 ≤ k ∧ Below w3.heap.size w3 wq ∧ Hid (∀ j, j < t → lbOk l ch j)) (fun vj _ => k - (intOf vj).toNat)
            case atStart => exact ⟨0, rfl, by omega, HBR.out, Lib.hid fun j h => by omega⟩
            case round =>
              clear HBR
              obtain ⟨t, rfl, ht, hq, HS⟩ := hrel
              rename World => wq
              have HBQ := Lib.hid hq
              have x0 := (HX3.out.below hq).cell 0
              have x1 := (HX3.out.below hq).cell 1
              by_cases hlt : t + 1 < k
              · have t1 : t + 1 < ch.length := by rw [HK.out]; exact hlt
                obtain ⟨y, hy⟩ : ∃ y, ch[t + 1] = y := ⟨_, rfl⟩
                obtain ⟨z, hz⟩ : ∃ z, ch[t]'(by omega) = z := ⟨_, rfl⟩
                have hyn : y < i := by rw [← HN.out, ← hy]; exact HLT.out _ (List.getElem_mem _)
                obtain ⟨b3, o3, e3, -, hb3, g1⟩ := num_at HRD.out (i := t + 1) (by rw [nat2_len]; exact t1)
                subst e3
                obtain ⟨_, _, e3, -, -, g2⟩ := num_at HRD.out (i := t) (by rw [nat2_len]; omega)
                injection e3 with e3
                injection e3 with e4 e5
                subst e4 e5
                rw [nat2_at, hy] at g1
                rw [nat2_at, hz] at g2
                obtain ⟨_, _, e, -, hbz, -, g3, -⟩ := HL3.out.cell (i := y) (by rw [HN.out]; exact hyn)
                injection e with e
                injection e with e1 e2
                subst e1 e2
                have HLBI : Hid (lbOk l ch t ↔ (l.at_ y).left = (z : Int)) := Lib.hid (by
                  unfold lbOk
                  rw [← hy, ← hz]
                  exact ⟨fun q => q t1, fun q _ => q⟩)
                have HNX : Hid (lbOk l ch t → ∀ j, j < t + 1 → lbOk l ch j) := Lib.hid fun h1 j h2 => by
                  rcases Nat.lt_or_ge j t with h3 | h3
                  · exact HS.out j h3
                  · obtain rfl : j = t := by omega
                    exact h1
                replace g1 := (hq.cell (p := ⟨b3, o3 + (t + 1), none⟩) hb3).trans g1
                replace g2 := (hq.cell (p := ⟨b3, o3 + t, none⟩) hb3).trans g2
                replace g3 := (hq.cell (p := ⟨b, o + y * 5 + 1, none⟩) hbz).trans g3
                have i0 : (0 : Int) ≤ (t : Int) + 1 := by omega
                have i1 : (t : Int) + 1 < (k : Int) := by omega
                have i2 : (0 : Int) ≤ (t : Int) := by omega
                have i3 : (t : Int) < (k : Int) := by omega
                have i4 : (0 : Int) ≤ (y : Int) := by omega
                have i5 : (y : Int) < (i : Int) := by omega
                have e3 : ((t : Int) + 1).toNat = t + 1 := by omega
                have e6 : IntKind.i64.wrap ((t : Int) + 1 - 1) = (t : Int) := by rw [Int.add_sub_cancel]; exact IntWalk.i64_in _ (by omega)
                have e7 : IntKind.i64.wrap ((t : Int) + 1 + -1) = (t : Int) := by rw [show (t : Int) + 1 + -1 = t by omega]; exact IntWalk.i64_in _ (by omega)
                have e8 : IntKind.i64.wrap (t : Int) = (t : Int) := IntWalk.i64_in _ (by omega)
                have e9 : IntKind.i64.wrap ((t : Int) + 1 + 1) = (t : Int) + 1 + 1 := IntWalk.i64_in _ (by omega)
                have HLT2 := Lib.hid hlt
                generalize (l.at_ y).left = u at *
                clear hq hb3 hbz hy hz t1 hlt ht HS hyn
                by_cases hu : u = (z : Int)
                · have e1 : (u != (z : Int)) = false := by simpa using hu
                  have HE := Lib.hid (HNX.out (HLBI.out.2 hu))
                  clear hu
                  go_wp2_with fail
                  go_quiet (fail)
                  go_wp2_with fail
                  exact ⟨⟨t + 1, by go_num, by have := HLT2.out; omega, below_drw HBQ.out _, HE⟩, by have := HLT2.out; simp [intOf]; omega⟩
                · have e1 : (u != (z : Int)) = true := by simpa using hu
                  have HNO := Lib.hid (fun q : Z = true => hu (HLBI.out.1 (HZB.out.1 q t)))
                  clear hu
                  go_wp2_with fail
                  go_quiet (fail)
                  go_wp2_with fail
                  go_ret
                  exact ⟨false, rfl, ⟨fun h => Bool.noConfusion h, fun h => (HNO.out h).elim⟩, HFW.out _ (below_drw HBQ.out _)⟩
              · have i1 : ¬ ((t : Int) + 1 < (k : Int)) := by omega
                have HYES : Hid (Z = true) := Lib.hid (HZB.out.2 fun j h => by
                  exact HS.out j (by have := HK.out; omega) h)
                clear hq
                go_wp2_with fail
                go_ret
                exact ⟨true, rfl, ⟨fun _ => HYES.out, fun _ => rfl⟩, HFW.out _ HBQ.out⟩
  · have H1 := Lib.hid (HVA.out.mono fun e w' h => h.no v)
    have HNO : Hid (¬ Z = true) := Lib.hid fun q => v (HCI.out.1 q).1
    clear HVA v
    go_wp2_with fail
    refine (H1.out).mono ?_
    rintro e w2 ⟨rfl, hb2⟩
    have HF := Lib.hid (HFN.out w2 hb2)
    clear hb2
    go_wp2_with fail
    go_ret
    exact ⟨false, rfl, ⟨fun h => Bool.noConfusion h, fun h => (HNO.out h).elim⟩, HF.out⟩
end Lk
end Go.Proofs.YtmhbloefmknikaaGreatDoor
