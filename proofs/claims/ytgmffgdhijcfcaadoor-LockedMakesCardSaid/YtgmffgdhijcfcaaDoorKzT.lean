/-
  membersLinked and linkedBack of package locked. Conditions: the list can be read; no list is long.
-/
import Derived.Test.YtgmffgdhijcfcaaDoorKzS
namespace Go.Proofs.YtgmffgdhijcfcaaDoor
open Go.RowKit Go.Maps
namespace Lk

theorem unlB_iff (l : Ls) (i : Nat) : (∃ x ∈ l.ps, x.cell = (i : Int) ∧ x.phase = 11) ↔ unlB l i = true := by
  unfold unlB
  rw [List.any_eq_true]
  constructor
  · rintro ⟨x, hx, h1, h2⟩
    exact ⟨x, hx, by simp [h1, h2]⟩
  · rintro ⟨x, hx, h⟩
    simp only [Bool.and_eq_true, decide_eq_true_eq] at h
    exact ⟨x, hx, h.2, h.1⟩
def mlOk (l : Ls) (ch : List Nat) (i : Nat) : Prop := (i < 2 → (l.at_ i).gone = false) ∧ (2 ≤ i → (l.at_ i).gone = true → i ∈ ch → unlB l i = true) ∧ (2 ≤ i → (l.at_ i).gone = false → i ∈ ch)
set_option maxRecDepth 100000 in
set_option maxHeartbeats 6400000 in
theorem membersLinked_any (A1 A2 A3 : Option Addr) (l : Ls) (ch : List Nat) (n m k c1 c2 c3 : Nat) (w : World) (hn : l.cs.length = n) (hm : l.ps.length = m) (hk : ch.length = k) (h : RdL w 0 A1 A2 l) (hc : RdR nrow 1 w 0 A3 (nat2 ch)) (n66 : n ≤ 66) (m8 : m ≤ 8) (k66 : k ≤ 66) :
    Calls Tryd.prog 40 #[.agg #[.slice A1 n c1, .slice A2 m c2], .slice A3 k c3] w (BoolI (∀ i, i < l.cs.length → mlOk l ch i) w) := by
  have HB0 := Lib.hid ((Below.refl w.heap.size w).alloc (Nat.le_refl _) (.cells #[.slice A1 n c1, .slice A2 m c2] 35))
  have HX0 := Lib.hid (Has.new w 35 #[.slice A1 n c1, .slice A2 m c2])
  have HN := Lib.hid hn
  have HM := Lib.hid hm
  have HK := Lib.hid (show (nat2 ch).length = k by rw [nat2_len]; exact hk)
  have HL := Lib.hid h
  have HC := Lib.hid hc
  obtain ⟨B, hB⟩ : ∃ B, B = w.heap.size := ⟨_, rfl⟩
  have HBB := Lib.hid hB
  have HSZ : Hid ((w.alloc (.cells #[.slice A1 n c1, .slice A2 m c2] 35)).heap.size = B + 1) := Lib.hid (by rw [World.size_alloc, hB])
  have x0 := HX0.out.cell 0
  have x1 := HX0.out.cell 1
  rw [← hB] at HB0 HX0 x0 x1
  clear h hn hm hc hk
  go_enter Tryd.func40, Tryd.ntmps40
  go_upto_region 1 with fail
  rw [← hB]
  generalize w.alloc (.cells #[.slice A1 n c1, .slice A2 m c2] 35) = W0 at *
  clear hB
  go_wp2_with fail
  go_loopw [10] (fun vi wr => ∃ (i : Nat), vi = .int .i64 (i : Int) ∧ i ≤ n ∧ Has wr B 35 #[.slice A1 n c1, .slice A2 m c2] ∧ Below B w wr ∧ B + 1 ≤ wr.heap.size ∧ Hid (∀ j, j < i → mlOk l ch j)) (fun vi _ => n - (intOf vi).toNat)
  case atStart => exact ⟨0, rfl, by omega, HX0.out, HB0.out, by rw [HSZ.out]; omega, Lib.hid fun j h => by omega⟩
  case round =>
    obtain ⟨i, rfl, hi, hX, hB, hSz, HS⟩ := hrel
    clear HB0 HX0 HSZ x0 x1
    have HX := Lib.hid hX
    have HB := Lib.hid hB
    have x0 := hX.cell 0
    have x1 := hX.cell 1
    clear hX
    by_cases hlt : i < n
    · have i2 : i < l.cs.length := by rw [HN.out]; exact hlt
      obtain ⟨b, o, e, -, hb, f0, f1, f2, f3, f4⟩ := HL.out.cell i2
      subst e
      rw [← HBB.out] at hb
      replace f0 := (hB.cell (p := ⟨b, o + i * 5, none⟩) hb).trans f0
      replace f1 := (hB.cell (p := ⟨b, o + i * 5 + 1, none⟩) hb).trans f1
      replace f2 := (hB.cell (p := ⟨b, o + i * 5 + 2, none⟩) hb).trans f2
      replace f3 := (hB.cell (p := ⟨b, o + i * 5 + 3, none⟩) hb).trans f3
      replace f4 := (hB.cell (p := ⟨b, o + i * 5 + 4, none⟩) hb).trans f4
      have i0 : (0 : Int) ≤ (i : Int) := by omega
      have i1 : (i : Int) < (n : Int) := by omega
      have HMO : Hid (mlOk l ch i ↔ (i < 2 → (l.at_ i).gone = false) ∧ (2 ≤ i → (l.at_ i).gone = true → i ∈ ch → unlB l i = true) ∧ (2 ≤ i → (l.at_ i).gone = false → i ∈ ch)) := Lib.hid Iff.rfl
      have HBAD : Hid (¬ mlOk l ch i → ¬ ∀ i, i < l.cs.length → mlOk l ch i) := Lib.hid fun h1 h2 => h1 (h2 i i2)
      have HNX : Hid (mlOk l ch i → ∀ j, j < i + 1 → mlOk l ch j) := Lib.hid fun h1 j h2 => by
        rcases Nat.lt_or_ge j i with h3 | h3
        · exact HS.out j h3
        · obtain rfl : j = i := by omega
          exact h1
      generalize l.at_ i = x at *
      obtain ⟨xk, xl, xr, xo, xg⟩ := x
      simp only at f0 f1 f2 f3 f4 HMO
      have HXN := Lib.hid (Has.new wr 58 #[.string xk, .int .i64 xl, .int .i64 xr, .int .i64 xo, .bool xg])
      have hbn := (Below.refl wr.heap.size wr).alloc (Nat.le_refl _) (.cells #[.string xk, .int .i64 xl, .int .i64 xr, .int .i64 xo, .bool xg] 58)
      have HX2 := Lib.hid (HX.out.below hbn)
      have HB2 := Lib.hid (HB.out.trans (hbn.mono (by omega)))
      have hS2 : B + 1 ≤ (wr.alloc (.cells #[.string xk, .int .i64 xl, .int .i64 xr, .int .i64 xo, .bool xg] 58)).heap.size := by rw [World.size_alloc]; omega
      clear hbn HX HB hB HS i2 hb
      go_upto_region 4 with fail
      clear f0 f1 f2 f3 f4 x0 x1
      generalize wr.alloc (.cells #[.string xk, .int .i64 xl, .int .i64 xr, .int .i64 xo, .bool xg] 58) = W at *
      have x0 := HX2.out.cell 0
      have x1 := HX2.out.cell 1
      have y4 := HXN.out.cell 4
      by_cases hi2 : i < 2
      · have hid : (i : Int) < 2 := by omega
        cases xg with
        | true =>
          have HBB2 := Lib.hid (HBAD.out fun q => by have := (HMO.out.1 q).1 hi2; simp at this)
          clear HMO HBAD HNX
          go_wp2_with fail
          go_ret
          exact ⟨false, rfl, ⟨fun h => Bool.noConfusion h, fun h => (HBB2.out h).elim⟩, by rw [← HBB.out]; exact HB2.out⟩
        | false =>
          have HOK := Lib.hid (HNX.out (HMO.out.2 ⟨fun _ => rfl, fun q => by omega, fun q => by omega⟩))
          clear HMO HBAD HNX
          go_wp2_with fail
          exact ⟨⟨i + 1, by go_num, hlt, HX2.out, HB2.out, hS2, HOK⟩, by simp [intOf]; omega⟩
      · have hid : ¬ ((i : Int) < 2) := by omega
        have HCT := Lib.hid (contains_any A3 (nat2 ch) k c3 0 (i : Int) W HK.out (RdR.below HC.out (by rw [← HBB.out]; exact HB2.out)) (by unfold maxLen; omega))
        cases xg with
        | true =>
          by_cases hin : i ∈ ch
          · have H1 := Lib.hid (HCT.out.mono fun e w' h => h.yes ((nat2_mem ch i).2 hin))
            have HCU := Lib.hid (isCutOut_any A2 l.ps m c2 i W HM.out (RdR.below HL.out.ps (by rw [← HBB.out]; exact HB2.out)) (by unfold maxLen; omega))
            cases hu : unlB l i with
            | true =>
              have H2 := Lib.hid (HCU.out.mono fun e w' h => h.yes ((unlB_iff l i).2 hu))
              have HOK := Lib.hid (HNX.out (HMO.out.2 ⟨fun q => absurd q hi2, fun _ _ _ => hu, fun _ q => Bool.noConfusion q⟩))
              clear HMO HBAD HNX HCT HCU hu hin
              go_wp2_with (go_at_call 63; with_reducible refine (H1.out).mono ?_; rintro e w' ⟨rfl, rfl⟩)
              refine (H2.out).mono ?_
              rintro e w5 ⟨rfl, hb5⟩
              have HX5 := Lib.hid (HX2.out.below hb5)
              have HB5 := Lib.hid (HB2.out.trans (hb5.mono (by omega)))
              have hS5 : B + 1 ≤ w5.heap.size := Nat.le_trans hS2 hb5.size
              clear hb5
              go_wp2_with fail
              exact ⟨⟨i + 1, by go_num, hlt, HX5.out, HB5.out, hS5, HOK⟩, by simp [intOf]; omega⟩
            | false =>
              have H2 := Lib.hid (HCU.out.mono fun e w' h => h.no (fun q => by rw [(unlB_iff l i).1 q] at hu; cases hu))
              have HBB2 := Lib.hid (HBAD.out fun q => by have := (HMO.out.1 q).2.1 (by omega) rfl hin; rw [hu] at this; cases this)
              clear HMO HBAD HNX HCT HCU hu hin
              go_wp2_with (go_at_call 63; with_reducible refine (H1.out).mono ?_; rintro e w' ⟨rfl, rfl⟩)
              refine (H2.out).mono ?_
              rintro e w5 ⟨rfl, hb5⟩
              have HB5 := Lib.hid (HB2.out.trans (hb5.mono (by omega)))
              clear hb5
              go_wp2_with fail
              go_ret
              exact ⟨false, rfl, ⟨fun h => Bool.noConfusion h, fun h => (HBB2.out h).elim⟩, by rw [← HBB.out]; exact HB5.out⟩
          · have H1 := Lib.hid (HCT.out.mono fun e w' h => h.no (fun q => hin ((nat2_mem ch i).1 q)))
            have HOK := Lib.hid (HNX.out (HMO.out.2 ⟨fun q => absurd q hi2, fun _ _ q => absurd q hin, fun _ q => Bool.noConfusion q⟩))
            clear HMO HBAD HNX HCT hin
            go_wp2_with (go_at_call 63; with_reducible refine (H1.out).mono ?_; rintro e w' ⟨rfl, rfl⟩)
            exact ⟨⟨i + 1, by go_num, hlt, HX2.out, HB2.out, hS2, HOK⟩, by simp [intOf]; omega⟩
        | false =>
          by_cases hin : i ∈ ch
          · have H1 := Lib.hid (HCT.out.mono fun e w' h => h.yes ((nat2_mem ch i).2 hin))
            have HOK := Lib.hid (HNX.out (HMO.out.2 ⟨fun q => absurd q hi2, fun _ q => Bool.noConfusion q, fun _ _ => hin⟩))
            clear HMO HBAD HNX HCT hin
            go_wp2_with (go_at_call 63; with_reducible refine (H1.out).mono ?_; rintro e w' ⟨rfl, rfl⟩)
            exact ⟨⟨i + 1, by go_num, hlt, HX2.out, HB2.out, hS2, HOK⟩, by simp [intOf]; omega⟩
          · have H1 := Lib.hid (HCT.out.mono fun e w' h => h.no (fun q => hin ((nat2_mem ch i).1 q)))
            have HBB2 := Lib.hid (HBAD.out fun q => hin ((HMO.out.1 q).2.2 (by omega) rfl))
            clear HMO HBAD HNX HCT hin
            go_wp2_with (go_at_call 63; with_reducible refine (H1.out).mono ?_; rintro e w' ⟨rfl, rfl⟩)
            go_ret
            exact ⟨false, rfl, ⟨fun h => Bool.noConfusion h, fun h => (HBB2.out h).elim⟩, by rw [← HBB.out]; exact HB2.out⟩
    · have HS2 := Lib.hid (show ∀ j, j < l.cs.length → mlOk l ch j from fun j hj => HS.out j (by have := HN.out; omega))
      clear hB
      go_wp2_with fail
      go_ret
      exact ⟨true, rfl, ⟨fun _ => HS2.out, fun _ => rfl⟩, by rw [← HBB.out]; exact HB.out⟩
/-- Left leads back through the chain. -/
def lbOk (l : Ls) (ch : List Nat) (i : Nat) : Prop := ∀ (h : i + 1 < ch.length), (l.at_ ch[i + 1]).left = ((ch[i]'(by omega) : Nat) : Int)
theorem bck_iff (l : Ls) : ∀ ch : List Nat, bckB l ch = true ↔ ∀ i, lbOk l ch i
  | [] => ⟨fun _ i h => by simp at h, fun _ => rfl⟩
  | [a] => ⟨fun _ i h => by simp at h, fun _ => rfl⟩
  | a :: b :: r => by
    unfold bckB
    rw [Bool.and_eq_true, decide_eq_true_eq, bck_iff l (b :: r)]
    constructor
    · rintro ⟨h1, h2⟩ i hi
      cases i with
      | zero => exact h1
      | succ i => exact h2 i (by simpa using hi)
    · intro h
      exact ⟨h 0 (by simp), fun i hi => h (i + 1) (by simpa using hi)⟩
set_option maxRecDepth 100000 in
set_option maxHeartbeats 3200000 in
theorem linkedBack_any (A1 A3 : Option Addr) (l : Ls) (ch : List Nat) (n k c1 c3 : Nat) (w : World) (hn : l.cs.length = n) (hk : ch.length = k) (h : Ces w 0 A1 l.cs) (hc : RdR nrow 1 w 0 A3 (nat2 ch)) (k0 : 0 < k) (k66 : k ≤ 66) (hkc : k ≤ c3) (hlt : ∀ i ∈ ch, i < n) :
    Calls Tryd.prog 43 #[.slice A1 n c1, .slice A3 k c3] w (BoolI (bckB l ch = true) w) := by
  have HN := Lib.hid hn
  have HK := Lib.hid hk
  have HL := Lib.hid h
  have HC := Lib.hid hc
  have HLT := Lib.hid hlt
  have HBI := Lib.hid (bck_iff l ch)
  obtain ⟨b3, o3, e3, -, hb3, -⟩ := num_at hc (i := 0) (by rw [nat2_len, hk]; exact k0)
  subst e3
  have k1 : (1 : Int) ≤ (k : Int) := by omega
  have k2 : (k : Int) ≤ (c3 : Int) := by omega
  have k3 : (1 : Int) ≤ (c3 : Int) := by omega
  generalize bckB l ch = Z at *
  clear h hn hc hk hlt
  by_cases hc1 : c3 = 1
  · have hc1i : (c3 : Int) = 1 := by omega
    have hkk : k = 1 := by omega
    have HZ : Hid (Z = true) := Lib.hid (HBI.out.2 fun i h => by have := HK.out; omega)
    subst hkk
    subst hc1
    clear HBI
    go_enter Tryd.func43, Tryd.ntmps43
    go_wp2_with fail
    go_loopw [10] (fun vi wr => vi = .int .i64 0 ∧ w = wr) (fun _ _ => 0)
    case atStart => exact ⟨rfl, rfl⟩
    case round =>
      obtain ⟨rfl, rfl⟩ := hrel
      go_wp2_with fail
      go_ret
      exact ⟨true, rfl, ⟨fun _ => HZ.out, fun _ => rfl⟩, Below.refl _ _⟩
  · have hc1i : ¬ (c3 : Int) = 1 := by omega
    go_enter Tryd.func43, Tryd.ntmps43
    go_wp2_with fail
    obtain ⟨q, hq⟩ : ∃ q, q = k - 1 := ⟨_, rfl⟩
    rw [← hq]
    have HQ := Lib.hid (show k = q + 1 by omega)
    clear hq
    go_loopw [10] (fun vi wr => ∃ i : Nat, vi = .int .i64 (i : Int) ∧ i ≤ q ∧ Below w.heap.size w wr ∧ Hid (∀ j, j < i → lbOk l ch j)) (fun vi _ => q - (intOf vi).toNat)
    case atStart => exact ⟨0, rfl, by omega, Below.refl _ _, Lib.hid fun j h => by omega⟩
    case round =>
      obtain ⟨i, rfl, hi, hB, HS⟩ := hrel
      by_cases hlt : i < q
      · have i2 : i < (nat2 ch).length := by rw [nat2_len, HK.out, HQ.out]; omega
        have i3 : i + 1 < (nat2 ch).length := by rw [nat2_len, HK.out, HQ.out]; omega
        obtain ⟨_, _, e, -, -, f0⟩ := num_at HC.out i2
        injection e with e
        injection e with e1 e2
        subst e1 e2
        obtain ⟨_, _, e, -, -, f1⟩ := num_at HC.out i3
        injection e with e
        injection e with e1 e2
        subst e1 e2
        have i4 : i + 1 < ch.length := by rw [nat2_len] at i3; exact i3
        rw [nat2_at] at f0 f1
        have hin := HLT.out _ (List.getElem_mem i4)
        obtain ⟨b1, o1, eA, -, hb1, -, g1, -⟩ := Ces.at_ HL.out (i := ch[i + 1]) (by rw [HN.out]; exact hin)
        subst eA
        rw [l.at_lt] at g1
        have HLB : Hid (lbOk l ch i ↔ (l.at_ ch[i + 1]).left = ((ch[i]'(by omega) : Nat) : Int)) := Lib.hid ⟨fun h => h i4, fun h _ => h⟩
        have HBAD : Hid (¬ lbOk l ch i → ¬ Z = true) := Lib.hid fun h1 h2 => h1 (HBI.out.1 h2 i)
        have HNX : Hid (lbOk l ch i → ∀ j, j < i + 1 → lbOk l ch j) := Lib.hid fun h1 j h2 => by
          rcases Nat.lt_or_ge j i with h3 | h3
          · exact HS.out j h3
          · obtain rfl : j = i := by omega
            exact h1
        generalize ch[i + 1] = x at *
        generalize ch[i] = y at *
        generalize (l.at_ x).left = z at *
        replace f0 := (hB.cell (p := ⟨b3, o3 + i, none⟩) hb3).trans f0
        replace f1 := (hB.cell (p := ⟨b3, o3 + (i + 1), none⟩) hb3).trans f1
        replace g1 := (hB.cell (p := ⟨b1, o1 + x * 5 + 1, none⟩) hb1).trans g1
        rw [show o3 + (i + 1) = o3 + 1 + i by omega] at f1
        have i0 : (0 : Int) ≤ (i : Int) := by omega
        have i1 : (i : Int) < (q : Int) := by omega
        have i5 : (i : Int) < (k : Int) := by have := HQ.out; omega
        have x0 : (0 : Int) ≤ (x : Int) := by omega
        have x1 : (x : Int) < (n : Int) := by omega
        have HB := Lib.hid hB
        clear hB i2 i3 i4 hin HS hb1
        go_upto_region 4 with fail
        go_quiet (fail)
        have HB2 := Lib.hid (below_drw HB.out nq)
        clear f0 f1 g1
        generalize wr.drewN nq = W at *
        by_cases hz : z = (y : Int)
        · have hzb : (z != (y : Int)) = false := by simp [hz]
          have HOK := Lib.hid (HNX.out (HLB.out.2 hz))
          clear hz HNX HLB HBAD
          go_wp2_with fail
          exact ⟨⟨i + 1, by go_num, hlt, HB2.out, HOK⟩, by simp [intOf]; omega⟩
        · have hzb : (z != (y : Int)) = true := by simpa using hz
          have HNO := Lib.hid (HBAD.out fun q => hz (HLB.out.1 q))
          clear hz HNX HLB HBAD
          go_wp2_with fail
          go_ret
          exact ⟨false, rfl, ⟨fun h => Bool.noConfusion h, fun h => (HNO.out h).elim⟩, HB2.out⟩
      · have HZ : Hid (Z = true) := Lib.hid (HBI.out.2 fun j h => HS.out j (by have := HK.out; have := HQ.out; omega) h)
        have HB := Lib.hid hB
        clear hB HBI
        go_wp2_with fail
        go_ret
        exact ⟨true, rfl, ⟨fun _ => HZ.out, fun _ => rfl⟩, HB.out⟩
end Lk
end Go.Proofs.YtgmffgdhijcfcaaDoor
