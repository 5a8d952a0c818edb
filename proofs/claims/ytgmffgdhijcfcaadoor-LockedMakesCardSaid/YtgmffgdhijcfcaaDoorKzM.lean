/-
  Valid, Bound and Step of package locked. Conditions: the list can be read; no list is long.
-/
import Derived.Test.YtgmffgdhijcfcaaDoorKzL
namespace Go.Proofs.YtgmffgdhijcfcaaDoor
open Go.RowKit Go.Maps
namespace Lk

theorem vk_nil : Go.Proofs.YtgmffgdhijcfcaaDoor.vk ⟨#[]⟩ = true := by decide
theorem vld_iff (l : Ls) : Vld l ↔ (2 ≤ (l.cs.length : Int) ∧ (l.cs.length : Int) ≤ 66) ∧ (1 ≤ (l.ps.length : Int) ∧ (l.ps.length : Int) ≤ 8) ∧ VclP l ∧ VprP l := by
  constructor
  · intro v
    have h1 := v.n2
    have h2 := v.n66
    have h3 := v.m1
    have h4 := v.m8
    refine ⟨⟨by omega, by omega⟩, ⟨by omega, by omega⟩, ⟨fun i hi => ⟨v.lf i hi, v.rg i hi, ?_⟩, v.e0, v.e1, fun k hk => ?_, ?_⟩, fun p hp => ⟨v.ce p hp, v.pd p hp, v.sc p hp, v.nx p hp, v.kd p hp, v.ph p hp, v.id p hp⟩⟩
    · have := v.lk i hi
      omega
    · obtain ⟨j, hj, rfl⟩ := List.mem_iff_getElem.1 hk
      rw [keysV_at]
      exact v.vk _ (by rw [keysV_size] at hj; omega)
    · rw [List.nodup_iff_pairwise_ne, List.pairwise_iff_getElem]
      intro i j hi hj hij e
      rw [keysV_at, keysV_at] at e
      rw [keysV_size] at hi hj
      have := v.df (i + 2) (by omega) (by omega) (j + 2) (by omega) (by omega) e
      omega
  · rintro ⟨⟨h1, h2⟩, ⟨h3, h4⟩, ⟨h5, h6, h7, h8, h9⟩, h10⟩
    have hk : ∀ i, 2 ≤ i → i < l.cs.length → ∃ h : i - 2 < (keysV l l.cs.length).length, (keysV l l.cs.length)[i - 2] = (l.at_ i).key := fun i h h' => by
      have h'' : i - 2 < (keysV l l.cs.length).length := by rw [keysV_size]; omega
      refine ⟨h'', ?_⟩
      rw [keysV_at, show i - 2 + 2 = i by omega]
    refine ⟨by omega, by omega, by omega, by omega, h6, h7, fun i hi => ?_, fun i hi hi' j hj hj' e => ?_, fun i hi => (h5 i hi).1, fun i hi => (h5 i hi).2.1, fun i hi => ?_, fun p hp => (h10 p hp).1, fun p hp => (h10 p hp).2.1, fun p hp => (h10 p hp).2.2.1, fun p hp => (h10 p hp).2.2.2.1, fun p hp => (h10 p hp).2.2.2.2.1, fun p hp => (h10 p hp).2.2.2.2.2.1, fun p hp => (h10 p hp).2.2.2.2.2.2⟩
    · by_cases q : i < 2
      · have : i = 0 ∨ i = 1 := by omega
        rcases this with rfl | rfl
        · rw [h6]; exact vk_nil
        · rw [h7]; exact vk_nil
      · obtain ⟨q1, q2⟩ := hk i (by omega) hi
        rw [← q2]
        exact h8 _ (List.getElem_mem q1)
    · obtain ⟨q1, q2⟩ := hk i hi hi'
      obtain ⟨q3, q4⟩ := hk j hj hj'
      rw [← q2, ← q4] at e
      have := (List.getElem_inj h9).1 e
      omega
    · have := (h5 i hi).2.2
      omega
set_option maxRecDepth 100000 in
set_option maxHeartbeats 3200000 in
theorem valid_any (A1 A2 : Option Addr) (l : Ls) (n m c1 c2 : Nat) (w : World) (hn : l.cs.length = n) (hm : l.ps.length = m) (h : RdL w 0 A1 A2 l) :
    Calls Tryd.prog 38 #[.agg #[.slice A1 n c1, .slice A2 m c2]] w (BoolI (Vld l) w) := by
  have HB0 := Lib.hid ((Below.refl w.heap.size w).alloc (Nat.le_refl _) (.cells #[.slice A1 n c1, .slice A2 m c2] 35))
  have HX0 := Lib.hid (Has.new w 35 #[.slice A1 n c1, .slice A2 m c2])
  have HL := Lib.hid (h.below ((Below.refl w.heap.size w).alloc (Nat.le_refl _) (.cells #[.slice A1 n c1, .slice A2 m c2] 35)))
  have HV : Hid (Vld l ↔ (2 ≤ (n : Int) ∧ (n : Int) ≤ 66) ∧ (1 ≤ (m : Int) ∧ (m : Int) ≤ 8) ∧ VclP l ∧ VprP l) := Lib.hid (by rw [← hn, ← hm]; exact vld_iff l)
  have HN := Lib.hid hn
  have HM := Lib.hid hm
  have x0 := HX0.out.cell 0
  have x1 := HX0.out.cell 1
  clear h hn hm
  go_enter Tryd.func38, Tryd.ntmps38
  go_upto_region 1 with fail
  generalize w.alloc (.cells #[.slice A1 n c1, .slice A2 m c2] 35) = W at *
  by_cases h1 : 2 ≤ (n : Int) ∧ (n : Int) ≤ 66
  · have H1 := Lib.hid ((isCellCount_any (n : Int) W).mono fun e w' h => h.yes h1)
    by_cases h2 : 1 ≤ (m : Int) ∧ (m : Int) ≤ 8
    · have H2 := Lib.hid ((isProcCount_any (m : Int) W).mono fun e w' h => h.yes h2)
      have HC := Lib.hid (validCells_any A1 A2 l n m c1 c2 W HN.out HM.out HL.out (by omega) (by omega) (by omega))
      have HP := Lib.hid (fun (V : World) (k : Below W.heap.size W V) => validProcs_any A1 A2 l n m c1 c2 V HN.out HM.out (HL.out.below k) (by omega))
      have HXB := Lib.hid (fun (V : World) (k : Below W.heap.size W V) => HX0.out.below k)
      by_cases h3 : VclP l
      · have H3 := Lib.hid (HC.out.mono fun e w' h => h.yes h3)
        have HV2 : Hid (Vld l ↔ VprP l) := Lib.hid ⟨fun q => (HV.out.1 q).2.2.2, fun q => HV.out.2 ⟨h1, h2, h3, q⟩⟩
        clear h1 h2 h3 HC
        go_wp2_with (first | (go_at_call 60; with_reducible refine (H1.out).mono ?_; rintro e w' ⟨rfl, rfl⟩) | (go_at_call 32; with_reducible refine (H2.out).mono ?_; rintro e w' ⟨rfl, rfl⟩) | (go_at_call 61; with_reducible refine (H3.out).mono ?_; rintro e w5 ⟨rfl, hb5⟩; have y0 := (HXB.out w5 hb5).cell 0; have y1 := (HXB.out w5 hb5).cell 1))
        refine ((HP.out w5 hb5)).mono ?_
        rintro e w6 ⟨b, rfl, hb, hb6⟩
        have HBB := Lib.hid hb
        have HB6 := Lib.hid (hb5.trans (hb6.mono hb5.size))
        clear hb hb5 hb6 y0 y1
        go_wp2_with fail
        go_ret
        exact ⟨b, rfl, HBB.out.trans HV2.out.symm, HB0.out.trans (HB6.out.mono HB0.out.size)⟩
      · have H3 := Lib.hid (HC.out.mono fun e w' h => h.no h3)
        have HV2 := Lib.hid (fun q => h3 (HV.out.1 q).2.2.1)
        clear h1 h2 h3 HC
        go_wp2_with (first | (go_at_call 60; with_reducible refine (H1.out).mono ?_; rintro e w' ⟨rfl, rfl⟩) | (go_at_call 32; with_reducible refine (H2.out).mono ?_; rintro e w' ⟨rfl, rfl⟩))
        refine (H3.out).mono ?_
        rintro e w5 ⟨rfl, hb5⟩
        have HB5 := Lib.hid hb5
        clear hb5
        go_wp2_with fail
        go_ret
        exact ⟨false, rfl, ⟨fun q => Bool.noConfusion q, fun q => (HV2.out q).elim⟩, HB0.out.trans (HB5.out.mono HB0.out.size)⟩
    · have H2 := Lib.hid ((isProcCount_any (m : Int) W).mono fun e w' h => h.no h2)
      have HV2 := Lib.hid (fun q => h2 (HV.out.1 q).2.1)
      clear h1 h2
      go_wp2_with (first | (go_at_call 60; with_reducible refine (H1.out).mono ?_; rintro e w' ⟨rfl, rfl⟩) | (go_at_call 32; with_reducible refine (H2.out).mono ?_; rintro e w' ⟨rfl, rfl⟩))
      go_ret
      exact ⟨false, rfl, ⟨fun q => Bool.noConfusion q, fun q => (HV2.out q).elim⟩, HB0.out⟩
  · have H1 := Lib.hid ((isCellCount_any (n : Int) W).mono fun e w' h => h.no h1)
    have HV2 := Lib.hid (fun q => h1 (HV.out.1 q).1)
    clear h1
    go_wp2_with (go_at_call 60; with_reducible refine (H1.out).mono ?_; rintro e w' ⟨rfl, rfl⟩)
    go_ret
    exact ⟨false, rfl, ⟨fun q => Bool.noConfusion q, fun q => (HV2.out q).elim⟩, HB0.out⟩
end Lk
end Go.Proofs.YtgmffgdhijcfcaaDoor
