/-
  Valid of package locked. Conditions: the list can be read; no list is long.
-/
import Derived.Test.YtgmffgdhijcfcaaDoorKzJ
namespace Go.Proofs.YtgmffgdhijcfcaaDoor
open Go.RowKit Go.Maps
namespace Lk

theorem own_sh {α : Type} {enc : α → List Value} {k : Nat} {e : TypeId} {w : World} {base : Nat} {v : Value} {l : List α} (h : OwnR enc k e w base v l) : ∃ A n c, v = .slice A n c := by
  obtain ⟨A, c, e⟩ := h.shape
  exact ⟨A, _, c, e⟩
def celOk (l : Ls) (i : Nat) : Prop := (0 ≤ (l.at_ i).left ∧ (l.at_ i).left < (l.cs.length : Int)) ∧ (0 ≤ (l.at_ i).right ∧ (l.at_ i).right < (l.cs.length : Int)) ∧ (0 ≤ (l.at_ i).lock ∧ (l.at_ i).lock < (l.ps.length : Int) + 1)
def keysV (l : Ls) (i : Nat) : List ByteArray := ((l.cs.take i).drop 2).map Ce.key
theorem keysV_lo (l : Ls) {i : Nat} (h : i < 2) (hn : i < l.cs.length) : keysV l (i + 1) = keysV l i := by
  unfold keysV
  rw [List.drop_eq_nil_of_le (by rw [List.length_take]; omega), List.drop_eq_nil_of_le (by rw [List.length_take]; omega)]
theorem keysV_hi (l : Ls) {i : Nat} (h : 2 ≤ i) (hn : i < l.cs.length) : keysV l (i + 1) = keysV l i ++ [(l.at_ i).key] := by
  unfold keysV
  rw [List.take_succ_eq_append_getElem hn, List.drop_append_of_le_length (by rw [List.length_take]; omega), List.map_append, l.at_lt hn]
  rfl
theorem keysV_len (l : Ls) (i : Nat) : (keysV l i).length ≤ i := by
  unfold keysV
  rw [List.length_map, List.length_drop, List.length_take]
  omega
theorem keysV_at (l : Ls) {i : Nat} (h : i < (keysV l l.cs.length).length) : (keysV l l.cs.length)[i] = (l.at_ (i + 2)).key := by
  have h2 : i + 2 < l.cs.length := by
    unfold keysV at h
    rw [List.length_map, List.length_drop, List.length_take] at h
    omega
  rw [← l.at_lt h2]
  simp [keysV]
  congr 1
  congr 1
  omega
theorem keysV_size (l : Ls) : (keysV l l.cs.length).length = l.cs.length - 2 := by
  unfold keysV
  rw [List.length_map, List.length_drop, List.length_take]
  omega
theorem ne_empty {k : ByteArray} (q : k ≠ ⟨#[]⟩) : k.toList.isEmpty = false ∧ (k.toList == []) = false := by
  have : k.toList ≠ [] := fun q2 => q (toList_inj (by rw [q2, toList_data]))
  exact ⟨by cases e : k.toList with | nil => exact absurd e this | cons a t => rfl, by simpa using this⟩
/-- What validCells asks. -/
def VclP (l : Ls) : Prop := (∀ i, i < l.cs.length → celOk l i) ∧ (l.at_ 0).key = ⟨#[]⟩ ∧ (l.at_ 1).key = ⟨#[]⟩ ∧ (∀ k ∈ keysV l l.cs.length, vk k = true) ∧ (keysV l l.cs.length).Nodup
set_option maxRecDepth 100000 in
set_option maxHeartbeats 6400000 in
theorem validCells_any (A1 A2 : Option Addr) (l : Ls) (n m c1 c2 : Nat) (w : World) (hn : l.cs.length = n) (hm : l.ps.length = m) (h : RdL w 0 A1 A2 l) (n2 : 2 ≤ n) (n66 : n ≤ 66) (m8 : m ≤ 1000) :
    Calls Tryd.prog 61 #[.agg #[.slice A1 n c1, .slice A2 m c2]] w (BoolI (VclP l) w) := by
  have HB0 := Lib.hid ((Below.refl w.heap.size w).alloc (Nat.le_refl _) (.cells #[.slice A1 n c1, .slice A2 m c2] 35))
  have HX0 := Lib.hid (Has.new w 35 #[.slice A1 n c1, .slice A2 m c2])
  have HN := Lib.hid hn
  have HM := Lib.hid hm
  have HL := Lib.hid h
  have hw : IntKind.i64.wrap ((m : Int) + 1) = (m : Int) + 1 := IntWalk.i64_in _ (by omega)
  obtain ⟨B, hB⟩ : ∃ B, B = w.heap.size := ⟨_, rfl⟩
  have HBB := Lib.hid hB
  have HSZ : Hid ((w.alloc (.cells #[.slice A1 n c1, .slice A2 m c2] 35)).heap.size = B + 1) := Lib.hid (by rw [World.size_alloc, hB])
  have x0 := HX0.out.cell 0
  have x1 := HX0.out.cell 1
  rw [← hB] at HB0 HX0 x0 x1
  clear h hn hm
  go_enter Tryd.func61, Tryd.ntmps61
  go_upto_region 1 with fail
  rw [← hB]
  generalize w.alloc (.cells #[.slice A1 n c1, .slice A2 m c2] 35) = W0 at *
  clear hB
  go_wp2_with fail
  go_loopw [3, 9] (fun vk' vi wr => ∃ (i : Nat) (v1 : Value), vi = .int .i64 (i : Int) ∧ v1 = vk' ∧ i ≤ n ∧ OwnR trow 1 9 wr (B + 1) v1 (keysV l i) ∧ Has wr B 35 #[.slice A1 n c1, .slice A2 m c2] ∧ Below B w wr ∧ B + 1 ≤ wr.heap.size ∧ Hid (∀ j, j < i → celOk l j)) (fun _ vi _ => n - (intOf vi).toNat)
  case atStart => exact ⟨0, _, rfl, rfl, by omega, OwnR.nil, HX0.out, HB0.out, by rw [HSZ.out]; omega, Lib.hid fun j h => by omega⟩
  case round =>
    obtain ⟨i, v1, rfl, rfl, hi, hO, hX, hB, hSz, HS⟩ := hrel
    clear HB0 HX0 HSZ x0 x1
    have HO := Lib.hid hO
    have HX := Lib.hid hX
    have HB := Lib.hid hB
    have x0 := hX.cell 0
    have x1 := hX.cell 1
    obtain ⟨A3, q3, hv3, -, -, hRD⟩ := hO.read (fun _ => rfl)
    obtain ⟨K3, hK3⟩ : ∃ K3, K3 = (keysV l i).length := ⟨_, rfl⟩
    rw [← hK3] at hv3
    have HK3 := Lib.hid hK3
    have HRD := Lib.hid hRD
    subst hv3
    clear hK3 hRD
    clear hO hX
    by_cases hlt : i < n
    · have i2 : i < l.cs.length := by rw [HN.out]; exact hlt
      obtain ⟨b, o, e, -, hb, f0, f1, f2, f3, f4⟩ := HL.out.cell i2
      subst e
      rw [← HBB.out] at hb
      replace f0 := (hB.cell (p := ⟨b, o + i * 5, none⟩) hb).trans f0
      replace f1 := (hB.cell (p := ⟨b, o + i * 5 + 1, none⟩) hb).trans f1
      replace f2 := (hB.cell (p := ⟨b, o + i * 5 + 2, none⟩) hb).trans f2
      replace f3 := (hB.cell (p := ⟨b, o + i * 5 + 3, none⟩) hb).trans f3
      replace f4 := (hB.cell (p := ⟨b, o + i * 5 + 4, none⟩) hb).trans f4
      have i0 : (0 : Int) ≤ (i : Int) := by omega
      have i1 : (i : Int) < (n : Int) := by omega
      have HCO : Hid (celOk l i ↔ (0 ≤ (l.at_ i).left ∧ (l.at_ i).left < (n : Int)) ∧ (0 ≤ (l.at_ i).right ∧ (l.at_ i).right < (n : Int)) ∧ (0 ≤ (l.at_ i).lock ∧ (l.at_ i).lock < (m : Int) + 1)) := Lib.hid (by unfold celOk; rw [HN.out, HM.out])
      have HBAD : Hid (¬ celOk l i → ¬ VclP l) := Lib.hid fun h1 h2 => h1 (h2.1 i i2)
      have HNX : Hid (celOk l i → ∀ j, j < i + 1 → celOk l j) := Lib.hid fun h1 j h2 => by
        rcases Nat.lt_or_ge j i with h3 | h3
        · exact HS.out j h3
        · obtain rfl : j = i := by omega
          exact h1
      have HKL := Lib.hid (fun h1 : i < 2 => keysV_lo l h1 i2)
      have HKH := Lib.hid (fun h1 : 2 ≤ i => keysV_hi l h1 i2)
      have HKN := Lib.hid (keysV_len l i)
      generalize l.at_ i = x at *
      obtain ⟨xk, xl, xr, xo, xg⟩ := x
      simp only at f0 f1 f2 f3 f4 HCO HKH
      have HXN := Lib.hid (Has.new wr 58 #[.string xk, .int .i64 xl, .int .i64 xr, .int .i64 xo, .bool xg])
      have hbn := (Below.refl wr.heap.size wr).alloc (Nat.le_refl _) (.cells #[.string xk, .int .i64 xl, .int .i64 xr, .int .i64 xo, .bool xg] 58)
      have HBN := Lib.hid hbn
      have HO2 := Lib.hid (HO.out.below hbn)
      have HX2 := Lib.hid (HX.out.below hbn)
      have HB2 := Lib.hid (HB.out.trans (hbn.mono (by omega)))
      have hS2 : B + 1 ≤ (wr.alloc (.cells #[.string xk, .int .i64 xl, .int .i64 xr, .int .i64 xo, .bool xg] 58)).heap.size := by rw [World.size_alloc]; omega
      clear hbn HO HX HB hB HS i2 hb
      go_upto_region 5 with fail
      clear f0 f1 f2 f3 f4 x0 x1
      generalize wr.alloc (.cells #[.string xk, .int .i64 xl, .int .i64 xr, .int .i64 xo, .bool xg] 58) = W at *
      have x0 := HX2.out.cell 0
      have x1 := HX2.out.cell 1
      have y0 := HXN.out.cell 0
      have y1 := HXN.out.cell 1
      have y2 := HXN.out.cell 2
      have y3 := HXN.out.cell 3
      by_cases h1 : 0 ≤ xl ∧ xl < (n : Int)
      · have H1 := Lib.hid ((isIndex_any xl (n : Int) W).mono fun e w' h => h.yes h1)
        by_cases h2 : 0 ≤ xr ∧ xr < (n : Int)
        · have H2 := Lib.hid ((isIndex_any xr (n : Int) W).mono fun e w' h => h.yes h2)
          by_cases h3 : 0 ≤ xo ∧ xo < (m : Int) + 1
          · have H3 := Lib.hid ((isIndex_any xo ((m : Int) + 1) W).mono fun e w' h => h.yes h3)
            have HOK := Lib.hid (HNX.out (HCO.out.2 ⟨h1, h2, h3⟩))
            clear h1 h2 h3 HNX HBAD HCO
            by_cases hi2 : i < 2
            · have hg : ¬ ((i : Int) ≥ 2) := by omega
              have HK2 := Lib.hid (HKL.out hi2)
              clear HKL HKH hi2
              go_wp2_with (first | (go_at_call 44; with_reducible refine (H1.out).mono ?_; rintro e w' ⟨rfl, rfl⟩) | (go_at_call 44; with_reducible refine (H2.out).mono ?_; rintro e w' ⟨rfl, rfl⟩) | (go_at_call 44; with_reducible refine (H3.out).mono ?_; rintro e w' ⟨rfl, rfl⟩))
              exact ⟨⟨i + 1, _, by go_num, rfl, hlt, by rw [HK2.out]; exact HO2.out, HX2.out, HB2.out, hS2, HOK⟩, by simp [intOf]; omega⟩
            · have hg : ((i : Int) ≥ 2) := by omega
              have HK2 := Lib.hid (HKH.out (by omega))
              clear HKL HKH hi2
              go_wp2_with (first | (at_builtin; refine wpList_pushR RowT.tx rfl (.tmp 42) (.tmp 45) rfl (B + 1) (.slice A3 K3 q3) (keysV l i) W xk _ rfl (by simp [Act.eval]) HO2.out (by simp [Act.eval]) (by have := HKN.out; omega) hS2 ?_; intro v5 w5 ho5 hg5 hat5; obtain ⟨A5, n5, q5, hv5⟩ := own_sh ho5; subst hv5; have HO5 := Lib.hid ho5; have HG5 := Lib.hid (grown_below hg5 hS2 (fun j e => (HO2.out.lt j e).1)); clear ho5 hg5 hat5) | (go_at_call 44; with_reducible refine (H1.out).mono ?_; rintro e w' ⟨rfl, rfl⟩) | (go_at_call 44; with_reducible refine (H2.out).mono ?_; rintro e w' ⟨rfl, rfl⟩) | (go_at_call 44; with_reducible refine (H3.out).mono ?_; rintro e w' ⟨rfl, rfl⟩))
              exact ⟨⟨i + 1, _, by go_num, rfl, hlt, by rw [HK2.out]; exact HO5.out, HG5.out.block B (by omega) |>.trans HX2.out, HB2.out.trans (HG5.out.mono (by omega)), Nat.le_trans hS2 HG5.out.size, HOK⟩, by simp [intOf]; omega⟩
          · have H3 := Lib.hid ((isIndex_any xo ((m : Int) + 1) W).mono fun e w' h => h.no h3)
            go_wp2_with (first | (go_at_call 44; with_reducible refine (H1.out).mono ?_; rintro e w' ⟨rfl, rfl⟩) | (go_at_call 44; with_reducible refine (H2.out).mono ?_; rintro e w' ⟨rfl, rfl⟩) | (go_at_call 44; with_reducible refine (H3.out).mono ?_; rintro e w' ⟨rfl, rfl⟩))
            go_ret
            exact ⟨false, rfl, ⟨fun h => Bool.noConfusion h, fun h => (HBAD.out (fun q => h3 (HCO.out.1 q).2.2) h).elim⟩, by rw [← HBB.out]; exact HB2.out⟩
        · have H2 := Lib.hid ((isIndex_any xr (n : Int) W).mono fun e w' h => h.no h2)
          go_wp2_with (first | (go_at_call 44; with_reducible refine (H1.out).mono ?_; rintro e w' ⟨rfl, rfl⟩) | (go_at_call 44; with_reducible refine (H2.out).mono ?_; rintro e w' ⟨rfl, rfl⟩))
          go_ret
          exact ⟨false, rfl, ⟨fun h => Bool.noConfusion h, fun h => (HBAD.out (fun q => h2 (HCO.out.1 q).2.1) h).elim⟩, by rw [← HBB.out]; exact HB2.out⟩
      · have H1 := Lib.hid ((isIndex_any xl (n : Int) W).mono fun e w' h => h.no h1)
        go_wp2_with (first | (go_at_call 44; with_reducible refine (H1.out).mono ?_; rintro e w' ⟨rfl, rfl⟩))
        go_ret
        exact ⟨false, rfl, ⟨fun h => Bool.noConfusion h, fun h => (HBAD.out (fun q => h1 (HCO.out.1 q).1) h).elim⟩, by rw [← HBB.out]; exact HB2.out⟩
    · obtain rfl : i = n := by omega
      have i2 : 0 < l.cs.length := by rw [HN.out]; omega
      have i3 : 1 < l.cs.length := by rw [HN.out]; omega
      obtain ⟨b, o, e, -, hb, f0, -⟩ := HL.out.cell i2
      subst e
      obtain ⟨b', o', e, -, -, g0, -⟩ := HL.out.cell i3
      injection e with e
      injection e with e1 e2
      subst e1 e2
      rw [← HBB.out] at hb
      replace f0 := (hB.cell (p := ⟨b, o + 0 * 5, none⟩) hb).trans f0
      replace g0 := (hB.cell (p := ⟨b, o + 1 * 5, none⟩) hb).trans g0
      rw [Nat.zero_mul, Nat.add_zero] at f0
      rw [Nat.one_mul] at g0
      have n0 : (0 : Int) < (i : Int) := by omega
      have n1 : (1 : Int) < (i : Int) := by omega
      have HVP : Hid (VclP l ↔ (l.at_ 0).key = ⟨#[]⟩ ∧ (l.at_ 1).key = ⟨#[]⟩ ∧ (∀ k ∈ keysV l i, vk k = true) ∧ (keysV l i).Nodup) := Lib.hid (by
        unfold VclP
        rw [HN.out]
        exact ⟨fun q => q.2, fun q => ⟨fun j hj => HS.out j hj, q⟩⟩)
      have HKN := Lib.hid (keysV_len l i)
      have hK66 : K3 ≤ 66 := by have := HK3.out; have := HKN.out; omega
      generalize (l.at_ 0).key = k0 at *
      generalize (l.at_ 1).key = k1 at *
      have HVK := Lib.hid (validKeys_any A3 (keysV l i) K3 q3 (B + 1) wr HK3.out.symm HRD.out (by unfold maxLen; omega))
      have HDF := Lib.hid (fun q => different_any A3 (keysV l i) K3 q3 wr HK3.out.symm (HRD.out.low (Nat.zero_le _)) (by omega) q)
      clear hB hb HS i2 i3
      by_cases h0 : k0 = ⟨#[]⟩
      · subst h0
        by_cases h1 : k1 = ⟨#[]⟩
        · subst h1
          by_cases h2 : ∀ k ∈ keysV l i, vk k = true
          · have HV2 := Lib.hid (HVK.out.mono fun e w' h => h.yes h2)
            have HD2 := Lib.hid (HDF.out h2)
            have HV3 : Hid (VclP l ↔ (keysV l i).Nodup) := Lib.hid ⟨fun q => (HVP.out.1 q).2.2.2, fun q => HVP.out.2 ⟨rfl, rfl, h2, q⟩⟩
            clear h2 HVK HDF
            go_wp2_with (go_at_call 33; with_reducible refine (HV2.out).mono ?_; rintro e w' ⟨rfl, rfl⟩)
            refine (HD2.out).mono ?_
            rintro e w5 ⟨bb, rfl, hbb, hb5⟩
            have HBB5 := Lib.hid hbb
            have HB5 := Lib.hid hb5
            clear hbb hb5
            go_wp2_with fail
            go_ret
            exact ⟨bb, rfl, HBB5.out.trans HV3.out.symm, by have hs0 := HB.out.size; rw [← HBB.out] at hs0 ⊢; exact HB.out.trans (HB5.out.mono hs0)⟩
          · have HV2 := Lib.hid (HVK.out.mono fun e w' h => h.no h2)
            have HV3 := Lib.hid (fun q => h2 (HVP.out.1 q).2.2.1)
            clear h2 HVK HDF
            go_wp2_with (go_at_call 33; with_reducible refine (HV2.out).mono ?_; rintro e w' ⟨rfl, rfl⟩)
            go_ret
            exact ⟨false, rfl, ⟨fun q => Bool.noConfusion q, fun q => (HV3.out q).elim⟩, by rw [← HBB.out]; exact HB.out⟩
        · obtain ⟨e1, e2⟩ := ne_empty h1
          have HV3 := Lib.hid (fun q => h1 (HVP.out.1 q).2.1)
          clear h1 HVK HDF
          go_wp2_with fail
          go_ret
          exact ⟨false, rfl, ⟨fun q => Bool.noConfusion q, fun q => (HV3.out q).elim⟩, by rw [← HBB.out]; exact HB.out⟩
      · obtain ⟨e1, e2⟩ := ne_empty h0
        have HV3 := Lib.hid (fun q => h0 (HVP.out.1 q).1)
        clear h0 HVK HDF
        go_wp2_with fail
        go_ret
        exact ⟨false, rfl, ⟨fun q => Bool.noConfusion q, fun q => (HV3.out q).elim⟩, by rw [← HBB.out]; exact HB.out⟩
end Lk
end Go.Proofs.YtgmffgdhijcfcaaDoor
