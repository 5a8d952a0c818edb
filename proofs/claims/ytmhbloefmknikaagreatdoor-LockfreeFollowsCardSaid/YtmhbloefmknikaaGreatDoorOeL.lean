/-
  Check of the reference of chapter 12, for lists that were led to. Conditions: the list can be read; no list is long.
-/
import Derived.Test.YtmhbloefmknikaaGreatDoorOeJ
import Derived.Test.YtmhbloefmknikaaGreatDoorOeK
namespace Go.Proofs.YtmhbloefmknikaaGreatDoor
open Go.RowKit Go.Maps
namespace Lf
open Lk
set_option maxRecDepth 100000 in
set_option maxHeartbeats 12800000 in
theorem rcheckF_led (A1 A2 : Option Addr) (l : Ls) (n m c1 c2 : Nat) (w : World) (hn : l.cs.length = n) (hm : l.ps.length = m) (h : RdL w 0 A1 A2 l) (hl : Led l) (n9 : n ≤ 1000000) (m9 : m ≤ 1000000) :
    Calls Tryz.prog 38 #[.agg #[.slice A1 n c1, .slice A2 m c2]] w (Quiet (.bool true) w) := by
  have v := hl.1
  obtain ⟨g0, g1, ch, hch, hlk, hac, hgo⟩ := (chk_iff v).1 (led_chk hl)
  have hb := (Below.refl w.heap.size w).alloc (Nat.le_refl _) (.cells #[.slice A1 n c1, .slice A2 m c2] 28)
  have HX := Lib.hid (Has.new w 28 #[.slice A1 n c1, .slice A2 m c2])
  have HB := Lib.hid hb
  have HL := Lib.hid (h.below hb)
  have HN := Lib.hid hn
  have HM := Lib.hid hm
  have HV := Lib.hid v
  have HCH0 := Lib.hid hch
  have HLK0 := Lib.hid hlk
  have HAC0 := Lib.hid hac
  have HGO0 := Lib.hid hgo
  have n66 : n ≤ 66 := by rw [← hn]; exact v.n66
  have n2 : 2 ≤ n := by rw [← hn]; exact v.n2
  have HCL : Hid (∀ i, i ∈ ch → i < n) := Lib.hid (by rw [← hn]; exact chn_lt v (by omega) hch)
  have HVA := Lib.hid ((rvalidF_any A1 A2 l n m c1 c2 _ hn hm HL.out n9 m9).mono fun e w' q => q.yes v)
  have hmb := fun V => make_boolsN V n n9
  obtain ⟨b0, o0, e0, -, hz0, -, -, -, -, f0⟩ := HL.out.cell (i := 0) (by omega)
  obtain ⟨b1, o1, e1, -, hz1, -, -, -, -, f1⟩ := HL.out.cell (i := 1) (by omega)
  subst e0
  injection e1 with e1
  injection e1 with e2 e3
  subst e2 e3
  rw [g0] at f0
  rw [g1] at f1
  simp only [Nat.zero_mul, Nat.one_mul, Nat.add_zero] at f0 f1
  have x0 := HX.out.cell 0
  have x1 := HX.out.cell 1
  have nn0 : (0 : Int) < (n : Int) := by omega
  have nn1 : (1 : Int) < (n : Int) := by omega
  clear hb h hn hm v hl hch hlk hac hgo g0 g1
  go_enter Tryz.func38, Tryz.ntmps38
  go_upto_region 1 with fail
  generalize w.alloc (.cells #[.slice (some ⟨b0, o0, none⟩) n c1, .slice A2 m c2] 28) = W at *
  have HLB := Lib.hid (fun (V : World) (k : Below W.heap.size W V) => HL.out.below k)
  go_wp2_with (go_at_call 78; refine (HVA.out).mono ?_; rintro e w2 ⟨rfl, hb2⟩; have HB2 := Lib.hid hb2; have x0 := (HX.out.below hb2).cell 0; have x1 := (HX.out.below hb2).cell 1; have f0 := (hb2.cell (p := ⟨b0, o0 + 4, none⟩) hz0).trans f0; have f1 := (hb2.cell (p := ⟨b0, o0 + 5 + 4, none⟩) hz0).trans f1; clear hb2)
  refine (rchainF_any (some ⟨b0, o0, none⟩) A2 l n m c1 c2 0 0 w2 HN.out (HLB.out w2 HB2.out) HV.out (by omega)).mono ?_
  rintro e w3 (⟨q, -, -⟩ | ⟨ch', A3, k3, c3, q, rfl, hk3, hkn, hkc, hr3, hb3⟩)
  · rw [HCH0.out] at q; cases q
  rw [HCH0.out] at q
  obtain rfl := Option.some.inj q
  have HB3 := Lib.hid (HB2.out.trans (hb3.mono HB2.out.size))
  have HR3 := Lib.hid hr3
  have HK3 := Lib.hid hk3
  have hk66 : k3 ≤ 66 := by rw [HN.out] at hkn; omega
  clear x0 x1 f0 f1 q hr3 hk3 hb3
  have x0 := (HX.out.below HB3.out).cell 0
  have x1 := (HX.out.below HB3.out).cell 1
  have hbn := (Below.refl w3.heap.size w3).alloc (Nat.le_refl _) (.cells (((List.replicate n false).flatMap brow).toArray) 4)
  have HM4 := Lib.hid (bools_mutN w3 n n9)
  have HB4 := Lib.hid (HB3.out.trans (hbn.mono HB3.out.size))
  have HR4 := Lib.hid (RdR.below HR3.out hbn)
  have hs3 := HB3.out.size
  have hsz : (w3.alloc (.cells (((List.replicate n false).flatMap brow).toArray) 4)).heap.size = w3.heap.size + 1 := World.size_alloc _ _
  clear hbn
  go_upto_region 7 with fail
  generalize w3.alloc (.cells (((List.replicate n false).flatMap brow).toArray) 4) = W4 at *
  obtain ⟨G, hG⟩ : ∃ G, G = w3.heap.size := ⟨_, rfl⟩
  have HGE := Lib.hid hG
  rw [← hG] at HM4 hs3 hsz ⊢
  clear hG x0 x1
  go_wp2_with fail
  go_loopw [6] (fun vk wr => ∃ (k : Nat) (D : List Bool), vk = .int .i64 (k : Int) ∧ k ≤ k3 ∧ MutR brow 1 4 wr G n D ∧ D.length = n ∧ Hid (∀ j, j < n → (D.getD j false = true ↔ j ∈ ch.take k)) ∧ (∀ j, j ≠ G → j < W4.heap.size → wr.heap[j]? = W4.heap[j]?) ∧ Below W.heap.size W wr ∧ W4.heap.size ≤ wr.heap.size) (fun vk _ => k3 - (intOf vk).toNat)
  case atStart => exact ⟨0, List.replicate n false, rfl, by omega, HM4.out, by simp, Lib.hid (fun j hj => by simp [List.getD_eq_getElem?_getD, hj]), fun _ _ _ => rfl, HB4.out, Nat.le_refl _⟩
  case round =>
    obtain ⟨k, D, rfl, hk, hMu, hD, HD, hfr, hB, hsr⟩ := hrel
    have HFR := Lib.hid hfr
    have HBW := Lib.hid hB
    have HMU := Lib.hid hMu
    by_cases hlt : k < k3
    · as_aux_lemma =>
      have hkl : k < ch.length := by rw [HK3.out]; exact hlt
      obtain ⟨b7, o7, e7, hb70, hb7, t7⟩ := num_at HR3.out (i := k) (by rw [nat2_len]; exact hkl)
      subst e7
      obtain ⟨y, hy⟩ : ∃ y, y = ch[k] := ⟨_, rfl⟩
      have hny : (nat2 ch)[k]'(by rw [nat2_len]; exact hkl) = (y : Int) := by rw [hy]; simp [nat2]
      rw [hny] at t7
      have hyn : y < n := by rw [hy]; exact HCL.out _ (List.getElem_mem _)
      have r7 := num_at HR4.out (i := k) (by rw [nat2_len]; exact hkl)
      obtain ⟨b8, o8, e8, -, -, t8⟩ := r7
      injection e8 with e8
      injection e8 with e9 e10
      subst e9 e10
      rw [hny] at t8
      have y7 := (World.cell?_of_block (a := ⟨b7, o7 + k, none⟩) (hfr b7 (by have := HGE.out; omega) (by have := HGE.out; omega))).trans t8
      have hc0 := cellBN hMu (q := y) (by rw [hD]; exact hyn)
      have hz := hMu.frozen
      have k0 : (0 : Int) ≤ (k : Int) := by omega
      have k1 : (k : Int) < (k3 : Int) := by omega
      have yy0 : (0 : Int) ≤ (y : Int) := by omega
      have yy1 : (y : Int) < (n : Int) := by omega
      have HMN := Lib.hid (putBN hMu (q := y) (by rw [hD]; exact hyn) true)
      have HBN := Lib.hid (HBW.out.setCell (p := ⟨G, y, none⟩) hs3 (.bool true))
      have HDN : Hid (∀ j, j < n → ((D.set y true).getD j false = true ↔ j ∈ ch.take (k + 1))) := Lib.hid (fun j hj => by
        rw [List.take_succ_eq_append_getElem hkl, List.mem_append, List.mem_singleton, ← hy, List.getD_eq_getElem?_getD, List.getElem?_set]
        by_cases e : y = j
        · subst e; simp [hD, hyn]
        · rw [if_neg e, ← List.getD_eq_getElem?_getD, HD.out j hj]
          exact ⟨Or.inl, fun z => z.resolve_right (fun q => e q.symm)⟩)
      have hDl : (D.set y true).length = n := by rw [List.length_set]; exact hD
      clear hMu hB hny t7 t8 hy hfr
      go_wp2_with fail
      exact ⟨⟨k + 1, D.set y true, by go_num, hlt, HMN.out, hDl, HDN, fun j h1 h2 => (Below.heap_setCell wr ⟨G, y, none⟩ _ j h1).trans (HFR.out j h1 h2), HBN.out, by rw [World.size_setCell]; exact hsr⟩, by simp [intOf]; omega⟩
    · as_aux_lemma =>
      obtain rfl : k = k3 := by omega
      have HDE : Hid (∀ j, j < n → (D.getD j false = true ↔ j ∈ ch)) := Lib.hid (fun j hj => by rw [HD.out j hj, List.take_of_length_le (by rw [HK3.out]; exact Nat.le_refl _)])
      have HDL := Lib.hid hD
      clear hMu hB hfr hD HD HR3 HR4 HM4
      go_wp2_with fail
      rename World => V0
      have HXF := Lib.hid (fun (U : World) (q : Below V0.heap.size V0 U) => HX.out.below (HBW.out.trans (q.mono HBW.out.size)))
      have HCH := Lib.hid (fun (U : World) (q : Below V0.heap.size V0 U) (i : Nat) (hi : i < n) => rchainF_any (some ⟨b0, o0, none⟩) A2 l n m c1 c2 0 i U HN.out (HLB.out U (HBW.out.trans (q.mono HBW.out.size))) HV.out hi)
      have HII := Lib.hid (fun (U : World) (q : Below V0.heap.size V0 U) (i : Nat) => rins_any (some ⟨b0, o0, none⟩) A2 l n m c1 c2 0 i U HM.out (HLB.out U (HBW.out.trans (q.mono HBW.out.size))) m9)
      go_loopw [7] (fun vi wr => ∃ i : Nat, vi = .int .i64 (i : Int) ∧ i ≤ n ∧ Below V0.heap.size V0 wr) (fun vi _ => n - (intOf vi).toNat)
      case atStart => exact ⟨0, rfl, by omega, Below.refl _ _⟩
      case round =>
        obtain ⟨i, rfl, hi, hq⟩ := hrel
        have HQ := Lib.hid hq
        have x0 := (HXF.out _ hq).cell 0
        have x1 := (HXF.out _ hq).cell 1
        by_cases hlt : i < n
        · as_aux_lemma =>
          obtain ⟨b, o, e, -, hb, f0, f1, f2, f3, f4⟩ := (HLB.out _ (HBW.out.trans (hq.mono HBW.out.size))).cell (i := i) (by rw [HN.out]; exact hlt)
          injection e with e
          injection e with e2 e3
          subst e2 e3
          have hbi := cellBN (HMU.out.below hq) (q := i) (by rw [HDL.out]; exact hlt)
          obtain ⟨bi, hbie⟩ : ∃ bi, bi = D.getD i false := ⟨_, rfl⟩
          rw [← hbie] at hbi
          have HBI : Hid (bi = true ↔ i ∈ ch) := Lib.hid (by rw [hbie]; exact HDE.out i hlt)
          have hil : i < l.cs.length := by rw [HN.out]; exact hlt
          have HLK := Lib.hid (HV.out.lk i hil)
          have HIN : Hid (bi = true → (l.at_ i).lock = 1) := Lib.hid (fun q => (HV.out.lk i hil).resolve_left (HLK0.out i (HBI.out.1 q)))
          have hacc := HAC0.out i hil
          have HNG : Hid ((l.at_ i).lock = 0 → (l.at_ i).gone = true → False) := Lib.hid (fun q1 q2 => by unfold accB at hacc; rw [q1, q2] at hacc; simp at hacc)
          have HAC : Hid ((l.at_ i).lock = 1 → bi = false → (l.at_ i).gone = false → insB l i = true) := Lib.hid (fun q1 q2 q3 => by
            unfold accB at hacc
            have hni : ch.contains i = false := by
              cases hc : ch.contains i with
              | false => rfl
              | true => rw [HBI.out.2 (by simpa using hc)] at q2; cases q2
            rw [q1, q3, hni] at hacc
            simpa using hacc)
          have HGO : Hid ((l.at_ i).gone = true → (chnV l l.cs.length i).isSome = true) := Lib.hid (HGO0.out i hil)
          have i0 : (0 : Int) ≤ (i : Int) := by omega
          have i1 : (i : Int) < (n : Int) := by omega
          clear hacc hbie hb
          generalize l.at_ i = x at *
          obtain ⟨xk, xl, xr, xo, xg⟩ := x
          simp only at f0 f1 f2 f3 f4 HLK HIN HNG HAC HGO
          have hal := (Below.refl wr.heap.size wr).alloc (Nat.le_refl _) (.cells #[.string xk, .int .i64 xl, .int .i64 xr, .int .i64 xo, .bool xg] 66)
          have HBN := Lib.hid (HQ.out.trans (hal.mono HQ.out.size))
          have HCN := Lib.hid (Has.new wr 66 #[.string xk, .int .i64 xl, .int .i64 xr, .int .i64 xo, .bool xg])
          have hbn := (hal.cell (p := ⟨G, i, none⟩) (HMU.out.below hq).lt).trans hbi
          clear hal hq
          go_upto_region 15 with fail
          clear f0 f1 f2 f3 f4 x0 x1 hbi
          obtain ⟨C, hC⟩ : ∃ C, C = wr.heap.size := ⟨_, rfl⟩
          rw [← hC] at HCN ⊢
          clear hC
          generalize wr.alloc (.cells #[.string xk, .int .i64 xl, .int .i64 xr, .int .i64 xo, .bool xg] 66) = V at *
          have x0 := (HXF.out _ HBN.out).cell 0
          have x1 := (HXF.out _ HBN.out).cell 1
          have y3 := HCN.out.cell 3
          have y4 := HCN.out.cell 4
          replace HCH := Lib.hid (fun (U : World) (q : Below V0.heap.size V0 U) => HCH.out U q i hlt)
          replace HII := Lib.hid (fun (U : World) (q : Below V0.heap.size V0 U) => HII.out U q i)
          cases bi with
          | true =>
            obtain rfl : xo = 1 := HIN.out rfl
            by_cases h2 : 2 ≤ i
            · have d2 : decide ((i : Int) ≥ 2) = true := by simp; omega
              cases xg with
              | true =>
                as_aux_lemma =>
                have HBW9 := HBN
                have HCC9 := HCN
                have HBB9 := HBN
                go_wp2_with fail
                refine (HCH.out V HBN.out).mono ?_
                rintro e w9 h9
                rcases h9 with ⟨hno, -, hb9⟩ | ⟨ch9, A9, n9', c9, -, rfl, -, -, -, -, hb9⟩
                · exact absurd (HGO.out (by trivial)) (by rw [hno]; simp)
                · replace HBB9 := Lib.hid (HBW9.out.trans (hb9.mono HBW9.out.size))
                  have HC9 := Lib.hid (HCC9.out.below hb9)
                  have y4 := HC9.out.cell 4
                  clear hb9
                  go_wp2_with fail
                  exact ⟨⟨i + 1, by go_num, hlt, HBB9.out⟩, by simp [intOf]; omega⟩
              | false =>
                as_aux_lemma =>
                have HBW9 := HBN
                have HCC9 := HCN
                have HBB9 := HBN
                go_wp2_with fail
                refine (HCH.out V HBN.out).mono ?_
                rintro e w9 h9
                rcases h9 with ⟨-, ⟨v9, rfl⟩, hb9⟩ | ⟨ch9, A9, n9', c9, -, rfl, -, -, -, -, hb9⟩
                · replace HBB9 := Lib.hid (HBW9.out.trans (hb9.mono HBW9.out.size))
                  have HC9 := Lib.hid (HCC9.out.below hb9)
                  have y4 := HC9.out.cell 4
                  clear hb9
                  go_wp2_with fail
                  exact ⟨⟨i + 1, by go_num, hlt, HBB9.out⟩, by simp [intOf]; omega⟩
                · replace HBB9 := Lib.hid (HBW9.out.trans (hb9.mono HBW9.out.size))
                  have HC9 := Lib.hid (HCC9.out.below hb9)
                  have y4 := HC9.out.cell 4
                  clear hb9
                  go_wp2_with fail
                  exact ⟨⟨i + 1, by go_num, hlt, HBB9.out⟩, by simp [intOf]; omega⟩
            · have d2 : decide ((i : Int) ≥ 2) = false := by simp; omega
              cases xg with
              | true =>
                as_aux_lemma =>
                have HBW9 := HBN
                have HCC9 := HCN
                have HBB9 := HBN
                go_wp2_with fail
                refine (HCH.out V HBN.out).mono ?_
                rintro e w9 h9
                rcases h9 with ⟨hno, -, hb9⟩ | ⟨ch9, A9, n9', c9, -, rfl, -, -, -, -, hb9⟩
                · exact absurd (HGO.out (by trivial)) (by rw [hno]; simp)
                · replace HBB9 := Lib.hid (HBW9.out.trans (hb9.mono HBW9.out.size))
                  have HC9 := Lib.hid (HCC9.out.below hb9)
                  have y4 := HC9.out.cell 4
                  clear hb9
                  go_wp2_with fail
                  exact ⟨⟨i + 1, by go_num, hlt, HBB9.out⟩, by simp [intOf]; omega⟩
              | false =>
                as_aux_lemma =>
                have HBW9 := HBN
                have HCC9 := HCN
                have HBB9 := HBN
                go_wp2_with fail
                refine (HCH.out V HBN.out).mono ?_
                rintro e w9 h9
                rcases h9 with ⟨-, ⟨v9, rfl⟩, hb9⟩ | ⟨ch9, A9, n9', c9, -, rfl, -, -, -, -, hb9⟩
                · replace HBB9 := Lib.hid (HBW9.out.trans (hb9.mono HBW9.out.size))
                  have HC9 := Lib.hid (HCC9.out.below hb9)
                  have y4 := HC9.out.cell 4
                  clear hb9
                  go_wp2_with fail
                  exact ⟨⟨i + 1, by go_num, hlt, HBB9.out⟩, by simp [intOf]; omega⟩
                · replace HBB9 := Lib.hid (HBW9.out.trans (hb9.mono HBW9.out.size))
                  have HC9 := Lib.hid (HCC9.out.below hb9)
                  have y4 := HC9.out.cell 4
                  clear hb9
                  go_wp2_with fail
                  exact ⟨⟨i + 1, by go_num, hlt, HBB9.out⟩, by simp [intOf]; omega⟩
          | false =>
            rcases HLK.out with rfl | rfl
            · cases xg with
              | true => exact absurd rfl (fun q => HNG.out q rfl)
              | false =>
                by_cases h2 : 2 ≤ i
                · have d2 : decide ((i : Int) ≥ 2) = true := by simp; omega
                  as_aux_lemma =>
                  have HBW9 := HBN
                  have HCC9 := HCN
                  have HBB9 := HBN
                  go_wp2_with fail
                  refine (HCH.out V HBN.out).mono ?_
                  rintro e w9 h9
                  rcases h9 with ⟨-, ⟨v9, rfl⟩, hb9⟩ | ⟨ch9, A9, n9', c9, -, rfl, -, -, -, -, hb9⟩
                  · replace HBB9 := Lib.hid (HBW9.out.trans (hb9.mono HBW9.out.size))
                    have HC9 := Lib.hid (HCC9.out.below hb9)
                    have y4 := HC9.out.cell 4
                    clear hb9
                    go_wp2_with fail
                    exact ⟨⟨i + 1, by go_num, hlt, HBB9.out⟩, by simp [intOf]; omega⟩
                  · replace HBB9 := Lib.hid (HBW9.out.trans (hb9.mono HBW9.out.size))
                    have HC9 := Lib.hid (HCC9.out.below hb9)
                    have y4 := HC9.out.cell 4
                    clear hb9
                    go_wp2_with fail
                    exact ⟨⟨i + 1, by go_num, hlt, HBB9.out⟩, by simp [intOf]; omega⟩
                · have d2 : decide ((i : Int) ≥ 2) = false := by simp; omega
                  as_aux_lemma =>
                  have HBW9 := HBN
                  have HCC9 := HCN
                  have HBB9 := HBN
                  go_wp2_with fail
                  refine (HCH.out V HBN.out).mono ?_
                  rintro e w9 h9
                  rcases h9 with ⟨-, ⟨v9, rfl⟩, hb9⟩ | ⟨ch9, A9, n9', c9, -, rfl, -, -, -, -, hb9⟩
                  · replace HBB9 := Lib.hid (HBW9.out.trans (hb9.mono HBW9.out.size))
                    have HC9 := Lib.hid (HCC9.out.below hb9)
                    have y4 := HC9.out.cell 4
                    clear hb9
                    go_wp2_with fail
                    exact ⟨⟨i + 1, by go_num, hlt, HBB9.out⟩, by simp [intOf]; omega⟩
                  · replace HBB9 := Lib.hid (HBW9.out.trans (hb9.mono HBW9.out.size))
                    have HC9 := Lib.hid (HCC9.out.below hb9)
                    have y4 := HC9.out.cell 4
                    clear hb9
                    go_wp2_with fail
                    exact ⟨⟨i + 1, by go_num, hlt, HBB9.out⟩, by simp [intOf]; omega⟩
            · by_cases h2 : 2 ≤ i
              · have d2 : decide ((i : Int) ≥ 2) = true := by simp; omega
                cases xg with
                | true =>
                  as_aux_lemma =>
                  have HBW9 := HBN
                  have HCC9 := HCN
                  have HBB9 := HBN
                  go_wp2_with fail
                  refine (HCH.out V HBN.out).mono ?_
                  rintro e w9 h9
                  rcases h9 with ⟨hno, -, hb9⟩ | ⟨ch9, A9, n9', c9, -, rfl, -, -, -, -, hb9⟩
                  · exact absurd (HGO.out (by trivial)) (by rw [hno]; simp)
                  · replace HBB9 := Lib.hid (HBW9.out.trans (hb9.mono HBW9.out.size))
                    have HC9 := Lib.hid (HCC9.out.below hb9)
                    have y4 := HC9.out.cell 4
                    clear hb9
                    go_wp2_with fail
                    exact ⟨⟨i + 1, by go_num, hlt, HBB9.out⟩, by simp [intOf]; omega⟩
                | false =>
                  as_aux_lemma =>
                  have HI2 := Lib.hid ((HII.out V HBN.out).mono fun e w' h => h.yes (HAC.out rfl rfl rfl))
                  go_wp2_with (go_at_call 85; refine (HI2.out).mono ?_; rintro e w8 ⟨rfl, hb8⟩; have HB8 := Lib.hid (HBN.out.trans (hb8.mono HBN.out.size)); have HC8 := Lib.hid (HCN.out.below hb8); have x0 := (HXF.out _ HB8.out).cell 0; have x1 := (HXF.out _ HB8.out).cell 1; have y4 := HC8.out.cell 4)
                  have HBW9 := HB8
                  have HCC9 := HC8
                  have HBB9 := HB8
                  refine (HCH.out w8 HB8.out).mono ?_
                  rintro e w9 h9
                  rcases h9 with ⟨-, ⟨v9, rfl⟩, hb9⟩ | ⟨ch9, A9, n9', c9, -, rfl, -, -, -, -, hb9⟩
                  · replace HBB9 := Lib.hid (HBW9.out.trans (hb9.mono HBW9.out.size))
                    have HC9 := Lib.hid (HCC9.out.below hb9)
                    have y4 := HC9.out.cell 4
                    clear hb9
                    go_wp2_with fail
                    exact ⟨⟨i + 1, by go_num, hlt, HBB9.out⟩, by simp [intOf]; omega⟩
                  · replace HBB9 := Lib.hid (HBW9.out.trans (hb9.mono HBW9.out.size))
                    have HC9 := Lib.hid (HCC9.out.below hb9)
                    have y4 := HC9.out.cell 4
                    clear hb9
                    go_wp2_with fail
                    exact ⟨⟨i + 1, by go_num, hlt, HBB9.out⟩, by simp [intOf]; omega⟩
              · have d2 : decide ((i : Int) ≥ 2) = false := by simp; omega
                cases xg with
                | true =>
                  as_aux_lemma =>
                  have HBW9 := HBN
                  have HCC9 := HCN
                  have HBB9 := HBN
                  go_wp2_with fail
                  refine (HCH.out V HBN.out).mono ?_
                  rintro e w9 h9
                  rcases h9 with ⟨hno, -, hb9⟩ | ⟨ch9, A9, n9', c9, -, rfl, -, -, -, -, hb9⟩
                  · exact absurd (HGO.out (by trivial)) (by rw [hno]; simp)
                  · replace HBB9 := Lib.hid (HBW9.out.trans (hb9.mono HBW9.out.size))
                    have HC9 := Lib.hid (HCC9.out.below hb9)
                    have y4 := HC9.out.cell 4
                    clear hb9
                    go_wp2_with fail
                    exact ⟨⟨i + 1, by go_num, hlt, HBB9.out⟩, by simp [intOf]; omega⟩
                | false =>
                  as_aux_lemma =>
                  have HBW9 := HBN
                  have HCC9 := HCN
                  have HBB9 := HBN
                  go_wp2_with fail
                  refine (HCH.out V HBN.out).mono ?_
                  rintro e w9 h9
                  rcases h9 with ⟨-, ⟨v9, rfl⟩, hb9⟩ | ⟨ch9, A9, n9', c9, -, rfl, -, -, -, -, hb9⟩
                  · replace HBB9 := Lib.hid (HBW9.out.trans (hb9.mono HBW9.out.size))
                    have HC9 := Lib.hid (HCC9.out.below hb9)
                    have y4 := HC9.out.cell 4
                    clear hb9
                    go_wp2_with fail
                    exact ⟨⟨i + 1, by go_num, hlt, HBB9.out⟩, by simp [intOf]; omega⟩
                  · replace HBB9 := Lib.hid (HBW9.out.trans (hb9.mono HBW9.out.size))
                    have HC9 := Lib.hid (HCC9.out.below hb9)
                    have y4 := HC9.out.cell 4
                    clear hb9
                    go_wp2_with fail
                    exact ⟨⟨i + 1, by go_num, hlt, HBB9.out⟩, by simp [intOf]; omega⟩
        · clear hq
          go_wp2_with fail
          go_ret
          exact ⟨rfl, HB.out.trans ((HBW.out.trans (HQ.out.mono HBW.out.size)).mono HB.out.size)⟩
end Lf
end Go.Proofs.YtmhbloefmknikaaGreatDoor
