/-
  Members of the reference of chapter 12. Conditions: the list can be read; no list is long.
-/
import Derived.Test.YtmhbloefmknikaaGreatDoorOeA
import Derived.Test.YtmhbloefmknikaaGreatDoorObJ
namespace Go.Proofs.YtmhbloefmknikaaGreatDoor
open Go.RowKit Go.Maps
namespace Lf
open Lk
set_option maxRecDepth 100000 in
set_option maxHeartbeats 6400000 in
theorem rmemF_any (A1 A2 : Option Addr) (l : Ls) (n m c1 c2 : Nat) (w : World) (hn : l.cs.length = n) (hm : l.ps.length = m) (h : RdL w 0 A1 A2 l) (n1 : n ≤ 1000000) (m1 : m ≤ 1000000) :
    Calls Tryz.prog 36 #[.agg #[.slice A1 n c1, .slice A2 m c2]] w (NumP (if vldB l then nat2 (memV l) else []) w) := by
  have hb := (Below.refl w.heap.size w).alloc (Nat.le_refl _) (.cells #[.slice A1 n c1, .slice A2 m c2] 28)
  have HB := Lib.hid hb
  have HX := Lib.hid (Has.new w 28 #[.slice A1 n c1, .slice A2 m c2])
  have HL := Lib.hid (h.below hb)
  have HVA := Lib.hid (rvalidF_any A1 A2 l n m c1 c2 _ hn hm HL.out n1 m1)
  have x0 := HX.out.cell 0
  have x1 := HX.out.cell 1
  by_cases v : Vlf l
  · have H1 := Lib.hid (HVA.out.mono fun e w' h => h.yes v)
    have HN := Lib.hid hn
    have HV := Lib.hid v
    have n66 : n ≤ 66 := by rw [← hn]; exact v.n66
    have n2 : 2 ≤ n := by rw [← hn]; exact v.n2
    rw [vldB_yes v, if_pos rfl]
    have hmb := fun V => make_boolsN V n n1
    have HS0 : Hid (TrvS l (List.replicate n false) [] [] 0) := Lib.hid (by rw [← hn]; exact TrvS.zero v)
    clear hb h hn hm v HVA
    go_enter Tryz.func36, Tryz.ntmps36
    go_upto_region 1 with fail
    have hW : (w.alloc (.cells #[.slice A1 n c1, .slice A2 m c2] 28)).heap.size = w.heap.size + 1 := World.size_alloc _ _
    generalize w.alloc (.cells #[.slice A1 n c1, .slice A2 m c2] 28) = W at *
    obtain ⟨B, hBe⟩ : ∃ B, B = w.heap.size := ⟨_, rfl⟩
    have HBB := Lib.hid hBe
    rw [← hBe] at HB HX hW x0 x1 ⊢
    clear hBe
    go_wp2_with fail
    refine (H1.out).mono ?_
    rintro e w2 ⟨rfl, hb2⟩
    have hbn := (Below.refl w2.heap.size w2).alloc (Nat.le_refl _) (.cells (((List.replicate n false).flatMap brow).toArray) 4)
    have HM2 := Lib.hid (bools_mutN w2 n n1)
    have HB2 := Lib.hid (hb2.trans (hbn.mono hb2.size))
    have hs2 := hb2.size
    have x0 := (HX.out.below hb2).cell 0
    have x1 := (HX.out.below hb2).cell 1
    have hsz : (w2.alloc (.cells (((List.replicate n false).flatMap brow).toArray) 4)).heap.size = w2.heap.size + 1 := World.size_alloc _ _
    clear hb2 hbn H1
    go_wp2_with fail
    generalize w2.alloc (.cells (((List.replicate n false).flatMap brow).toArray) 4) = W3 at *
    obtain ⟨G, hG⟩ : ∃ G, G = w2.heap.size := ⟨_, rfl⟩
    rw [← hG] at HM2 hs2 hsz ⊢
    clear hG x0 x1
    go_loopw [3, 5] (fun vo va wr => ∃ (a : Nat) (D : List Bool) (seen acc : List Nat) (v1 : Value), va = .int .i64 (a : Int) ∧ v1 = vo ∧ Hid (TrvS l D seen acc a) ∧ MutR brow 1 4 wr G n D ∧ OwnR nrow 1 3 wr (G + 1) v1 (nat2 acc) ∧ Below W.heap.size W wr ∧ G + 1 ≤ wr.heap.size) (fun _ _ wr => cntW wr G n)
    case atStart => exact ⟨0, _, [], [], _, rfl, rfl, HS0, HM2.out, OwnR.nil, HB2.out, by omega⟩
    case round =>
      obtain ⟨a, D, seen, acc, v1, rfl, rfl, HS, hM, hO, hB, hsz2⟩ := hrel
      have HBW := Lib.hid hB
      have HXW := Lib.hid (HX.out.below hB)
      have x0 := HXW.out.cell 0
      have x1 := HXW.out.cell 1
      obtain ⟨A3, n3, q3, hv3⟩ := own_sh hO
      subst hv3
      have HO := Lib.hid hO
      have HM := Lib.hid hM
      have hD : D.length = n := HS.out.dl.trans HN.out
      have HCW := Lib.hid (cntW_is hM hD)
      have han : a < n := by have := HS.out.lt; rw [HN.out] at this; exact this
      have hz := hM.frozen
      have hcell := cellBN hM (q := a) (by rw [hD]; exact han)
      have a0 : (0 : Int) ≤ (a : Int) := by omega
      have a1 : (a : Int) < (n : Int) := by omega
      clear hO
      by_cases h1 : a = 1
      · subst h1
        have HE := Lib.hid (HS.out.stop (.inl rfl))
        clear hB hM
        go_wp2_with fail
        go_ret
        obtain ⟨A, c, e, p1, p2, p3⟩ := HO.out.read (fun _ => rfl)
        injection e with e1 e2 e3
        subst e1 e3
        rw [HE.out]
        refine ⟨A3, n3, _, rfl, e2.symm, by omega, (HO.out).low (by rw [← HBB.out]; omega), p3.low (by rw [← HBB.out]; omega), ?_⟩
        rw [← HBB.out]
        exact HB.out.trans (HBW.out.mono (by omega))
      · have d1 : ((a : Int) != 1) = true := by simp; omega
        cases hd : D.getD a false with
        | true =>
          have HE := Lib.hid (HS.out.stop (.inr hd))
          rw [hd] at hcell
          clear hB hM hd
          go_wp2_with fail
          go_ret
          obtain ⟨A, c, e, p1, p2, p3⟩ := HO.out.read (fun _ => rfl)
          injection e with e1 e2 e3
          subst e1 e3
          rw [HE.out]
          refine ⟨A3, n3, _, rfl, e2.symm, by omega, (HO.out).low (by rw [← HBB.out]; omega), p3.low (by rw [← HBB.out]; omega), ?_⟩
          rw [← HBB.out]
          exact HB.out.trans (HBW.out.mono (by omega))
        | false =>
          rw [hd] at hcell
          have HNX := Lib.hid (HS.out.next HV.out h1 hd)
          have HCS := Lib.hid (cnt_set D a (by rw [hD]; exact han) hd)
          obtain ⟨b, o, e, -, hb, -, -, f2, -, f4⟩ := HL.out.cell (i := a) (by rw [HN.out]; exact han)
          subst e
          have hbW : b < W.heap.size := hb
          replace f2 := (hB.cell (p := ⟨b, o + a * 5 + 2, none⟩) hb).trans f2
          replace f4 := (hB.cell (p := ⟨b, o + a * 5 + 4, none⟩) hb).trans f4
          obtain ⟨r, hr, hrn⟩ := nat_of (HV.out.rg a HS.out.lt)
          have HRT : Hid ((l.at_ a).right.toNat = r) := Lib.hid (by rw [hr]; rfl)
          rw [hr] at f2
          have HM4 := Lib.hid (putBN hM (q := a) (by rw [hD]; exact han) true)
          have HO4 : Hid (OwnR nrow 1 3 (wr.setCell ⟨G, a, none⟩ (.bool true)) (G + 1) (.slice A3 n3 q3) (nat2 acc)) := Lib.hid (HO.out.blk fun i h3 _ _ => Below.heap_setCell wr ⟨G, a, none⟩ _ i (by simp only; omega))
          have HB4 := Lib.hid (HBW.out.setCell (p := ⟨G, a, none⟩) hs2 (.bool true))
          have f2' := (Below.cell (B := W.heap.size) ((Below.refl W.heap.size wr).setCell (p := ⟨G, a, none⟩) hs2 (.bool true)) (p := ⟨b, o + a * 5 + 2, none⟩) hbW).trans f2
          have f4' := (Below.cell (B := W.heap.size) ((Below.refl W.heap.size wr).setCell (p := ⟨G, a, none⟩) hs2 (.bool true)) (p := ⟨b, o + a * 5 + 4, none⟩) hbW).trans f4
          have HXR := Lib.hid (HX.out.below HB4.out)
          have x0' := HXR.out.cell 0
          have x1' := HXR.out.cell 1
          have hsz4 : G + 1 ≤ (wr.setCell ⟨G, a, none⟩ (.bool true)).heap.size := by simpa [World.setCell] using hsz2
          have HAL := Lib.hid HS.out.al
          rw [HRT.out] at HNX
          clear hB hM hd f2 f4 hb hr
          by_cases h2 : 2 ≤ a
          · have d2 : decide ((a : Int) ≥ 2) = true := by simp; omega
            have d2' : (2 : Int) ≤ (a : Int) := by omega
            cases hg : (l.at_ a).gone with
            | false =>
              rw [hg] at f4'
              rw [if_pos ⟨h2, hg⟩] at HNX
              clear hg
              go_upto_region 9 with fail
              generalize wr.setCell ⟨G, a, none⟩ (.bool true) = V at *
              go_wp2_with (at_builtin; refine wpList_pushR RowT.nu rfl (.tmp 42) (.tmp 44) rfl (G + 1) (.slice A3 n3 q3) (nat2 acc) V (a : Int) _ rfl (by simp [Act.eval]) HO4.out (by simp [Act.eval]) (by have := HAL.out; rw [nat2_len]; have := HN.out; omega) hsz4 ?_; intro v5 w5 ho5 hg5 hat5; obtain ⟨A5, n5, q5, hv5⟩ := own_sh ho5; subst hv5; have HO5 := Lib.hid ho5; have hgb := grown_below hg5 hsz4 (fun j e => (HO4.out.lt j e).1); have HGB := Lib.hid hgb; have f2 := (hgb.cell (p := ⟨b, o + a * 5 + 2, none⟩) (show b < G + 1 by omega)).trans f2'; have x0 := (hgb.cell (p := ⟨B, 0, none⟩) (show B < G + 1 by omega)).trans x0'; have x1 := (hgb.cell (p := ⟨B, 1, none⟩) (show B < G + 1 by omega)).trans x1'; clear ho5 hg5 hat5 hgb)
              have HMV := Lib.hid (HM4.out.keep (HGB.out.block G (by omega)))
              refine ⟨⟨r, _, _, _, _, rfl, rfl, HNX, HMV.out, ?_, HB4.out.trans (HGB.out.mono (by omega)), Nat.le_trans hsz4 HGB.out.size⟩, ?_⟩
              · have := HO5.out
                rwa [show nat2 acc ++ [(a : Int)] = nat2 (acc ++ [a]) by simp [nat2]] at this
              · rw [cntW_is HMV.out (by rw [List.length_set]; exact hD), HCW.out, ← HCS.out]
                omega
            | true =>
              rw [hg] at f4'
              rw [if_neg (fun q => by rw [hg] at q; cases q.2)] at HNX
              clear hg
              go_wp2_with fail
              refine ⟨⟨r, _, _, _, _, rfl, rfl, HNX, HM4.out, HO4.out, HB4.out, hsz4⟩, ?_⟩
              rw [cntW_is HM4.out (by rw [List.length_set]; exact hD), HCW.out, ← HCS.out]
              omega
          · have d2 : decide ((a : Int) ≥ 2) = false := by simp; omega
            have d2' : ¬ (2 : Int) ≤ (a : Int) := by omega
            rw [if_neg (fun q => h2 q.1)] at HNX
            go_wp2_with fail
            refine ⟨⟨r, _, _, _, _, rfl, rfl, HNX, HM4.out, HO4.out, HB4.out, hsz4⟩, ?_⟩
            rw [cntW_is HM4.out (by rw [List.length_set]; exact hD), HCW.out, ← HCS.out]
            omega
  · have H1 := Lib.hid (HVA.out.mono fun e w' h => h.no v)
    rw [vldB_no v, if_neg Bool.false_ne_true]
    clear hb h hn hm v HVA
    go_enter Tryz.func36, Tryz.ntmps36
    go_upto_region 1 with fail
    generalize w.alloc (.cells #[.slice A1 n c1, .slice A2 m c2] 28) = W at *
    go_wp2_with fail
    refine (H1.out).mono ?_
    rintro e w2 ⟨rfl, hb2⟩
    have HB2 := Lib.hid (HB.out.trans (hb2.mono HB.out.size))
    clear hb2
    go_wp2_with fail
    go_ret
    exact ⟨none, 0, 0, rfl, rfl, Nat.le_refl _, OwnR.nil, RdR.nil, HB2.out⟩
end Lf
end Go.Proofs.YtmhbloefmknikaaGreatDoor
