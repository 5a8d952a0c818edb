/-
  The library's merge in place at a row of nodes, whole: what it leaves. Condition: the row is as the sort holds it.
-/
import Derived.Test.YtiafimbehcemcaaDoorKhD
namespace Go.Proofs.YtiafimbehcemcaaDoor
open Go.RowKit

set_option maxRecDepth 100000 in
set_option maxHeartbeats 6400000 in
theorem sym_more (F : Nat → Nd) (B g n : Nat) (pad : List Value) (w0 : World) (sf : Nat) (sb : Array Value) (hSw : ∀ w1, SwapN sf sb w1 g pad n) (hL : LessN B w0 g pad n) (hn : n ≤ 1000000) (a m b : Nat) (ham : a + 1 < m) (hmb : m + 1 < b) (hb : b ≤ n) (G : Nat → Nat) (w : World) (hs : SG F n w0 g pad w G) (h1 : Sd F a m G) (h2 : Sd F m b G) (ht : ∀ p q, a ≤ p → p < m → m ≤ q → q < b → G p < G q)
    (ih : ∀ a' m' b', b' - a' < b - a → a' < m' → m' < b' → b' ≤ n → ∀ (H : Nat → Nat) (w : World), SG F n w0 g pad w H → Sd F a' m' H → Sd F m' b' H → (∀ p q, a' ≤ p → p < m' → m' ≤ q → q < b' → H p < H q) → Calls Tryd.prog 172 #[.agg #[.func (.func 107) #[] #[.pointer (some ⟨B, 0, none⟩)], .func (.func sf) #[] sb], .int .i64 (a' : Int), .int .i64 (m' : Int), .int .i64 (b' : Int)] w (MgP F n w0 g pad a' b' H w)) :
    Calls Tryd.prog 172 #[.agg #[.func (.func 107) #[] #[.pointer (some ⟨B, 0, none⟩)], .func (.func sf) #[] sb], .int .i64 (a : Int), .int .i64 (m : Int), .int .i64 (b : Int)] w (MgP F n w0 g pad a b G w) := by
  obtain ⟨w1, hw1⟩ : ∃ w1, w1 = w.alloc (.cells #[.func (.func 107) #[] #[.pointer (some ⟨B, 0, none⟩)], .func (.func sf) #[] sb] 186) := ⟨_, rfl⟩
  have hbw : Below w.heap.size w w1 := by rw [hw1]; exact (Below.refl _ _).alloc (Nat.le_refl _) _
  have hX : Has w1 w.heap.size 186 #[.func (.func 107) #[] #[.pointer (some ⟨B, 0, none⟩)], .func (.func sf) #[] sb] := by rw [hw1]; exact Has.new _ _ _
  have hXg : w.heap.size ≠ g := by have := hs.lt; omega
  have HK := Lib.hid (grown_of (g := g) hbw)
  have hs1 := hs.below hbw
  have HSW := Lib.hid (fun (W : World) (G' : Nat → Nat) (h : SG F n w0 g pad W G') (i j : Nat) (hi : i < n) (hj : j < n) (hij : i ≠ j) => h.swap hSw hi hj hij)
  have HLE := Lib.hid (fun (W : World) (G' : Nat → Nat) (h : SG F n w0 g pad W G') (i j : Nat) (hi : i < n) (hj : j < n) => h.less hL hi hj)
  have H1 := Lib.hid h1
  have H2 := Lib.hid h2
  have HT := Lib.hid ht
  have IH := Lib.hid ih
  have HSW0 := Lib.hid hSw
  have hm0 : ((m : Int) - (a : Int) == 1) = false := by simp; omega
  have hm1 : ((b : Int) - (m : Int) == 1) = false := by simp; omega
  have e1 : IntKind.i64.wrap ((m : Int) - (a : Int)) = (m : Int) - (a : Int) := IntWalk.i64_in _ (by omega)
  have e2 : IntKind.i64.wrap ((b : Int) - (m : Int)) = (b : Int) - (m : Int) := IntWalk.i64_in _ (by omega)
  have e3 : IntKind.i64.wrap ((a : Int) + (b : Int)) = (a : Int) + (b : Int) := IntWalk.i64_in _ (by omega)
  obtain ⟨mid, hmid⟩ : ∃ mid, mid = (a + b) / 2 := ⟨_, rfl⟩
  have e4 : ((a : Int) + (b : Int)) / 2 = (mid : Int) := by omega
  have M1 : a + b ≤ 2 * mid + 1 := by omega
  have M2 : 2 * mid ≤ a + b := by omega
  clear hs hSw hL hbw h1 h2 ht ih hmid
  go_enter Tryd.func172, Tryd.ntmps172
  by_cases hgm : mid < m
  · have hgt : (mid : Int) < (m : Int) := by omega
    have w6 : IntKind.i64.wrap ((mid : Int) + (m : Int) - (b : Int)) = ((mid + m - b : Nat) : Int) := by rw [show (mid : Int) + (m : Int) - (b : Int) = ((mid + m - b : Nat) : Int) by omega]; exact IntWalk.i64_in _ (by omega)
    obtain ⟨lo, hlo⟩ : ∃ lo, lo = mid + m - b := ⟨_, rfl⟩
    obtain ⟨hi, hhi⟩ : ∃ hi, hi = mid := ⟨_, rfl⟩
    have L1 : a ≤ lo := by omega
    have L2 : lo ≤ hi := by omega
    have L3 : hi ≤ m := by omega
    have L4 : hi ≤ mid := by omega
    have L5 : ∀ c, lo ≤ c → c < hi → m + c + 1 ≤ mid + m ∧ mid + m ≤ b + c := fun c c1 c2 => by omega
    have L6 : Hid (∀ s, s < m → m + s < mid + m → s ≤ hi → s < hi) := Lib.hid fun s s1 s2 s3 => by omega
    have L7 : Hid (∀ s, a < s → mid + m < b + s → lo ≤ s → lo < s) := Lib.hid fun s s1 s2 s3 => by omega
    have HLO : Hid ((lo : Int) = (mid : Int) + (m : Int) - (b : Int)) := Lib.hid (by omega)
    have HHI : Hid ((hi : Int) = (mid : Int)) := Lib.hid (by omega)
    clear hlo hhi
    go_wp2_with fail
    rw [← hw1]
    clear hw1
    go_loopw [18, 19] (fun vi vj wr => ∃ i j : Nat, vi = .int .i64 (i : Int) ∧ vj = .int .i64 (j : Int) ∧ lo ≤ i ∧ i ≤ j ∧ j ≤ hi ∧ w1.grownBy wr (some g) ∧ SG F n w0 g pad wr G ∧ Hid (∀ c, lo ≤ c → c < i → Lx F (G c) (G (mid + m - 1 - c))) ∧ Hid (∀ c, j ≤ c → c < hi → Lx F (G (mid + m - 1 - c)) (G c))) (fun vi vj _ => (intOf vj).toNat - (intOf vi).toNat)
    case atStart => exact ⟨lo, hi, by rw [HLO.out]; first | rfl | (congr 1; omega), by rw [HHI.out], Nat.le_refl _, L2, Nat.le_refl _, grownBy_refl _ _, hs1, Lib.hid (fun t h1 h2 => by omega), Lib.hid (fun t h1 h2 => by omega)⟩
    case round =>
      clear hs1
      obtain ⟨i, j, rfl, rfl, hai, hij, hjb, hgr, hs, HA, HB⟩ := hrel
      by_cases hlt : i < j
      · have hltz : (i : Int) < (j : Int) := by omega
        obtain ⟨h, hh⟩ : ∃ h, h = (i + j) / 2 := ⟨_, rfl⟩
        have h1 : i ≤ h := by omega
        have h2 : h < j := by omega
        have w1' : IntKind.i64.wrap ((i : Int) + (j : Int)) = (i : Int) + (j : Int) := IntWalk.i64_in _ (by omega)
        have hd : ((i : Int) + (j : Int)) / 2 = (h : Int) := by omega
        have l5 := L5 h (by omega) (by omega)
        have HC := HLE.out wr G hs (mid + m - 1 - h) h (by omega) (by omega)
        rw [show ((mid + m - 1 - h : Nat) : Int) = (mid : Int) + (m : Int) - 1 - (h : Int) by omega] at HC
        have HTA := HT.out h (mid + m - 1 - h) (by omega) (by omega) (by omega) (by omega)
        have hX2 := has_aside hgr hX hXg
        have x0 := hX2.cell 0
        clear hh hX2
        cases hp : nlt (F (G (mid + m - 1 - h))) (F (G h))
        · have HZ : Hid (∀ c, lo ≤ c → c < h + 1 → Lx F (G c) (G (mid + m - 1 - c))) := Lib.hid fun c c1 c2 => by
            have l5 := L5 c c1 (by omega)
            have l6 := L5 h (by omega) (by omega)
            exact sd_le H1.out (by omega) (show c ≤ h by omega) (by omega) (sd_ge H2.out (by omega) (show mid + m - 1 - h ≤ mid + m - 1 - c by omega) (by omega) ((lx_dn HTA).2 hp))
          rw [hp] at HC
          have HC := Lib.hid HC
          clear hp
          go_wp2_with fail
          refine (HC.out).mono ?_
          rintro e w2 ⟨rfl, hb2⟩
          go_wp2_with fail
          exact ⟨⟨h + 1, j, by go_num, rfl, by omega, by omega, hjb, grownBy_trans hgr (grown_of hb2), hs.below hb2, HZ, HB⟩, by simp [intOf]; omega⟩
        · have HZ : Hid (∀ c, h ≤ c → c < hi → Lx F (G (mid + m - 1 - c)) (G c)) := Lib.hid fun c c1 c2 => by
            have l5 := L5 c (by omega) c2
            have l6 := L5 h (by omega) (by omega)
            exact sd_le H2.out (by omega) (show mid + m - 1 - c ≤ mid + m - 1 - h by omega) (by omega) (sd_ge H1.out (by omega) c1 (by omega) ((lx_up HTA).2 hp))
          rw [hp] at HC
          have HC := Lib.hid HC
          clear hp
          go_wp2_with fail
          refine (HC.out).mono ?_
          rintro e w2 ⟨rfl, hb2⟩
          go_wp2_with fail
          exact ⟨⟨i, h, rfl, rfl, hai, h1, by omega, grownBy_trans hgr (grown_of hb2), hs.below hb2, HA, HZ⟩, by simp [intOf]; omega⟩
      · have e : j = i := by omega
        subst e
        have hltz : ¬ (j : Int) < (j : Int) := by omega
        obtain ⟨en, hen⟩ : ∃ en, en = mid + m - j := ⟨_, rfl⟩
        have w7 : IntKind.i64.wrap ((mid : Int) + (m : Int) - (j : Int)) = (en : Int) := by rw [show (mid : Int) + (m : Int) - (j : Int) = (en : Int) by omega]; exact IntWalk.i64_in _ (by omega)
        have E1 : m ≤ en := by omega
        have E2 : en ≤ b := by
          rcases Nat.lt_or_ge j hi with h8 | h8
          · have := L5 j hai h8; omega
          · have := HHI.out; omega
        have E3 : j + (en - m) = mid := by omega
        have HCUT : Hid (Cut4 F a j mid en b (rot j m en G)) := Lib.hid (by
          have h9 := cut4 (F := F) (s := j) (e := en) H1.out H2.out (by omega) (by omega) E1 E2 (fun p1 p2 => by
            have := HB.out j (Nat.le_refl _) (L6.out j p1 (by omega) hjb)
            rwa [show mid + m - 1 - j = en - 1 by omega] at this) (fun p1 p2 => by
            have h10 := L7.out j p1 (by omega) hai
            have := HA.out (j - 1) (by omega) (by omega)
            rwa [show mid + m - 1 - (j - 1) = en by omega] at this)
          rwa [E3] at h9)
        have HTT : Hid (∀ p q, a ≤ p → p < m → m ≤ q → q < b → G p < G q) := HT
        have HEN := Lib.hid hen
        have hjm : j ≤ m := by omega
        have haj : a ≤ j := by omega
        have hjmid : j ≤ mid := by omega
        have hmb : mid ≤ en := by omega
        clear HA HB hen L1 L2 L3 L4 L5 L6 L7 HLO HHI H1 H2 hai hij hjb hlt
        have wj : w1.grownBy wr (some g) := hgr
        by_cases c1 : j < m ∧ m < en
        · have q1 : (j : Int) < (m : Int) := by omega
          have q2 : (m : Int) < (en : Int) := by omega
          have HRO := Lib.hid (rotate F B g n pad w0 sf sb HSW0.out hn j m en c1.1 c1.2 (by omega) G wr hs)
          have hX2 := has_aside hgr hX hXg
          have x0 := hX2.cell 0
          have x1 := hX2.cell 1
          clear hX2 hs c1
          go_wp2_with fail
          refine (HRO.out).mono ?_
          rintro e w2 ⟨rfl, hg2, hs2⟩
          have hgr2 := grownBy_trans hgr hg2
          clear hgr wj hg2 x0 x1 HRO
          have W2 : Hid (Wi a b G (rot j m en G)) := Lib.hid ((rot_wi hjm E1 G).mono haj E2)
          have T1 : Hid (∀ p q, a ≤ p → p < j → j ≤ q → q < mid → rot j m en G p < rot j m en G q) := Lib.hid fun p q p1 p2 p3 p4 => by
            rw [rot_out G E1 (by omega) hjm, rot_lo G p3 (by omega)]
            exact HTT.out p _ p1 (by omega) (by omega) (by omega)
          have T2 : Hid (∀ p q, mid ≤ p → p < en → en ≤ q → q < b → rot j m en G p < rot j m en G q) := Lib.hid fun p q p1 p2 p3 p4 => by
            rw [rot_hi G (by omega) p2, rot_out G E1 (by omega) hjm]
            exact HTT.out _ q (by omega) (by omega) (by omega) p4
          generalize rot j m en G = H at *
          by_cases d1 : a < j ∧ j < mid
          · have r1 : (a : Int) < (j : Int) := by omega
            have r2 : (j : Int) < (mid : Int) := by omega
            have HI1 := Lib.hid (IH.out a j mid (by omega) d1.1 d1.2 (by omega) H _ hs2 HCUT.out.one HCUT.out.two T1.out)
            have hX2 := has_aside hgr2 hX hXg
            have x0 := hX2.cell 0
            have x1 := hX2.cell 1
            clear hX2 hs2 d1
            go_wp2_with fail
            refine (HI1.out).mono ?_
            rintro e w3 ⟨rfl, hg3, H3, hs3, W3, S3⟩
            have hgr3 := grownBy_trans hgr2 hg3
            have HW3 := Lib.hid W3
            have HS3 := Lib.hid S3
            clear hgr2 hg3 W3 S3 x0 x1 HI1 T1
            have T2' : Hid (∀ p q, mid ≤ p → p < en → en ≤ q → q < b → H3 p < H3 q) := Lib.hid fun p q p1 p2 p3 p4 => by
              rw [HW3.out.1 p (by omega), HW3.out.1 q (by omega)]
              exact T2.out p q p1 p2 p3 p4
            have S33 : Sd F mid en H3 := HW3.out.sd HCUT.out.three (.inr (Nat.le_refl _))
            have S34 : Sd F en b H3 := HW3.out.sd HCUT.out.four (.inr hmb)
            by_cases f1 : mid < en ∧ en < b
            · have s1 : (mid : Int) < (en : Int) := by omega
              have s2 : (en : Int) < (b : Int) := by omega
              have HI2 := Lib.hid (IH.out mid en b (by omega) f1.1 f1.2 hb H3 _ hs3 S33 S34 T2'.out)
              have hX2 := has_aside hgr3 hX hXg
              have x0 := hX2.cell 0
              have x1 := hX2.cell 1
              clear hX2 hs3 f1 S33 S34
              go_wp2_with fail
              all_goals
                refine (HI2.out).mono ?_
                rintro e w4 ⟨rfl, hg4, H4, hs4, W4, S4⟩
                have HW4 := Lib.hid W4
                have HS4 := Lib.hid S4
                clear W4 S4 x0 x1 HI2
                go_wp2_with fail
                go_end0
                refine ⟨rfl, grownBy_trans HK.out (grownBy_trans hgr3 hg4), H4, hs4, W2.out.trans ((HW3.out.mono (Nat.le_refl _) (by omega)).trans (HW4.out.mono (by omega) (Nat.le_refl _))), ?_⟩
                exact cut4_join HCUT.out (HW4.out.sd HS3.out (.inl (Nat.le_refl _))) HS4.out (fun k k1 k2 => by
                  rw [HW4.out.1 k (by omega)]
                  exact HW3.out.2 k k1 k2) (fun k k1 k2 => by
                  obtain ⟨k', a1, a2, e⟩ := HW4.out.2 k k1 k2
                  exact ⟨k', a1, a2, e.trans (HW3.out.1 k' (by omega))⟩)
            · have HS4 : Hid (Sd F mid b H3) := Lib.hid (by
                rcases Nat.lt_or_ge mid en with h8 | h8
                · have : en = b := by omega
                  rw [← this]; exact S33
                · have h9 : en = mid := by omega
                  rw [h9] at S34; exact S34)
              by_cases f2 : mid < en
              · have s1 : (mid : Int) < (en : Int) := by omega
                have s2 : ¬ (en : Int) < (b : Int) := by omega
                clear f1 f2 S33 S34
                go_wp2_with fail
                all_goals
                  go_end0
                  refine ⟨rfl, grownBy_trans HK.out hgr3, H3, hs3, W2.out.trans (HW3.out.mono (Nat.le_refl _) (by omega)), ?_⟩
                  exact cut4_join HCUT.out HS3.out HS4.out HW3.out.2 (fun k k1 k2 => ⟨k, k1, k2, HW3.out.1 k (by omega)⟩)
              · have s1 : ¬ (mid : Int) < (en : Int) := by omega
                clear f1 f2 S33 S34
                go_wp2_with fail
                all_goals
                  go_end0
                  refine ⟨rfl, grownBy_trans HK.out hgr3, H3, hs3, W2.out.trans (HW3.out.mono (Nat.le_refl _) (by omega)), ?_⟩
                  exact cut4_join HCUT.out HS3.out HS4.out HW3.out.2 (fun k k1 k2 => ⟨k, k1, k2, HW3.out.1 k (by omega)⟩)
          · have HS3 : Hid (Sd F a mid H) := Lib.hid (by
              rcases Nat.lt_or_ge a j with h8 | h8
              · have : j = mid := by omega
                rw [← this]; exact HCUT.out.one
              · have : j = a := by omega
                rw [← this]; exact this ▸ HCUT.out.two)
            have HW3 := Lib.hid (Wi.refl a mid H)
            have hs3 := hs2
            have hgr3 := hgr2
            clear hs2 hgr2 T1
            by_cases d2 : a < j
            · have r1 : (a : Int) < (j : Int) := by omega
              have r2 : ¬ (j : Int) < (mid : Int) := by omega
              clear d1 d2
              have T2' : Hid (∀ p q, mid ≤ p → p < en → en ≤ q → q < b → H p < H q) := Lib.hid fun p q p1 p2 p3 p4 => by
                rw [HW3.out.1 p (by omega), HW3.out.1 q (by omega)]
                exact T2.out p q p1 p2 p3 p4
              have S33 : Sd F mid en H := HW3.out.sd HCUT.out.three (.inr (Nat.le_refl _))
              have S34 : Sd F en b H := HW3.out.sd HCUT.out.four (.inr hmb)
              by_cases f1 : mid < en ∧ en < b
              · have s1 : (mid : Int) < (en : Int) := by omega
                have s2 : (en : Int) < (b : Int) := by omega
                have HI2 := Lib.hid (IH.out mid en b (by omega) f1.1 f1.2 hb H _ hs3 S33 S34 T2'.out)
                have hX2 := has_aside hgr3 hX hXg
                have x0 := hX2.cell 0
                have x1 := hX2.cell 1
                clear hX2 hs3 f1 S33 S34
                go_wp2_with fail
                all_goals
                  refine (HI2.out).mono ?_
                  rintro e w4 ⟨rfl, hg4, H4, hs4, W4, S4⟩
                  have HW4 := Lib.hid W4
                  have HS4 := Lib.hid S4
                  clear W4 S4 x0 x1 HI2
                  go_wp2_with fail
                  go_end0
                  refine ⟨rfl, grownBy_trans HK.out (grownBy_trans hgr3 hg4), H4, hs4, W2.out.trans ((HW3.out.mono (Nat.le_refl _) (by omega)).trans (HW4.out.mono (by omega) (Nat.le_refl _))), ?_⟩
                  exact cut4_join HCUT.out (HW4.out.sd HS3.out (.inl (Nat.le_refl _))) HS4.out (fun k k1 k2 => by
                    rw [HW4.out.1 k (by omega)]
                    exact HW3.out.2 k k1 k2) (fun k k1 k2 => by
                    obtain ⟨k', a1, a2, e⟩ := HW4.out.2 k k1 k2
                    exact ⟨k', a1, a2, e.trans (HW3.out.1 k' (by omega))⟩)
              · have HS4 : Hid (Sd F mid b H) := Lib.hid (by
                  rcases Nat.lt_or_ge mid en with h8 | h8
                  · have : en = b := by omega
                    rw [← this]; exact S33
                  · have h9 : en = mid := by omega
                    rw [h9] at S34; exact S34)
                by_cases f2 : mid < en
                · have s1 : (mid : Int) < (en : Int) := by omega
                  have s2 : ¬ (en : Int) < (b : Int) := by omega
                  clear f1 f2 S33 S34
                  go_wp2_with fail
                  all_goals
                    go_end0
                    refine ⟨rfl, grownBy_trans HK.out hgr3, H, hs3, W2.out.trans (HW3.out.mono (Nat.le_refl _) (by omega)), ?_⟩
                    exact cut4_join HCUT.out HS3.out HS4.out HW3.out.2 (fun k k1 k2 => ⟨k, k1, k2, HW3.out.1 k (by omega)⟩)
                · have s1 : ¬ (mid : Int) < (en : Int) := by omega
                  clear f1 f2 S33 S34
                  go_wp2_with fail
                  all_goals
                    go_end0
                    refine ⟨rfl, grownBy_trans HK.out hgr3, H, hs3, W2.out.trans (HW3.out.mono (Nat.le_refl _) (by omega)), ?_⟩
                    exact cut4_join HCUT.out HS3.out HS4.out HW3.out.2 (fun k k1 k2 => ⟨k, k1, k2, HW3.out.1 k (by omega)⟩)
            · have r1 : ¬ (a : Int) < (j : Int) := by omega
              clear d1 d2
              have T2' : Hid (∀ p q, mid ≤ p → p < en → en ≤ q → q < b → H p < H q) := Lib.hid fun p q p1 p2 p3 p4 => by
                rw [HW3.out.1 p (by omega), HW3.out.1 q (by omega)]
                exact T2.out p q p1 p2 p3 p4
              have S33 : Sd F mid en H := HW3.out.sd HCUT.out.three (.inr (Nat.le_refl _))
              have S34 : Sd F en b H := HW3.out.sd HCUT.out.four (.inr hmb)
              by_cases f1 : mid < en ∧ en < b
              · have s1 : (mid : Int) < (en : Int) := by omega
                have s2 : (en : Int) < (b : Int) := by omega
                have HI2 := Lib.hid (IH.out mid en b (by omega) f1.1 f1.2 hb H _ hs3 S33 S34 T2'.out)
                have hX2 := has_aside hgr3 hX hXg
                have x0 := hX2.cell 0
                have x1 := hX2.cell 1
                clear hX2 hs3 f1 S33 S34
                go_wp2_with fail
                all_goals
                  refine (HI2.out).mono ?_
                  rintro e w4 ⟨rfl, hg4, H4, hs4, W4, S4⟩
                  have HW4 := Lib.hid W4
                  have HS4 := Lib.hid S4
                  clear W4 S4 x0 x1 HI2
                  go_wp2_with fail
                  go_end0
                  refine ⟨rfl, grownBy_trans HK.out (grownBy_trans hgr3 hg4), H4, hs4, W2.out.trans ((HW3.out.mono (Nat.le_refl _) (by omega)).trans (HW4.out.mono (by omega) (Nat.le_refl _))), ?_⟩
                  exact cut4_join HCUT.out (HW4.out.sd HS3.out (.inl (Nat.le_refl _))) HS4.out (fun k k1 k2 => by
                    rw [HW4.out.1 k (by omega)]
                    exact HW3.out.2 k k1 k2) (fun k k1 k2 => by
                    obtain ⟨k', a1, a2, e⟩ := HW4.out.2 k k1 k2
                    exact ⟨k', a1, a2, e.trans (HW3.out.1 k' (by omega))⟩)
              · have HS4 : Hid (Sd F mid b H) := Lib.hid (by
                  rcases Nat.lt_or_ge mid en with h8 | h8
                  · have : en = b := by omega
                    rw [← this]; exact S33
                  · have h9 : en = mid := by omega
                    rw [h9] at S34; exact S34)
                by_cases f2 : mid < en
                · have s1 : (mid : Int) < (en : Int) := by omega
                  have s2 : ¬ (en : Int) < (b : Int) := by omega
                  clear f1 f2 S33 S34
                  go_wp2_with fail
                  all_goals
                    go_end0
                    refine ⟨rfl, grownBy_trans HK.out hgr3, H, hs3, W2.out.trans (HW3.out.mono (Nat.le_refl _) (by omega)), ?_⟩
                    exact cut4_join HCUT.out HS3.out HS4.out HW3.out.2 (fun k k1 k2 => ⟨k, k1, k2, HW3.out.1 k (by omega)⟩)
                · have s1 : ¬ (mid : Int) < (en : Int) := by omega
                  clear f1 f2 S33 S34
                  go_wp2_with fail
                  all_goals
                    go_end0
                    refine ⟨rfl, grownBy_trans HK.out hgr3, H, hs3, W2.out.trans (HW3.out.mono (Nat.le_refl _) (by omega)), ?_⟩
                    exact cut4_join HCUT.out HS3.out HS4.out HW3.out.2 (fun k k1 k2 => ⟨k, k1, k2, HW3.out.1 k (by omega)⟩)
        · have q1 : (j : Int) < (m : Int) → ¬ (m : Int) < (en : Int) := by omega
          have hrot : rot j m en G = G := by
            rcases Nat.lt_or_ge j m with h8 | h8
            · have : en = m := by omega
              rw [this]; exact rot_right hjm G
            · have : j = m := by omega
              rw [this]; exact rot_left m en G
          have hs2 : SG F n w0 g pad wr (rot j m en G) := by rw [hrot]; exact hs
          have hgr2 := hgr
          clear hrot hs hgr wj c1
          by_cases c0 : j < m
          · have q3 : (j : Int) < (m : Int) := by omega
            have q4 := q1 q3
            clear q1 c0
            have W2 : Hid (Wi a b G (rot j m en G)) := Lib.hid ((rot_wi hjm E1 G).mono haj E2)
            have T1 : Hid (∀ p q, a ≤ p → p < j → j ≤ q → q < mid → rot j m en G p < rot j m en G q) := Lib.hid fun p q p1 p2 p3 p4 => by
              rw [rot_out G E1 (by omega) hjm, rot_lo G p3 (by omega)]
              exact HTT.out p _ p1 (by omega) (by omega) (by omega)
            have T2 : Hid (∀ p q, mid ≤ p → p < en → en ≤ q → q < b → rot j m en G p < rot j m en G q) := Lib.hid fun p q p1 p2 p3 p4 => by
              rw [rot_hi G (by omega) p2, rot_out G E1 (by omega) hjm]
              exact HTT.out _ q (by omega) (by omega) (by omega) p4
            generalize rot j m en G = H at *
            by_cases d1 : a < j ∧ j < mid
            · have r1 : (a : Int) < (j : Int) := by omega
              have r2 : (j : Int) < (mid : Int) := by omega
              have HI1 := Lib.hid (IH.out a j mid (by omega) d1.1 d1.2 (by omega) H _ hs2 HCUT.out.one HCUT.out.two T1.out)
              have hX2 := has_aside hgr2 hX hXg
              have x0 := hX2.cell 0
              have x1 := hX2.cell 1
              clear hX2 hs2 d1
              go_wp2_with fail
              refine (HI1.out).mono ?_
              rintro e w3 ⟨rfl, hg3, H3, hs3, W3, S3⟩
              have hgr3 := grownBy_trans hgr2 hg3
              have HW3 := Lib.hid W3
              have HS3 := Lib.hid S3
              clear hgr2 hg3 W3 S3 x0 x1 HI1 T1
              have T2' : Hid (∀ p q, mid ≤ p → p < en → en ≤ q → q < b → H3 p < H3 q) := Lib.hid fun p q p1 p2 p3 p4 => by
                rw [HW3.out.1 p (by omega), HW3.out.1 q (by omega)]
                exact T2.out p q p1 p2 p3 p4
              have S33 : Sd F mid en H3 := HW3.out.sd HCUT.out.three (.inr (Nat.le_refl _))
              have S34 : Sd F en b H3 := HW3.out.sd HCUT.out.four (.inr hmb)
              by_cases f1 : mid < en ∧ en < b
              · have s1 : (mid : Int) < (en : Int) := by omega
                have s2 : (en : Int) < (b : Int) := by omega
                have HI2 := Lib.hid (IH.out mid en b (by omega) f1.1 f1.2 hb H3 _ hs3 S33 S34 T2'.out)
                have hX2 := has_aside hgr3 hX hXg
                have x0 := hX2.cell 0
                have x1 := hX2.cell 1
                clear hX2 hs3 f1 S33 S34
                go_wp2_with fail
                all_goals
                  refine (HI2.out).mono ?_
                  rintro e w4 ⟨rfl, hg4, H4, hs4, W4, S4⟩
                  have HW4 := Lib.hid W4
                  have HS4 := Lib.hid S4
                  clear W4 S4 x0 x1 HI2
                  go_wp2_with fail
                  go_end0
                  refine ⟨rfl, grownBy_trans HK.out (grownBy_trans hgr3 hg4), H4, hs4, W2.out.trans ((HW3.out.mono (Nat.le_refl _) (by omega)).trans (HW4.out.mono (by omega) (Nat.le_refl _))), ?_⟩
                  exact cut4_join HCUT.out (HW4.out.sd HS3.out (.inl (Nat.le_refl _))) HS4.out (fun k k1 k2 => by
                    rw [HW4.out.1 k (by omega)]
                    exact HW3.out.2 k k1 k2) (fun k k1 k2 => by
                    obtain ⟨k', a1, a2, e⟩ := HW4.out.2 k k1 k2
                    exact ⟨k', a1, a2, e.trans (HW3.out.1 k' (by omega))⟩)
              · have HS4 : Hid (Sd F mid b H3) := Lib.hid (by
                  rcases Nat.lt_or_ge mid en with h8 | h8
                  · have : en = b := by omega
                    rw [← this]; exact S33
                  · have h9 : en = mid := by omega
                    rw [h9] at S34; exact S34)
                by_cases f2 : mid < en
                · have s1 : (mid : Int) < (en : Int) := by omega
                  have s2 : ¬ (en : Int) < (b : Int) := by omega
                  clear f1 f2 S33 S34
                  go_wp2_with fail
                  all_goals
                    go_end0
                    refine ⟨rfl, grownBy_trans HK.out hgr3, H3, hs3, W2.out.trans (HW3.out.mono (Nat.le_refl _) (by omega)), ?_⟩
                    exact cut4_join HCUT.out HS3.out HS4.out HW3.out.2 (fun k k1 k2 => ⟨k, k1, k2, HW3.out.1 k (by omega)⟩)
                · have s1 : ¬ (mid : Int) < (en : Int) := by omega
                  clear f1 f2 S33 S34
                  go_wp2_with fail
                  all_goals
                    go_end0
                    refine ⟨rfl, grownBy_trans HK.out hgr3, H3, hs3, W2.out.trans (HW3.out.mono (Nat.le_refl _) (by omega)), ?_⟩
                    exact cut4_join HCUT.out HS3.out HS4.out HW3.out.2 (fun k k1 k2 => ⟨k, k1, k2, HW3.out.1 k (by omega)⟩)
            · have HS3 : Hid (Sd F a mid H) := Lib.hid (by
                rcases Nat.lt_or_ge a j with h8 | h8
                · have : j = mid := by omega
                  rw [← this]; exact HCUT.out.one
                · have : j = a := by omega
                  rw [← this]; exact this ▸ HCUT.out.two)
              have HW3 := Lib.hid (Wi.refl a mid H)
              have hs3 := hs2
              have hgr3 := hgr2
              clear hs2 hgr2 T1
              by_cases d2 : a < j
              · have r1 : (a : Int) < (j : Int) := by omega
                have r2 : ¬ (j : Int) < (mid : Int) := by omega
                clear d1 d2
                have T2' : Hid (∀ p q, mid ≤ p → p < en → en ≤ q → q < b → H p < H q) := Lib.hid fun p q p1 p2 p3 p4 => by
                  rw [HW3.out.1 p (by omega), HW3.out.1 q (by omega)]
                  exact T2.out p q p1 p2 p3 p4
                have S33 : Sd F mid en H := HW3.out.sd HCUT.out.three (.inr (Nat.le_refl _))
                have S34 : Sd F en b H := HW3.out.sd HCUT.out.four (.inr hmb)
                by_cases f1 : mid < en ∧ en < b
                · have s1 : (mid : Int) < (en : Int) := by omega
                  have s2 : (en : Int) < (b : Int) := by omega
                  have HI2 := Lib.hid (IH.out mid en b (by omega) f1.1 f1.2 hb H _ hs3 S33 S34 T2'.out)
                  have hX2 := has_aside hgr3 hX hXg
                  have x0 := hX2.cell 0
                  have x1 := hX2.cell 1
                  clear hX2 hs3 f1 S33 S34
                  go_wp2_with fail
                  all_goals
                    refine (HI2.out).mono ?_
                    rintro e w4 ⟨rfl, hg4, H4, hs4, W4, S4⟩
                    have HW4 := Lib.hid W4
                    have HS4 := Lib.hid S4
                    clear W4 S4 x0 x1 HI2
                    go_wp2_with fail
                    go_end0
                    refine ⟨rfl, grownBy_trans HK.out (grownBy_trans hgr3 hg4), H4, hs4, W2.out.trans ((HW3.out.mono (Nat.le_refl _) (by omega)).trans (HW4.out.mono (by omega) (Nat.le_refl _))), ?_⟩
                    exact cut4_join HCUT.out (HW4.out.sd HS3.out (.inl (Nat.le_refl _))) HS4.out (fun k k1 k2 => by
                      rw [HW4.out.1 k (by omega)]
                      exact HW3.out.2 k k1 k2) (fun k k1 k2 => by
                      obtain ⟨k', a1, a2, e⟩ := HW4.out.2 k k1 k2
                      exact ⟨k', a1, a2, e.trans (HW3.out.1 k' (by omega))⟩)
                · have HS4 : Hid (Sd F mid b H) := Lib.hid (by
                    rcases Nat.lt_or_ge mid en with h8 | h8
                    · have : en = b := by omega
                      rw [← this]; exact S33
                    · have h9 : en = mid := by omega
                      rw [h9] at S34; exact S34)
                  by_cases f2 : mid < en
                  · have s1 : (mid : Int) < (en : Int) := by omega
                    have s2 : ¬ (en : Int) < (b : Int) := by omega
                    clear f1 f2 S33 S34
                    go_wp2_with fail
                    all_goals
                      go_end0
                      refine ⟨rfl, grownBy_trans HK.out hgr3, H, hs3, W2.out.trans (HW3.out.mono (Nat.le_refl _) (by omega)), ?_⟩
                      exact cut4_join HCUT.out HS3.out HS4.out HW3.out.2 (fun k k1 k2 => ⟨k, k1, k2, HW3.out.1 k (by omega)⟩)
                  · have s1 : ¬ (mid : Int) < (en : Int) := by omega
                    clear f1 f2 S33 S34
                    go_wp2_with fail
                    all_goals
                      go_end0
                      refine ⟨rfl, grownBy_trans HK.out hgr3, H, hs3, W2.out.trans (HW3.out.mono (Nat.le_refl _) (by omega)), ?_⟩
                      exact cut4_join HCUT.out HS3.out HS4.out HW3.out.2 (fun k k1 k2 => ⟨k, k1, k2, HW3.out.1 k (by omega)⟩)
              · have r1 : ¬ (a : Int) < (j : Int) := by omega
                clear d1 d2
                have T2' : Hid (∀ p q, mid ≤ p → p < en → en ≤ q → q < b → H p < H q) := Lib.hid fun p q p1 p2 p3 p4 => by
                  rw [HW3.out.1 p (by omega), HW3.out.1 q (by omega)]
                  exact T2.out p q p1 p2 p3 p4
                have S33 : Sd F mid en H := HW3.out.sd HCUT.out.three (.inr (Nat.le_refl _))
                have S34 : Sd F en b H := HW3.out.sd HCUT.out.four (.inr hmb)
                by_cases f1 : mid < en ∧ en < b
                · have s1 : (mid : Int) < (en : Int) := by omega
                  have s2 : (en : Int) < (b : Int) := by omega
                  have HI2 := Lib.hid (IH.out mid en b (by omega) f1.1 f1.2 hb H _ hs3 S33 S34 T2'.out)
                  have hX2 := has_aside hgr3 hX hXg
                  have x0 := hX2.cell 0
                  have x1 := hX2.cell 1
                  clear hX2 hs3 f1 S33 S34
                  go_wp2_with fail
                  all_goals
                    refine (HI2.out).mono ?_
                    rintro e w4 ⟨rfl, hg4, H4, hs4, W4, S4⟩
                    have HW4 := Lib.hid W4
                    have HS4 := Lib.hid S4
                    clear W4 S4 x0 x1 HI2
                    go_wp2_with fail
                    go_end0
                    refine ⟨rfl, grownBy_trans HK.out (grownBy_trans hgr3 hg4), H4, hs4, W2.out.trans ((HW3.out.mono (Nat.le_refl _) (by omega)).trans (HW4.out.mono (by omega) (Nat.le_refl _))), ?_⟩
                    exact cut4_join HCUT.out (HW4.out.sd HS3.out (.inl (Nat.le_refl _))) HS4.out (fun k k1 k2 => by
                      rw [HW4.out.1 k (by omega)]
                      exact HW3.out.2 k k1 k2) (fun k k1 k2 => by
                      obtain ⟨k', a1, a2, e⟩ := HW4.out.2 k k1 k2
                      exact ⟨k', a1, a2, e.trans (HW3.out.1 k' (by omega))⟩)
                · have HS4 : Hid (Sd F mid b H) := Lib.hid (by
                    rcases Nat.lt_or_ge mid en with h8 | h8
                    · have : en = b := by omega
                      rw [← this]; exact S33
                    · have h9 : en = mid := by omega
                      rw [h9] at S34; exact S34)
                  by_cases f2 : mid < en
                  · have s1 : (mid : Int) < (en : Int) := by omega
                    have s2 : ¬ (en : Int) < (b : Int) := by omega
                    clear f1 f2 S33 S34
                    go_wp2_with fail
                    all_goals
                      go_end0
                      refine ⟨rfl, grownBy_trans HK.out hgr3, H, hs3, W2.out.trans (HW3.out.mono (Nat.le_refl _) (by omega)), ?_⟩
                      exact cut4_join HCUT.out HS3.out HS4.out HW3.out.2 (fun k k1 k2 => ⟨k, k1, k2, HW3.out.1 k (by omega)⟩)
                  · have s1 : ¬ (mid : Int) < (en : Int) := by omega
                    clear f1 f2 S33 S34
                    go_wp2_with fail
                    all_goals
                      go_end0
                      refine ⟨rfl, grownBy_trans HK.out hgr3, H, hs3, W2.out.trans (HW3.out.mono (Nat.le_refl _) (by omega)), ?_⟩
                      exact cut4_join HCUT.out HS3.out HS4.out HW3.out.2 (fun k k1 k2 => ⟨k, k1, k2, HW3.out.1 k (by omega)⟩)
          · have q3 : ¬ (j : Int) < (m : Int) := by omega
            clear q1 c0
            have W2 : Hid (Wi a b G (rot j m en G)) := Lib.hid ((rot_wi hjm E1 G).mono haj E2)
            have T1 : Hid (∀ p q, a ≤ p → p < j → j ≤ q → q < mid → rot j m en G p < rot j m en G q) := Lib.hid fun p q p1 p2 p3 p4 => by
              rw [rot_out G E1 (by omega) hjm, rot_lo G p3 (by omega)]
              exact HTT.out p _ p1 (by omega) (by omega) (by omega)
            have T2 : Hid (∀ p q, mid ≤ p → p < en → en ≤ q → q < b → rot j m en G p < rot j m en G q) := Lib.hid fun p q p1 p2 p3 p4 => by
              rw [rot_hi G (by omega) p2, rot_out G E1 (by omega) hjm]
              exact HTT.out _ q (by omega) (by omega) (by omega) p4
            generalize rot j m en G = H at *
            by_cases d1 : a < j ∧ j < mid
            · have r1 : (a : Int) < (j : Int) := by omega
              have r2 : (j : Int) < (mid : Int) := by omega
              have HI1 := Lib.hid (IH.out a j mid (by omega) d1.1 d1.2 (by omega) H _ hs2 HCUT.out.one HCUT.out.two T1.out)
              have hX2 := has_aside hgr2 hX hXg
              have x0 := hX2.cell 0
              have x1 := hX2.cell 1
              clear hX2 hs2 d1
              go_wp2_with fail
              refine (HI1.out).mono ?_
              rintro e w3 ⟨rfl, hg3, H3, hs3, W3, S3⟩
              have hgr3 := grownBy_trans hgr2 hg3
              have HW3 := Lib.hid W3
              have HS3 := Lib.hid S3
              clear hgr2 hg3 W3 S3 x0 x1 HI1 T1
              have T2' : Hid (∀ p q, mid ≤ p → p < en → en ≤ q → q < b → H3 p < H3 q) := Lib.hid fun p q p1 p2 p3 p4 => by
                rw [HW3.out.1 p (by omega), HW3.out.1 q (by omega)]
                exact T2.out p q p1 p2 p3 p4
              have S33 : Sd F mid en H3 := HW3.out.sd HCUT.out.three (.inr (Nat.le_refl _))
              have S34 : Sd F en b H3 := HW3.out.sd HCUT.out.four (.inr hmb)
              by_cases f1 : mid < en ∧ en < b
              · have s1 : (mid : Int) < (en : Int) := by omega
                have s2 : (en : Int) < (b : Int) := by omega
                have HI2 := Lib.hid (IH.out mid en b (by omega) f1.1 f1.2 hb H3 _ hs3 S33 S34 T2'.out)
                have hX2 := has_aside hgr3 hX hXg
                have x0 := hX2.cell 0
                have x1 := hX2.cell 1
                clear hX2 hs3 f1 S33 S34
                go_wp2_with fail
                all_goals
                  refine (HI2.out).mono ?_
                  rintro e w4 ⟨rfl, hg4, H4, hs4, W4, S4⟩
                  have HW4 := Lib.hid W4
                  have HS4 := Lib.hid S4
                  clear W4 S4 x0 x1 HI2
                  go_wp2_with fail
                  go_end0
                  refine ⟨rfl, grownBy_trans HK.out (grownBy_trans hgr3 hg4), H4, hs4, W2.out.trans ((HW3.out.mono (Nat.le_refl _) (by omega)).trans (HW4.out.mono (by omega) (Nat.le_refl _))), ?_⟩
                  exact cut4_join HCUT.out (HW4.out.sd HS3.out (.inl (Nat.le_refl _))) HS4.out (fun k k1 k2 => by
                    rw [HW4.out.1 k (by omega)]
                    exact HW3.out.2 k k1 k2) (fun k k1 k2 => by
                    obtain ⟨k', a1, a2, e⟩ := HW4.out.2 k k1 k2
                    exact ⟨k', a1, a2, e.trans (HW3.out.1 k' (by omega))⟩)
              · have HS4 : Hid (Sd F mid b H3) := Lib.hid (by
                  rcases Nat.lt_or_ge mid en with h8 | h8
                  · have : en = b := by omega
                    rw [← this]; exact S33
                  · have h9 : en = mid := by omega
                    rw [h9] at S34; exact S34)
                by_cases f2 : mid < en
                · have s1 : (mid : Int) < (en : Int) := by omega
                  have s2 : ¬ (en : Int) < (b : Int) := by omega
                  clear f1 f2 S33 S34
                  go_wp2_with fail
                  all_goals
                    go_end0
                    refine ⟨rfl, grownBy_trans HK.out hgr3, H3, hs3, W2.out.trans (HW3.out.mono (Nat.le_refl _) (by omega)), ?_⟩
                    exact cut4_join HCUT.out HS3.out HS4.out HW3.out.2 (fun k k1 k2 => ⟨k, k1, k2, HW3.out.1 k (by omega)⟩)
                · have s1 : ¬ (mid : Int) < (en : Int) := by omega
                  clear f1 f2 S33 S34
                  go_wp2_with fail
                  all_goals
                    go_end0
                    refine ⟨rfl, grownBy_trans HK.out hgr3, H3, hs3, W2.out.trans (HW3.out.mono (Nat.le_refl _) (by omega)), ?_⟩
                    exact cut4_join HCUT.out HS3.out HS4.out HW3.out.2 (fun k k1 k2 => ⟨k, k1, k2, HW3.out.1 k (by omega)⟩)
            · have HS3 : Hid (Sd F a mid H) := Lib.hid (by
                rcases Nat.lt_or_ge a j with h8 | h8
                · have : j = mid := by omega
                  rw [← this]; exact HCUT.out.one
                · have : j = a := by omega
                  rw [← this]; exact this ▸ HCUT.out.two)
              have HW3 := Lib.hid (Wi.refl a mid H)
              have hs3 := hs2
              have hgr3 := hgr2
              clear hs2 hgr2 T1
              by_cases d2 : a < j
              · have r1 : (a : Int) < (j : Int) := by omega
                have r2 : ¬ (j : Int) < (mid : Int) := by omega
                clear d1 d2
                have T2' : Hid (∀ p q, mid ≤ p → p < en → en ≤ q → q < b → H p < H q) := Lib.hid fun p q p1 p2 p3 p4 => by
                  rw [HW3.out.1 p (by omega), HW3.out.1 q (by omega)]
                  exact T2.out p q p1 p2 p3 p4
                have S33 : Sd F mid en H := HW3.out.sd HCUT.out.three (.inr (Nat.le_refl _))
                have S34 : Sd F en b H := HW3.out.sd HCUT.out.four (.inr hmb)
                by_cases f1 : mid < en ∧ en < b
                · have s1 : (mid : Int) < (en : Int) := by omega
                  have s2 : (en : Int) < (b : Int) := by omega
                  have HI2 := Lib.hid (IH.out mid en b (by omega) f1.1 f1.2 hb H _ hs3 S33 S34 T2'.out)
                  have hX2 := has_aside hgr3 hX hXg
                  have x0 := hX2.cell 0
                  have x1 := hX2.cell 1
                  clear hX2 hs3 f1 S33 S34
                  go_wp2_with fail
                  all_goals
                    refine (HI2.out).mono ?_
                    rintro e w4 ⟨rfl, hg4, H4, hs4, W4, S4⟩
                    have HW4 := Lib.hid W4
                    have HS4 := Lib.hid S4
                    clear W4 S4 x0 x1 HI2
                    go_wp2_with fail
                    go_end0
                    refine ⟨rfl, grownBy_trans HK.out (grownBy_trans hgr3 hg4), H4, hs4, W2.out.trans ((HW3.out.mono (Nat.le_refl _) (by omega)).trans (HW4.out.mono (by omega) (Nat.le_refl _))), ?_⟩
                    exact cut4_join HCUT.out (HW4.out.sd HS3.out (.inl (Nat.le_refl _))) HS4.out (fun k k1 k2 => by
                      rw [HW4.out.1 k (by omega)]
                      exact HW3.out.2 k k1 k2) (fun k k1 k2 => by
                      obtain ⟨k', a1, a2, e⟩ := HW4.out.2 k k1 k2
                      exact ⟨k', a1, a2, e.trans (HW3.out.1 k' (by omega))⟩)
                · have HS4 : Hid (Sd F mid b H) := Lib.hid (by
                    rcases Nat.lt_or_ge mid en with h8 | h8
                    · have : en = b := by omega
                      rw [← this]; exact S33
                    · have h9 : en = mid := by omega
                      rw [h9] at S34; exact S34)
                  by_cases f2 : mid < en
                  · have s1 : (mid : Int) < (en : Int) := by omega
                    have s2 : ¬ (en : Int) < (b : Int) := by omega
                    clear f1 f2 S33 S34
                    go_wp2_with fail
                    all_goals
                      go_end0
                      refine ⟨rfl, grownBy_trans HK.out hgr3, H, hs3, W2.out.trans (HW3.out.mono (Nat.le_refl _) (by omega)), ?_⟩
                      exact cut4_join HCUT.out HS3.out HS4.out HW3.out.2 (fun k k1 k2 => ⟨k, k1, k2, HW3.out.1 k (by omega)⟩)
                  · have s1 : ¬ (mid : Int) < (en : Int) := by omega
                    clear f1 f2 S33 S34
                    go_wp2_with fail
                    all_goals
                      go_end0
                      refine ⟨rfl, grownBy_trans HK.out hgr3, H, hs3, W2.out.trans (HW3.out.mono (Nat.le_refl _) (by omega)), ?_⟩
                      exact cut4_join HCUT.out HS3.out HS4.out HW3.out.2 (fun k k1 k2 => ⟨k, k1, k2, HW3.out.1 k (by omega)⟩)
              · have r1 : ¬ (a : Int) < (j : Int) := by omega
                clear d1 d2
                have T2' : Hid (∀ p q, mid ≤ p → p < en → en ≤ q → q < b → H p < H q) := Lib.hid fun p q p1 p2 p3 p4 => by
                  rw [HW3.out.1 p (by omega), HW3.out.1 q (by omega)]
                  exact T2.out p q p1 p2 p3 p4
                have S33 : Sd F mid en H := HW3.out.sd HCUT.out.three (.inr (Nat.le_refl _))
                have S34 : Sd F en b H := HW3.out.sd HCUT.out.four (.inr hmb)
                by_cases f1 : mid < en ∧ en < b
                · have s1 : (mid : Int) < (en : Int) := by omega
                  have s2 : (en : Int) < (b : Int) := by omega
                  have HI2 := Lib.hid (IH.out mid en b (by omega) f1.1 f1.2 hb H _ hs3 S33 S34 T2'.out)
                  have hX2 := has_aside hgr3 hX hXg
                  have x0 := hX2.cell 0
                  have x1 := hX2.cell 1
                  clear hX2 hs3 f1 S33 S34
                  go_wp2_with fail
                  all_goals
                    refine (HI2.out).mono ?_
                    rintro e w4 ⟨rfl, hg4, H4, hs4, W4, S4⟩
                    have HW4 := Lib.hid W4
                    have HS4 := Lib.hid S4
                    clear W4 S4 x0 x1 HI2
                    go_wp2_with fail
                    go_end0
                    refine ⟨rfl, grownBy_trans HK.out (grownBy_trans hgr3 hg4), H4, hs4, W2.out.trans ((HW3.out.mono (Nat.le_refl _) (by omega)).trans (HW4.out.mono (by omega) (Nat.le_refl _))), ?_⟩
                    exact cut4_join HCUT.out (HW4.out.sd HS3.out (.inl (Nat.le_refl _))) HS4.out (fun k k1 k2 => by
                      rw [HW4.out.1 k (by omega)]
                      exact HW3.out.2 k k1 k2) (fun k k1 k2 => by
                      obtain ⟨k', a1, a2, e⟩ := HW4.out.2 k k1 k2
                      exact ⟨k', a1, a2, e.trans (HW3.out.1 k' (by omega))⟩)
                · have HS4 : Hid (Sd F mid b H) := Lib.hid (by
                    rcases Nat.lt_or_ge mid en with h8 | h8
                    · have : en = b := by omega
                      rw [← this]; exact S33
                    · have h9 : en = mid := by omega
                      rw [h9] at S34; exact S34)
                  by_cases f2 : mid < en
                  · have s1 : (mid : Int) < (en : Int) := by omega
                    have s2 : ¬ (en : Int) < (b : Int) := by omega
                    clear f1 f2 S33 S34
                    go_wp2_with fail
                    all_goals
                      go_end0
                      refine ⟨rfl, grownBy_trans HK.out hgr3, H, hs3, W2.out.trans (HW3.out.mono (Nat.le_refl _) (by omega)), ?_⟩
                      exact cut4_join HCUT.out HS3.out HS4.out HW3.out.2 (fun k k1 k2 => ⟨k, k1, k2, HW3.out.1 k (by omega)⟩)
                  · have s1 : ¬ (mid : Int) < (en : Int) := by omega
                    clear f1 f2 S33 S34
                    go_wp2_with fail
                    all_goals
                      go_end0
                      refine ⟨rfl, grownBy_trans HK.out hgr3, H, hs3, W2.out.trans (HW3.out.mono (Nat.le_refl _) (by omega)), ?_⟩
                      exact cut4_join HCUT.out HS3.out HS4.out HW3.out.2 (fun k k1 k2 => ⟨k, k1, k2, HW3.out.1 k (by omega)⟩)
  · have hgt : ¬ (mid : Int) < (m : Int) := by omega
    obtain ⟨lo, hlo⟩ : ∃ lo, lo = a := ⟨_, rfl⟩
    obtain ⟨hi, hhi⟩ : ∃ hi, hi = m := ⟨_, rfl⟩
    have L1 : a ≤ lo := by omega
    have L2 : lo ≤ hi := by omega
    have L3 : hi ≤ m := by omega
    have L4 : hi ≤ mid := by omega
    have L5 : ∀ c, lo ≤ c → c < hi → m + c + 1 ≤ mid + m ∧ mid + m ≤ b + c := fun c c1 c2 => by omega
    have L6 : Hid (∀ s, s < m → m + s < mid + m → s ≤ hi → s < hi) := Lib.hid fun s s1 s2 s3 => by omega
    have L7 : Hid (∀ s, a < s → mid + m < b + s → lo ≤ s → lo < s) := Lib.hid fun s s1 s2 s3 => by omega
    have HLO : Hid ((lo : Int) = (a : Int)) := Lib.hid (by omega)
    have HHI : Hid ((hi : Int) = (m : Int)) := Lib.hid (by omega)
    clear hlo hhi
    go_wp2_with fail
    rw [← hw1]
    clear hw1
    go_loopw [18, 19] (fun vi vj wr => ∃ i j : Nat, vi = .int .i64 (i : Int) ∧ vj = .int .i64 (j : Int) ∧ lo ≤ i ∧ i ≤ j ∧ j ≤ hi ∧ w1.grownBy wr (some g) ∧ SG F n w0 g pad wr G ∧ Hid (∀ c, lo ≤ c → c < i → Lx F (G c) (G (mid + m - 1 - c))) ∧ Hid (∀ c, j ≤ c → c < hi → Lx F (G (mid + m - 1 - c)) (G c))) (fun vi vj _ => (intOf vj).toNat - (intOf vi).toNat)
    case atStart => exact ⟨lo, hi, by rw [HLO.out], by rw [HHI.out], Nat.le_refl _, L2, Nat.le_refl _, grownBy_refl _ _, hs1, Lib.hid (fun t h1 h2 => by omega), Lib.hid (fun t h1 h2 => by omega)⟩
    case round =>
      clear hs1
      obtain ⟨i, j, rfl, rfl, hai, hij, hjb, hgr, hs, HA, HB⟩ := hrel
      by_cases hlt : i < j
      · have hltz : (i : Int) < (j : Int) := by omega
        obtain ⟨h, hh⟩ : ∃ h, h = (i + j) / 2 := ⟨_, rfl⟩
        have h1 : i ≤ h := by omega
        have h2 : h < j := by omega
        have w1' : IntKind.i64.wrap ((i : Int) + (j : Int)) = (i : Int) + (j : Int) := IntWalk.i64_in _ (by omega)
        have hd : ((i : Int) + (j : Int)) / 2 = (h : Int) := by omega
        have l5 := L5 h (by omega) (by omega)
        have HC := HLE.out wr G hs (mid + m - 1 - h) h (by omega) (by omega)
        rw [show ((mid + m - 1 - h : Nat) : Int) = (mid : Int) + (m : Int) - 1 - (h : Int) by omega] at HC
        have HTA := HT.out h (mid + m - 1 - h) (by omega) (by omega) (by omega) (by omega)
        have hX2 := has_aside hgr hX hXg
        have x0 := hX2.cell 0
        clear hh hX2
        cases hp : nlt (F (G (mid + m - 1 - h))) (F (G h))
        · have HZ : Hid (∀ c, lo ≤ c → c < h + 1 → Lx F (G c) (G (mid + m - 1 - c))) := Lib.hid fun c c1 c2 => by
            have l5 := L5 c c1 (by omega)
            have l6 := L5 h (by omega) (by omega)
            exact sd_le H1.out (by omega) (show c ≤ h by omega) (by omega) (sd_ge H2.out (by omega) (show mid + m - 1 - h ≤ mid + m - 1 - c by omega) (by omega) ((lx_dn HTA).2 hp))
          rw [hp] at HC
          have HC := Lib.hid HC
          clear hp
          go_wp2_with fail
          refine (HC.out).mono ?_
          rintro e w2 ⟨rfl, hb2⟩
          go_wp2_with fail
          exact ⟨⟨h + 1, j, by go_num, rfl, by omega, by omega, hjb, grownBy_trans hgr (grown_of hb2), hs.below hb2, HZ, HB⟩, by simp [intOf]; omega⟩
        · have HZ : Hid (∀ c, h ≤ c → c < hi → Lx F (G (mid + m - 1 - c)) (G c)) := Lib.hid fun c c1 c2 => by
            have l5 := L5 c (by omega) c2
            have l6 := L5 h (by omega) (by omega)
            exact sd_le H2.out (by omega) (show mid + m - 1 - c ≤ mid + m - 1 - h by omega) (by omega) (sd_ge H1.out (by omega) c1 (by omega) ((lx_up HTA).2 hp))
          rw [hp] at HC
          have HC := Lib.hid HC
          clear hp
          go_wp2_with fail
          refine (HC.out).mono ?_
          rintro e w2 ⟨rfl, hb2⟩
          go_wp2_with fail
          exact ⟨⟨i, h, rfl, rfl, hai, h1, by omega, grownBy_trans hgr (grown_of hb2), hs.below hb2, HA, HZ⟩, by simp [intOf]; omega⟩
      · have e : j = i := by omega
        subst e
        have hltz : ¬ (j : Int) < (j : Int) := by omega
        obtain ⟨en, hen⟩ : ∃ en, en = mid + m - j := ⟨_, rfl⟩
        have w7 : IntKind.i64.wrap ((mid : Int) + (m : Int) - (j : Int)) = (en : Int) := by rw [show (mid : Int) + (m : Int) - (j : Int) = (en : Int) by omega]; exact IntWalk.i64_in _ (by omega)
        have E1 : m ≤ en := by omega
        have E2 : en ≤ b := by
          rcases Nat.lt_or_ge j hi with h8 | h8
          · have := L5 j hai h8; omega
          · have := HHI.out; omega
        have E3 : j + (en - m) = mid := by omega
        have HCUT : Hid (Cut4 F a j mid en b (rot j m en G)) := Lib.hid (by
          have h9 := cut4 (F := F) (s := j) (e := en) H1.out H2.out (by omega) (by omega) E1 E2 (fun p1 p2 => by
            have := HB.out j (Nat.le_refl _) (L6.out j p1 (by omega) hjb)
            rwa [show mid + m - 1 - j = en - 1 by omega] at this) (fun p1 p2 => by
            have h10 := L7.out j p1 (by omega) hai
            have := HA.out (j - 1) (by omega) (by omega)
            rwa [show mid + m - 1 - (j - 1) = en by omega] at this)
          rwa [E3] at h9)
        have HTT : Hid (∀ p q, a ≤ p → p < m → m ≤ q → q < b → G p < G q) := HT
        have HEN := Lib.hid hen
        have hjm : j ≤ m := by omega
        have haj : a ≤ j := by omega
        have hjmid : j ≤ mid := by omega
        have hmb : mid ≤ en := by omega
        clear HA HB hen L1 L2 L3 L4 L5 L6 L7 HLO HHI H1 H2 hai hij hjb hlt
        have wj : w1.grownBy wr (some g) := hgr
        by_cases c1 : j < m ∧ m < en
        · have q1 : (j : Int) < (m : Int) := by omega
          have q2 : (m : Int) < (en : Int) := by omega
          have HRO := Lib.hid (rotate F B g n pad w0 sf sb HSW0.out hn j m en c1.1 c1.2 (by omega) G wr hs)
          have hX2 := has_aside hgr hX hXg
          have x0 := hX2.cell 0
          have x1 := hX2.cell 1
          clear hX2 hs c1
          go_wp2_with fail
          refine (HRO.out).mono ?_
          rintro e w2 ⟨rfl, hg2, hs2⟩
          have hgr2 := grownBy_trans hgr hg2
          clear hgr wj hg2 x0 x1 HRO
          have W2 : Hid (Wi a b G (rot j m en G)) := Lib.hid ((rot_wi hjm E1 G).mono haj E2)
          have T1 : Hid (∀ p q, a ≤ p → p < j → j ≤ q → q < mid → rot j m en G p < rot j m en G q) := Lib.hid fun p q p1 p2 p3 p4 => by
            rw [rot_out G E1 (by omega) hjm, rot_lo G p3 (by omega)]
            exact HTT.out p _ p1 (by omega) (by omega) (by omega)
          have T2 : Hid (∀ p q, mid ≤ p → p < en → en ≤ q → q < b → rot j m en G p < rot j m en G q) := Lib.hid fun p q p1 p2 p3 p4 => by
            rw [rot_hi G (by omega) p2, rot_out G E1 (by omega) hjm]
            exact HTT.out _ q (by omega) (by omega) (by omega) p4
          generalize rot j m en G = H at *
          by_cases d1 : a < j ∧ j < mid
          · have r1 : (a : Int) < (j : Int) := by omega
            have r2 : (j : Int) < (mid : Int) := by omega
            have HI1 := Lib.hid (IH.out a j mid (by omega) d1.1 d1.2 (by omega) H _ hs2 HCUT.out.one HCUT.out.two T1.out)
            have hX2 := has_aside hgr2 hX hXg
            have x0 := hX2.cell 0
            have x1 := hX2.cell 1
            clear hX2 hs2 d1
            go_wp2_with fail
            refine (HI1.out).mono ?_
            rintro e w3 ⟨rfl, hg3, H3, hs3, W3, S3⟩
            have hgr3 := grownBy_trans hgr2 hg3
            have HW3 := Lib.hid W3
            have HS3 := Lib.hid S3
            clear hgr2 hg3 W3 S3 x0 x1 HI1 T1
            have T2' : Hid (∀ p q, mid ≤ p → p < en → en ≤ q → q < b → H3 p < H3 q) := Lib.hid fun p q p1 p2 p3 p4 => by
              rw [HW3.out.1 p (by omega), HW3.out.1 q (by omega)]
              exact T2.out p q p1 p2 p3 p4
            have S33 : Sd F mid en H3 := HW3.out.sd HCUT.out.three (.inr (Nat.le_refl _))
            have S34 : Sd F en b H3 := HW3.out.sd HCUT.out.four (.inr hmb)
            by_cases f1 : mid < en ∧ en < b
            · have s1 : (mid : Int) < (en : Int) := by omega
              have s2 : (en : Int) < (b : Int) := by omega
              have HI2 := Lib.hid (IH.out mid en b (by omega) f1.1 f1.2 hb H3 _ hs3 S33 S34 T2'.out)
              have hX2 := has_aside hgr3 hX hXg
              have x0 := hX2.cell 0
              have x1 := hX2.cell 1
              clear hX2 hs3 f1 S33 S34
              go_wp2_with fail
              all_goals
                refine (HI2.out).mono ?_
                rintro e w4 ⟨rfl, hg4, H4, hs4, W4, S4⟩
                have HW4 := Lib.hid W4
                have HS4 := Lib.hid S4
                clear W4 S4 x0 x1 HI2
                go_wp2_with fail
                go_end0
                refine ⟨rfl, grownBy_trans HK.out (grownBy_trans hgr3 hg4), H4, hs4, W2.out.trans ((HW3.out.mono (Nat.le_refl _) (by omega)).trans (HW4.out.mono (by omega) (Nat.le_refl _))), ?_⟩
                exact cut4_join HCUT.out (HW4.out.sd HS3.out (.inl (Nat.le_refl _))) HS4.out (fun k k1 k2 => by
                  rw [HW4.out.1 k (by omega)]
                  exact HW3.out.2 k k1 k2) (fun k k1 k2 => by
                  obtain ⟨k', a1, a2, e⟩ := HW4.out.2 k k1 k2
                  exact ⟨k', a1, a2, e.trans (HW3.out.1 k' (by omega))⟩)
            · have HS4 : Hid (Sd F mid b H3) := Lib.hid (by
                rcases Nat.lt_or_ge mid en with h8 | h8
                · have : en = b := by omega
                  rw [← this]; exact S33
                · have h9 : en = mid := by omega
                  rw [h9] at S34; exact S34)
              by_cases f2 : mid < en
              · have s1 : (mid : Int) < (en : Int) := by omega
                have s2 : ¬ (en : Int) < (b : Int) := by omega
                clear f1 f2 S33 S34
                go_wp2_with fail
                all_goals
                  go_end0
                  refine ⟨rfl, grownBy_trans HK.out hgr3, H3, hs3, W2.out.trans (HW3.out.mono (Nat.le_refl _) (by omega)), ?_⟩
                  exact cut4_join HCUT.out HS3.out HS4.out HW3.out.2 (fun k k1 k2 => ⟨k, k1, k2, HW3.out.1 k (by omega)⟩)
              · have s1 : ¬ (mid : Int) < (en : Int) := by omega
                clear f1 f2 S33 S34
                go_wp2_with fail
                all_goals
                  go_end0
                  refine ⟨rfl, grownBy_trans HK.out hgr3, H3, hs3, W2.out.trans (HW3.out.mono (Nat.le_refl _) (by omega)), ?_⟩
                  exact cut4_join HCUT.out HS3.out HS4.out HW3.out.2 (fun k k1 k2 => ⟨k, k1, k2, HW3.out.1 k (by omega)⟩)
          · have HS3 : Hid (Sd F a mid H) := Lib.hid (by
              rcases Nat.lt_or_ge a j with h8 | h8
              · have : j = mid := by omega
                rw [← this]; exact HCUT.out.one
              · have : j = a := by omega
                rw [← this]; exact this ▸ HCUT.out.two)
            have HW3 := Lib.hid (Wi.refl a mid H)
            have hs3 := hs2
            have hgr3 := hgr2
            clear hs2 hgr2 T1
            by_cases d2 : a < j
            · have r1 : (a : Int) < (j : Int) := by omega
              have r2 : ¬ (j : Int) < (mid : Int) := by omega
              clear d1 d2
              have T2' : Hid (∀ p q, mid ≤ p → p < en → en ≤ q → q < b → H p < H q) := Lib.hid fun p q p1 p2 p3 p4 => by
                rw [HW3.out.1 p (by omega), HW3.out.1 q (by omega)]
                exact T2.out p q p1 p2 p3 p4
              have S33 : Sd F mid en H := HW3.out.sd HCUT.out.three (.inr (Nat.le_refl _))
              have S34 : Sd F en b H := HW3.out.sd HCUT.out.four (.inr hmb)
              by_cases f1 : mid < en ∧ en < b
              · have s1 : (mid : Int) < (en : Int) := by omega
                have s2 : (en : Int) < (b : Int) := by omega
                have HI2 := Lib.hid (IH.out mid en b (by omega) f1.1 f1.2 hb H _ hs3 S33 S34 T2'.out)
                have hX2 := has_aside hgr3 hX hXg
                have x0 := hX2.cell 0
                have x1 := hX2.cell 1
                clear hX2 hs3 f1 S33 S34
                go_wp2_with fail
                all_goals
                  refine (HI2.out).mono ?_
                  rintro e w4 ⟨rfl, hg4, H4, hs4, W4, S4⟩
                  have HW4 := Lib.hid W4
                  have HS4 := Lib.hid S4
                  clear W4 S4 x0 x1 HI2
                  go_wp2_with fail
                  go_end0
                  refine ⟨rfl, grownBy_trans HK.out (grownBy_trans hgr3 hg4), H4, hs4, W2.out.trans ((HW3.out.mono (Nat.le_refl _) (by omega)).trans (HW4.out.mono (by omega) (Nat.le_refl _))), ?_⟩
                  exact cut4_join HCUT.out (HW4.out.sd HS3.out (.inl (Nat.le_refl _))) HS4.out (fun k k1 k2 => by
                    rw [HW4.out.1 k (by omega)]
                    exact HW3.out.2 k k1 k2) (fun k k1 k2 => by
                    obtain ⟨k', a1, a2, e⟩ := HW4.out.2 k k1 k2
                    exact ⟨k', a1, a2, e.trans (HW3.out.1 k' (by omega))⟩)
              · have HS4 : Hid (Sd F mid b H) := Lib.hid (by
                  rcases Nat.lt_or_ge mid en with h8 | h8
                  · have : en = b := by omega
                    rw [← this]; exact S33
                  · have h9 : en = mid := by omega
                    rw [h9] at S34; exact S34)
                by_cases f2 : mid < en
                · have s1 : (mid : Int) < (en : Int) := by omega
                  have s2 : ¬ (en : Int) < (b : Int) := by omega
                  clear f1 f2 S33 S34
                  go_wp2_with fail
                  all_goals
                    go_end0
                    refine ⟨rfl, grownBy_trans HK.out hgr3, H, hs3, W2.out.trans (HW3.out.mono (Nat.le_refl _) (by omega)), ?_⟩
                    exact cut4_join HCUT.out HS3.out HS4.out HW3.out.2 (fun k k1 k2 => ⟨k, k1, k2, HW3.out.1 k (by omega)⟩)
                · have s1 : ¬ (mid : Int) < (en : Int) := by omega
                  clear f1 f2 S33 S34
                  go_wp2_with fail
                  all_goals
                    go_end0
                    refine ⟨rfl, grownBy_trans HK.out hgr3, H, hs3, W2.out.trans (HW3.out.mono (Nat.le_refl _) (by omega)), ?_⟩
                    exact cut4_join HCUT.out HS3.out HS4.out HW3.out.2 (fun k k1 k2 => ⟨k, k1, k2, HW3.out.1 k (by omega)⟩)
            · have r1 : ¬ (a : Int) < (j : Int) := by omega
              clear d1 d2
              have T2' : Hid (∀ p q, mid ≤ p → p < en → en ≤ q → q < b → H p < H q) := Lib.hid fun p q p1 p2 p3 p4 => by
                rw [HW3.out.1 p (by omega), HW3.out.1 q (by omega)]
                exact T2.out p q p1 p2 p3 p4
              have S33 : Sd F mid en H := HW3.out.sd HCUT.out.three (.inr (Nat.le_refl _))
              have S34 : Sd F en b H := HW3.out.sd HCUT.out.four (.inr hmb)
              by_cases f1 : mid < en ∧ en < b
              · have s1 : (mid : Int) < (en : Int) := by omega
                have s2 : (en : Int) < (b : Int) := by omega
                have HI2 := Lib.hid (IH.out mid en b (by omega) f1.1 f1.2 hb H _ hs3 S33 S34 T2'.out)
                have hX2 := has_aside hgr3 hX hXg
                have x0 := hX2.cell 0
                have x1 := hX2.cell 1
                clear hX2 hs3 f1 S33 S34
                go_wp2_with fail
                all_goals
                  refine (HI2.out).mono ?_
                  rintro e w4 ⟨rfl, hg4, H4, hs4, W4, S4⟩
                  have HW4 := Lib.hid W4
                  have HS4 := Lib.hid S4
                  clear W4 S4 x0 x1 HI2
                  go_wp2_with fail
                  go_end0
                  refine ⟨rfl, grownBy_trans HK.out (grownBy_trans hgr3 hg4), H4, hs4, W2.out.trans ((HW3.out.mono (Nat.le_refl _) (by omega)).trans (HW4.out.mono (by omega) (Nat.le_refl _))), ?_⟩
                  exact cut4_join HCUT.out (HW4.out.sd HS3.out (.inl (Nat.le_refl _))) HS4.out (fun k k1 k2 => by
                    rw [HW4.out.1 k (by omega)]
                    exact HW3.out.2 k k1 k2) (fun k k1 k2 => by
                    obtain ⟨k', a1, a2, e⟩ := HW4.out.2 k k1 k2
                    exact ⟨k', a1, a2, e.trans (HW3.out.1 k' (by omega))⟩)
              · have HS4 : Hid (Sd F mid b H) := Lib.hid (by
                  rcases Nat.lt_or_ge mid en with h8 | h8
                  · have : en = b := by omega
                    rw [← this]; exact S33
                  · have h9 : en = mid := by omega
                    rw [h9] at S34; exact S34)
                by_cases f2 : mid < en
                · have s1 : (mid : Int) < (en : Int) := by omega
                  have s2 : ¬ (en : Int) < (b : Int) := by omega
                  clear f1 f2 S33 S34
                  go_wp2_with fail
                  all_goals
                    go_end0
                    refine ⟨rfl, grownBy_trans HK.out hgr3, H, hs3, W2.out.trans (HW3.out.mono (Nat.le_refl _) (by omega)), ?_⟩
                    exact cut4_join HCUT.out HS3.out HS4.out HW3.out.2 (fun k k1 k2 => ⟨k, k1, k2, HW3.out.1 k (by omega)⟩)
                · have s1 : ¬ (mid : Int) < (en : Int) := by omega
                  clear f1 f2 S33 S34
                  go_wp2_with fail
                  all_goals
                    go_end0
                    refine ⟨rfl, grownBy_trans HK.out hgr3, H, hs3, W2.out.trans (HW3.out.mono (Nat.le_refl _) (by omega)), ?_⟩
                    exact cut4_join HCUT.out HS3.out HS4.out HW3.out.2 (fun k k1 k2 => ⟨k, k1, k2, HW3.out.1 k (by omega)⟩)
        · have q1 : (j : Int) < (m : Int) → ¬ (m : Int) < (en : Int) := by omega
          have hrot : rot j m en G = G := by
            rcases Nat.lt_or_ge j m with h8 | h8
            · have : en = m := by omega
              rw [this]; exact rot_right hjm G
            · have : j = m := by omega
              rw [this]; exact rot_left m en G
          have hs2 : SG F n w0 g pad wr (rot j m en G) := by rw [hrot]; exact hs
          have hgr2 := hgr
          clear hrot hs hgr wj c1
          by_cases c0 : j < m
          · have q3 : (j : Int) < (m : Int) := by omega
            have q4 := q1 q3
            clear q1 c0
            have W2 : Hid (Wi a b G (rot j m en G)) := Lib.hid ((rot_wi hjm E1 G).mono haj E2)
            have T1 : Hid (∀ p q, a ≤ p → p < j → j ≤ q → q < mid → rot j m en G p < rot j m en G q) := Lib.hid fun p q p1 p2 p3 p4 => by
              rw [rot_out G E1 (by omega) hjm, rot_lo G p3 (by omega)]
              exact HTT.out p _ p1 (by omega) (by omega) (by omega)
            have T2 : Hid (∀ p q, mid ≤ p → p < en → en ≤ q → q < b → rot j m en G p < rot j m en G q) := Lib.hid fun p q p1 p2 p3 p4 => by
              rw [rot_hi G (by omega) p2, rot_out G E1 (by omega) hjm]
              exact HTT.out _ q (by omega) (by omega) (by omega) p4
            generalize rot j m en G = H at *
            by_cases d1 : a < j ∧ j < mid
            · have r1 : (a : Int) < (j : Int) := by omega
              have r2 : (j : Int) < (mid : Int) := by omega
              have HI1 := Lib.hid (IH.out a j mid (by omega) d1.1 d1.2 (by omega) H _ hs2 HCUT.out.one HCUT.out.two T1.out)
              have hX2 := has_aside hgr2 hX hXg
              have x0 := hX2.cell 0
              have x1 := hX2.cell 1
              clear hX2 hs2 d1
              go_wp2_with fail
              refine (HI1.out).mono ?_
              rintro e w3 ⟨rfl, hg3, H3, hs3, W3, S3⟩
              have hgr3 := grownBy_trans hgr2 hg3
              have HW3 := Lib.hid W3
              have HS3 := Lib.hid S3
              clear hgr2 hg3 W3 S3 x0 x1 HI1 T1
              have T2' : Hid (∀ p q, mid ≤ p → p < en → en ≤ q → q < b → H3 p < H3 q) := Lib.hid fun p q p1 p2 p3 p4 => by
                rw [HW3.out.1 p (by omega), HW3.out.1 q (by omega)]
                exact T2.out p q p1 p2 p3 p4
              have S33 : Sd F mid en H3 := HW3.out.sd HCUT.out.three (.inr (Nat.le_refl _))
              have S34 : Sd F en b H3 := HW3.out.sd HCUT.out.four (.inr hmb)
              by_cases f1 : mid < en ∧ en < b
              · have s1 : (mid : Int) < (en : Int) := by omega
                have s2 : (en : Int) < (b : Int) := by omega
                have HI2 := Lib.hid (IH.out mid en b (by omega) f1.1 f1.2 hb H3 _ hs3 S33 S34 T2'.out)
                have hX2 := has_aside hgr3 hX hXg
                have x0 := hX2.cell 0
                have x1 := hX2.cell 1
                clear hX2 hs3 f1 S33 S34
                go_wp2_with fail
                all_goals
                  refine (HI2.out).mono ?_
                  rintro e w4 ⟨rfl, hg4, H4, hs4, W4, S4⟩
                  have HW4 := Lib.hid W4
                  have HS4 := Lib.hid S4
                  clear W4 S4 x0 x1 HI2
                  go_wp2_with fail
                  go_end0
                  refine ⟨rfl, grownBy_trans HK.out (grownBy_trans hgr3 hg4), H4, hs4, W2.out.trans ((HW3.out.mono (Nat.le_refl _) (by omega)).trans (HW4.out.mono (by omega) (Nat.le_refl _))), ?_⟩
                  exact cut4_join HCUT.out (HW4.out.sd HS3.out (.inl (Nat.le_refl _))) HS4.out (fun k k1 k2 => by
                    rw [HW4.out.1 k (by omega)]
                    exact HW3.out.2 k k1 k2) (fun k k1 k2 => by
                    obtain ⟨k', a1, a2, e⟩ := HW4.out.2 k k1 k2
                    exact ⟨k', a1, a2, e.trans (HW3.out.1 k' (by omega))⟩)
              · have HS4 : Hid (Sd F mid b H3) := Lib.hid (by
                  rcases Nat.lt_or_ge mid en with h8 | h8
                  · have : en = b := by omega
                    rw [← this]; exact S33
                  · have h9 : en = mid := by omega
                    rw [h9] at S34; exact S34)
                by_cases f2 : mid < en
                · have s1 : (mid : Int) < (en : Int) := by omega
                  have s2 : ¬ (en : Int) < (b : Int) := by omega
                  clear f1 f2 S33 S34
                  go_wp2_with fail
                  all_goals
                    go_end0
                    refine ⟨rfl, grownBy_trans HK.out hgr3, H3, hs3, W2.out.trans (HW3.out.mono (Nat.le_refl _) (by omega)), ?_⟩
                    exact cut4_join HCUT.out HS3.out HS4.out HW3.out.2 (fun k k1 k2 => ⟨k, k1, k2, HW3.out.1 k (by omega)⟩)
                · have s1 : ¬ (mid : Int) < (en : Int) := by omega
                  clear f1 f2 S33 S34
                  go_wp2_with fail
                  all_goals
                    go_end0
                    refine ⟨rfl, grownBy_trans HK.out hgr3, H3, hs3, W2.out.trans (HW3.out.mono (Nat.le_refl _) (by omega)), ?_⟩
                    exact cut4_join HCUT.out HS3.out HS4.out HW3.out.2 (fun k k1 k2 => ⟨k, k1, k2, HW3.out.1 k (by omega)⟩)
            · have HS3 : Hid (Sd F a mid H) := Lib.hid (by
                rcases Nat.lt_or_ge a j with h8 | h8
                · have : j = mid := by omega
                  rw [← this]; exact HCUT.out.one
                · have : j = a := by omega
                  rw [← this]; exact this ▸ HCUT.out.two)
              have HW3 := Lib.hid (Wi.refl a mid H)
              have hs3 := hs2
              have hgr3 := hgr2
              clear hs2 hgr2 T1
              by_cases d2 : a < j
              · have r1 : (a : Int) < (j : Int) := by omega
                have r2 : ¬ (j : Int) < (mid : Int) := by omega
                clear d1 d2
                have T2' : Hid (∀ p q, mid ≤ p → p < en → en ≤ q → q < b → H p < H q) := Lib.hid fun p q p1 p2 p3 p4 => by
                  rw [HW3.out.1 p (by omega), HW3.out.1 q (by omega)]
                  exact T2.out p q p1 p2 p3 p4
                have S33 : Sd F mid en H := HW3.out.sd HCUT.out.three (.inr (Nat.le_refl _))
                have S34 : Sd F en b H := HW3.out.sd HCUT.out.four (.inr hmb)
                by_cases f1 : mid < en ∧ en < b
                · have s1 : (mid : Int) < (en : Int) := by omega
                  have s2 : (en : Int) < (b : Int) := by omega
                  have HI2 := Lib.hid (IH.out mid en b (by omega) f1.1 f1.2 hb H _ hs3 S33 S34 T2'.out)
                  have hX2 := has_aside hgr3 hX hXg
                  have x0 := hX2.cell 0
                  have x1 := hX2.cell 1
                  clear hX2 hs3 f1 S33 S34
                  go_wp2_with fail
                  all_goals
                    refine (HI2.out).mono ?_
                    rintro e w4 ⟨rfl, hg4, H4, hs4, W4, S4⟩
                    have HW4 := Lib.hid W4
                    have HS4 := Lib.hid S4
                    clear W4 S4 x0 x1 HI2
                    go_wp2_with fail
                    go_end0
                    refine ⟨rfl, grownBy_trans HK.out (grownBy_trans hgr3 hg4), H4, hs4, W2.out.trans ((HW3.out.mono (Nat.le_refl _) (by omega)).trans (HW4.out.mono (by omega) (Nat.le_refl _))), ?_⟩
                    exact cut4_join HCUT.out (HW4.out.sd HS3.out (.inl (Nat.le_refl _))) HS4.out (fun k k1 k2 => by
                      rw [HW4.out.1 k (by omega)]
                      exact HW3.out.2 k k1 k2) (fun k k1 k2 => by
                      obtain ⟨k', a1, a2, e⟩ := HW4.out.2 k k1 k2
                      exact ⟨k', a1, a2, e.trans (HW3.out.1 k' (by omega))⟩)
                · have HS4 : Hid (Sd F mid b H) := Lib.hid (by
                    rcases Nat.lt_or_ge mid en with h8 | h8
                    · have : en = b := by omega
                      rw [← this]; exact S33
                    · have h9 : en = mid := by omega
                      rw [h9] at S34; exact S34)
                  by_cases f2 : mid < en
                  · have s1 : (mid : Int) < (en : Int) := by omega
                    have s2 : ¬ (en : Int) < (b : Int) := by omega
                    clear f1 f2 S33 S34
                    go_wp2_with fail
                    all_goals
                      go_end0
                      refine ⟨rfl, grownBy_trans HK.out hgr3, H, hs3, W2.out.trans (HW3.out.mono (Nat.le_refl _) (by omega)), ?_⟩
                      exact cut4_join HCUT.out HS3.out HS4.out HW3.out.2 (fun k k1 k2 => ⟨k, k1, k2, HW3.out.1 k (by omega)⟩)
                  · have s1 : ¬ (mid : Int) < (en : Int) := by omega
                    clear f1 f2 S33 S34
                    go_wp2_with fail
                    all_goals
                      go_end0
                      refine ⟨rfl, grownBy_trans HK.out hgr3, H, hs3, W2.out.trans (HW3.out.mono (Nat.le_refl _) (by omega)), ?_⟩
                      exact cut4_join HCUT.out HS3.out HS4.out HW3.out.2 (fun k k1 k2 => ⟨k, k1, k2, HW3.out.1 k (by omega)⟩)
              · have r1 : ¬ (a : Int) < (j : Int) := by omega
                clear d1 d2
                have T2' : Hid (∀ p q, mid ≤ p → p < en → en ≤ q → q < b → H p < H q) := Lib.hid fun p q p1 p2 p3 p4 => by
                  rw [HW3.out.1 p (by omega), HW3.out.1 q (by omega)]
                  exact T2.out p q p1 p2 p3 p4
                have S33 : Sd F mid en H := HW3.out.sd HCUT.out.three (.inr (Nat.le_refl _))
                have S34 : Sd F en b H := HW3.out.sd HCUT.out.four (.inr hmb)
                by_cases f1 : mid < en ∧ en < b
                · have s1 : (mid : Int) < (en : Int) := by omega
                  have s2 : (en : Int) < (b : Int) := by omega
                  have HI2 := Lib.hid (IH.out mid en b (by omega) f1.1 f1.2 hb H _ hs3 S33 S34 T2'.out)
                  have hX2 := has_aside hgr3 hX hXg
                  have x0 := hX2.cell 0
                  have x1 := hX2.cell 1
                  clear hX2 hs3 f1 S33 S34
                  go_wp2_with fail
                  all_goals
                    refine (HI2.out).mono ?_
                    rintro e w4 ⟨rfl, hg4, H4, hs4, W4, S4⟩
                    have HW4 := Lib.hid W4
                    have HS4 := Lib.hid S4
                    clear W4 S4 x0 x1 HI2
                    go_wp2_with fail
                    go_end0
                    refine ⟨rfl, grownBy_trans HK.out (grownBy_trans hgr3 hg4), H4, hs4, W2.out.trans ((HW3.out.mono (Nat.le_refl _) (by omega)).trans (HW4.out.mono (by omega) (Nat.le_refl _))), ?_⟩
                    exact cut4_join HCUT.out (HW4.out.sd HS3.out (.inl (Nat.le_refl _))) HS4.out (fun k k1 k2 => by
                      rw [HW4.out.1 k (by omega)]
                      exact HW3.out.2 k k1 k2) (fun k k1 k2 => by
                      obtain ⟨k', a1, a2, e⟩ := HW4.out.2 k k1 k2
                      exact ⟨k', a1, a2, e.trans (HW3.out.1 k' (by omega))⟩)
                · have HS4 : Hid (Sd F mid b H) := Lib.hid (by
                    rcases Nat.lt_or_ge mid en with h8 | h8
                    · have : en = b := by omega
                      rw [← this]; exact S33
                    · have h9 : en = mid := by omega
                      rw [h9] at S34; exact S34)
                  by_cases f2 : mid < en
                  · have s1 : (mid : Int) < (en : Int) := by omega
                    have s2 : ¬ (en : Int) < (b : Int) := by omega
                    clear f1 f2 S33 S34
                    go_wp2_with fail
                    all_goals
                      go_end0
                      refine ⟨rfl, grownBy_trans HK.out hgr3, H, hs3, W2.out.trans (HW3.out.mono (Nat.le_refl _) (by omega)), ?_⟩
                      exact cut4_join HCUT.out HS3.out HS4.out HW3.out.2 (fun k k1 k2 => ⟨k, k1, k2, HW3.out.1 k (by omega)⟩)
                  · have s1 : ¬ (mid : Int) < (en : Int) := by omega
                    clear f1 f2 S33 S34
                    go_wp2_with fail
                    all_goals
                      go_end0
                      refine ⟨rfl, grownBy_trans HK.out hgr3, H, hs3, W2.out.trans (HW3.out.mono (Nat.le_refl _) (by omega)), ?_⟩
                      exact cut4_join HCUT.out HS3.out HS4.out HW3.out.2 (fun k k1 k2 => ⟨k, k1, k2, HW3.out.1 k (by omega)⟩)
          · have q3 : ¬ (j : Int) < (m : Int) := by omega
            clear q1 c0
            have W2 : Hid (Wi a b G (rot j m en G)) := Lib.hid ((rot_wi hjm E1 G).mono haj E2)
            have T1 : Hid (∀ p q, a ≤ p → p < j → j ≤ q → q < mid → rot j m en G p < rot j m en G q) := Lib.hid fun p q p1 p2 p3 p4 => by
              rw [rot_out G E1 (by omega) hjm, rot_lo G p3 (by omega)]
              exact HTT.out p _ p1 (by omega) (by omega) (by omega)
            have T2 : Hid (∀ p q, mid ≤ p → p < en → en ≤ q → q < b → rot j m en G p < rot j m en G q) := Lib.hid fun p q p1 p2 p3 p4 => by
              rw [rot_hi G (by omega) p2, rot_out G E1 (by omega) hjm]
              exact HTT.out _ q (by omega) (by omega) (by omega) p4
            generalize rot j m en G = H at *
            by_cases d1 : a < j ∧ j < mid
            · have r1 : (a : Int) < (j : Int) := by omega
              have r2 : (j : Int) < (mid : Int) := by omega
              have HI1 := Lib.hid (IH.out a j mid (by omega) d1.1 d1.2 (by omega) H _ hs2 HCUT.out.one HCUT.out.two T1.out)
              have hX2 := has_aside hgr2 hX hXg
              have x0 := hX2.cell 0
              have x1 := hX2.cell 1
              clear hX2 hs2 d1
              go_wp2_with fail
              refine (HI1.out).mono ?_
              rintro e w3 ⟨rfl, hg3, H3, hs3, W3, S3⟩
              have hgr3 := grownBy_trans hgr2 hg3
              have HW3 := Lib.hid W3
              have HS3 := Lib.hid S3
              clear hgr2 hg3 W3 S3 x0 x1 HI1 T1
              have T2' : Hid (∀ p q, mid ≤ p → p < en → en ≤ q → q < b → H3 p < H3 q) := Lib.hid fun p q p1 p2 p3 p4 => by
                rw [HW3.out.1 p (by omega), HW3.out.1 q (by omega)]
                exact T2.out p q p1 p2 p3 p4
              have S33 : Sd F mid en H3 := HW3.out.sd HCUT.out.three (.inr (Nat.le_refl _))
              have S34 : Sd F en b H3 := HW3.out.sd HCUT.out.four (.inr hmb)
              by_cases f1 : mid < en ∧ en < b
              · have s1 : (mid : Int) < (en : Int) := by omega
                have s2 : (en : Int) < (b : Int) := by omega
                have HI2 := Lib.hid (IH.out mid en b (by omega) f1.1 f1.2 hb H3 _ hs3 S33 S34 T2'.out)
                have hX2 := has_aside hgr3 hX hXg
                have x0 := hX2.cell 0
                have x1 := hX2.cell 1
                clear hX2 hs3 f1 S33 S34
                go_wp2_with fail
                all_goals
                  refine (HI2.out).mono ?_
                  rintro e w4 ⟨rfl, hg4, H4, hs4, W4, S4⟩
                  have HW4 := Lib.hid W4
                  have HS4 := Lib.hid S4
                  clear W4 S4 x0 x1 HI2
                  go_wp2_with fail
                  go_end0
                  refine ⟨rfl, grownBy_trans HK.out (grownBy_trans hgr3 hg4), H4, hs4, W2.out.trans ((HW3.out.mono (Nat.le_refl _) (by omega)).trans (HW4.out.mono (by omega) (Nat.le_refl _))), ?_⟩
                  exact cut4_join HCUT.out (HW4.out.sd HS3.out (.inl (Nat.le_refl _))) HS4.out (fun k k1 k2 => by
                    rw [HW4.out.1 k (by omega)]
                    exact HW3.out.2 k k1 k2) (fun k k1 k2 => by
                    obtain ⟨k', a1, a2, e⟩ := HW4.out.2 k k1 k2
                    exact ⟨k', a1, a2, e.trans (HW3.out.1 k' (by omega))⟩)
              · have HS4 : Hid (Sd F mid b H3) := Lib.hid (by
                  rcases Nat.lt_or_ge mid en with h8 | h8
                  · have : en = b := by omega
                    rw [← this]; exact S33
                  · have h9 : en = mid := by omega
                    rw [h9] at S34; exact S34)
                by_cases f2 : mid < en
                · have s1 : (mid : Int) < (en : Int) := by omega
                  have s2 : ¬ (en : Int) < (b : Int) := by omega
                  clear f1 f2 S33 S34
                  go_wp2_with fail
                  all_goals
                    go_end0
                    refine ⟨rfl, grownBy_trans HK.out hgr3, H3, hs3, W2.out.trans (HW3.out.mono (Nat.le_refl _) (by omega)), ?_⟩
                    exact cut4_join HCUT.out HS3.out HS4.out HW3.out.2 (fun k k1 k2 => ⟨k, k1, k2, HW3.out.1 k (by omega)⟩)
                · have s1 : ¬ (mid : Int) < (en : Int) := by omega
                  clear f1 f2 S33 S34
                  go_wp2_with fail
                  all_goals
                    go_end0
                    refine ⟨rfl, grownBy_trans HK.out hgr3, H3, hs3, W2.out.trans (HW3.out.mono (Nat.le_refl _) (by omega)), ?_⟩
                    exact cut4_join HCUT.out HS3.out HS4.out HW3.out.2 (fun k k1 k2 => ⟨k, k1, k2, HW3.out.1 k (by omega)⟩)
            · have HS3 : Hid (Sd F a mid H) := Lib.hid (by
                rcases Nat.lt_or_ge a j with h8 | h8
                · have : j = mid := by omega
                  rw [← this]; exact HCUT.out.one
                · have : j = a := by omega
                  rw [← this]; exact this ▸ HCUT.out.two)
              have HW3 := Lib.hid (Wi.refl a mid H)
              have hs3 := hs2
              have hgr3 := hgr2
              clear hs2 hgr2 T1
              by_cases d2 : a < j
              · have r1 : (a : Int) < (j : Int) := by omega
                have r2 : ¬ (j : Int) < (mid : Int) := by omega
                clear d1 d2
                have T2' : Hid (∀ p q, mid ≤ p → p < en → en ≤ q → q < b → H p < H q) := Lib.hid fun p q p1 p2 p3 p4 => by
                  rw [HW3.out.1 p (by omega), HW3.out.1 q (by omega)]
                  exact T2.out p q p1 p2 p3 p4
                have S33 : Sd F mid en H := HW3.out.sd HCUT.out.three (.inr (Nat.le_refl _))
                have S34 : Sd F en b H := HW3.out.sd HCUT.out.four (.inr hmb)
                by_cases f1 : mid < en ∧ en < b
                · have s1 : (mid : Int) < (en : Int) := by omega
                  have s2 : (en : Int) < (b : Int) := by omega
                  have HI2 := Lib.hid (IH.out mid en b (by omega) f1.1 f1.2 hb H _ hs3 S33 S34 T2'.out)
                  have hX2 := has_aside hgr3 hX hXg
                  have x0 := hX2.cell 0
                  have x1 := hX2.cell 1
                  clear hX2 hs3 f1 S33 S34
                  go_wp2_with fail
                  all_goals
                    refine (HI2.out).mono ?_
                    rintro e w4 ⟨rfl, hg4, H4, hs4, W4, S4⟩
                    have HW4 := Lib.hid W4
                    have HS4 := Lib.hid S4
                    clear W4 S4 x0 x1 HI2
                    go_wp2_with fail
                    go_end0
                    refine ⟨rfl, grownBy_trans HK.out (grownBy_trans hgr3 hg4), H4, hs4, W2.out.trans ((HW3.out.mono (Nat.le_refl _) (by omega)).trans (HW4.out.mono (by omega) (Nat.le_refl _))), ?_⟩
                    exact cut4_join HCUT.out (HW4.out.sd HS3.out (.inl (Nat.le_refl _))) HS4.out (fun k k1 k2 => by
                      rw [HW4.out.1 k (by omega)]
                      exact HW3.out.2 k k1 k2) (fun k k1 k2 => by
                      obtain ⟨k', a1, a2, e⟩ := HW4.out.2 k k1 k2
                      exact ⟨k', a1, a2, e.trans (HW3.out.1 k' (by omega))⟩)
                · have HS4 : Hid (Sd F mid b H) := Lib.hid (by
                    rcases Nat.lt_or_ge mid en with h8 | h8
                    · have : en = b := by omega
                      rw [← this]; exact S33
                    · have h9 : en = mid := by omega
                      rw [h9] at S34; exact S34)
                  by_cases f2 : mid < en
                  · have s1 : (mid : Int) < (en : Int) := by omega
                    have s2 : ¬ (en : Int) < (b : Int) := by omega
                    clear f1 f2 S33 S34
                    go_wp2_with fail
                    all_goals
                      go_end0
                      refine ⟨rfl, grownBy_trans HK.out hgr3, H, hs3, W2.out.trans (HW3.out.mono (Nat.le_refl _) (by omega)), ?_⟩
                      exact cut4_join HCUT.out HS3.out HS4.out HW3.out.2 (fun k k1 k2 => ⟨k, k1, k2, HW3.out.1 k (by omega)⟩)
                  · have s1 : ¬ (mid : Int) < (en : Int) := by omega
                    clear f1 f2 S33 S34
                    go_wp2_with fail
                    all_goals
                      go_end0
                      refine ⟨rfl, grownBy_trans HK.out hgr3, H, hs3, W2.out.trans (HW3.out.mono (Nat.le_refl _) (by omega)), ?_⟩
                      exact cut4_join HCUT.out HS3.out HS4.out HW3.out.2 (fun k k1 k2 => ⟨k, k1, k2, HW3.out.1 k (by omega)⟩)
              · have r1 : ¬ (a : Int) < (j : Int) := by omega
                clear d1 d2
                have T2' : Hid (∀ p q, mid ≤ p → p < en → en ≤ q → q < b → H p < H q) := Lib.hid fun p q p1 p2 p3 p4 => by
                  rw [HW3.out.1 p (by omega), HW3.out.1 q (by omega)]
                  exact T2.out p q p1 p2 p3 p4
                have S33 : Sd F mid en H := HW3.out.sd HCUT.out.three (.inr (Nat.le_refl _))
                have S34 : Sd F en b H := HW3.out.sd HCUT.out.four (.inr hmb)
                by_cases f1 : mid < en ∧ en < b
                · have s1 : (mid : Int) < (en : Int) := by omega
                  have s2 : (en : Int) < (b : Int) := by omega
                  have HI2 := Lib.hid (IH.out mid en b (by omega) f1.1 f1.2 hb H _ hs3 S33 S34 T2'.out)
                  have hX2 := has_aside hgr3 hX hXg
                  have x0 := hX2.cell 0
                  have x1 := hX2.cell 1
                  clear hX2 hs3 f1 S33 S34
                  go_wp2_with fail
                  all_goals
                    refine (HI2.out).mono ?_
                    rintro e w4 ⟨rfl, hg4, H4, hs4, W4, S4⟩
                    have HW4 := Lib.hid W4
                    have HS4 := Lib.hid S4
                    clear W4 S4 x0 x1 HI2
                    go_wp2_with fail
                    go_end0
                    refine ⟨rfl, grownBy_trans HK.out (grownBy_trans hgr3 hg4), H4, hs4, W2.out.trans ((HW3.out.mono (Nat.le_refl _) (by omega)).trans (HW4.out.mono (by omega) (Nat.le_refl _))), ?_⟩
                    exact cut4_join HCUT.out (HW4.out.sd HS3.out (.inl (Nat.le_refl _))) HS4.out (fun k k1 k2 => by
                      rw [HW4.out.1 k (by omega)]
                      exact HW3.out.2 k k1 k2) (fun k k1 k2 => by
                      obtain ⟨k', a1, a2, e⟩ := HW4.out.2 k k1 k2
                      exact ⟨k', a1, a2, e.trans (HW3.out.1 k' (by omega))⟩)
                · have HS4 : Hid (Sd F mid b H) := Lib.hid (by
                    rcases Nat.lt_or_ge mid en with h8 | h8
                    · have : en = b := by omega
                      rw [← this]; exact S33
                    · have h9 : en = mid := by omega
                      rw [h9] at S34; exact S34)
                  by_cases f2 : mid < en
                  · have s1 : (mid : Int) < (en : Int) := by omega
                    have s2 : ¬ (en : Int) < (b : Int) := by omega
                    clear f1 f2 S33 S34
                    go_wp2_with fail
                    all_goals
                      go_end0
                      refine ⟨rfl, grownBy_trans HK.out hgr3, H, hs3, W2.out.trans (HW3.out.mono (Nat.le_refl _) (by omega)), ?_⟩
                      exact cut4_join HCUT.out HS3.out HS4.out HW3.out.2 (fun k k1 k2 => ⟨k, k1, k2, HW3.out.1 k (by omega)⟩)
                  · have s1 : ¬ (mid : Int) < (en : Int) := by omega
                    clear f1 f2 S33 S34
                    go_wp2_with fail
                    all_goals
                      go_end0
                      refine ⟨rfl, grownBy_trans HK.out hgr3, H, hs3, W2.out.trans (HW3.out.mono (Nat.le_refl _) (by omega)), ?_⟩
                      exact cut4_join HCUT.out HS3.out HS4.out HW3.out.2 (fun k k1 k2 => ⟨k, k1, k2, HW3.out.1 k (by omega)⟩)
end Go.Proofs.YtiafimbehcemcaaDoor
