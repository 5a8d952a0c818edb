/-
  The library's merge in place at a row of nodes, whole: what it leaves. Condition: the row is as the sort holds it.
  The library's stable sort at a row of nodes of any number up to a million: what it leaves. Condition: the row is as the sort holds it.
  Sort of package roster, of any list of at most 100,000 nodes: what it gives. Condition: the nodes can be read.
-/
import Derived.Test.YtjokbdhineilcaaGreatDoorLhA
import Derived.Test.YtjokbdhineilcaaGreatDoorLgA
namespace Go.Proofs.YtjokbdhineilcaaGreatDoor
section
open Go.RowKit

set_option maxRecDepth 100000 in
set_option maxHeartbeats 6400000 in
theorem sym_more (F : Nat → Nd) (B g n : Nat) (pad : List Value) (w0 : World) (sf : Nat) (sb : Array Value) (hSw : ∀ w1, SwapN sf sb w1 g pad n) (hL : LessN B w0 g pad n) (hn : n ≤ 1000000) (a m b : Nat) (ham : a + 1 < m) (hmb : m + 1 < b) (hb : b ≤ n) (G : Nat → Nat) (w : World) (hs : SG F n w0 g pad w G) (h1 : Sd F a m G) (h2 : Sd F m b G) (ht : ∀ p q, a ≤ p → p < m → m ≤ q → q < b → G p < G q)
    (ih : ∀ a' m' b', b' - a' < b - a → a' < m' → m' < b' → b' ≤ n → ∀ (H : Nat → Nat) (w : World), SG F n w0 g pad w H → Sd F a' m' H → Sd F m' b' H → (∀ p q, a' ≤ p → p < m' → m' ≤ q → q < b' → H p < H q) → Calls Tryz.prog 108 #[.agg #[.func (.func 80) #[] #[.pointer (some ⟨B, 0, none⟩)], .func (.func sf) #[] sb], .int .i64 (a' : Int), .int .i64 (m' : Int), .int .i64 (b' : Int)] w (MgP F n w0 g pad a' b' H w)) :
    Calls Tryz.prog 108 #[.agg #[.func (.func 80) #[] #[.pointer (some ⟨B, 0, none⟩)], .func (.func sf) #[] sb], .int .i64 (a : Int), .int .i64 (m : Int), .int .i64 (b : Int)] w (MgP F n w0 g pad a b G w) := by
  obtain ⟨w1, hw1⟩ : ∃ w1, w1 = w.alloc (.cells #[.func (.func 80) #[] #[.pointer (some ⟨B, 0, none⟩)], .func (.func sf) #[] sb] 137) := ⟨_, rfl⟩
  have hbw : Below w.heap.size w w1 := by rw [hw1]; exact (Below.refl _ _).alloc (Nat.le_refl _) _
  have hX : Has w1 w.heap.size 137 #[.func (.func 80) #[] #[.pointer (some ⟨B, 0, none⟩)], .func (.func sf) #[] sb] := by rw [hw1]; exact Has.new _ _ _
  have hXg : w.heap.size ≠ g := by have := hs.lt; omega
  have HK := Lib.hid (grown_of (g := g) hbw)
  have hs1 := hs.below hbw
  have HSW := Lib.hid (fun (W : World) (G' : Nat → Nat) (h : SG F n w0 g pad W G') (i j : Nat) (hi : i < n) (hj : j < n) (hij : i ≠ j) => h.swap hSw hi hj hij)
  have HLE := Lib.hid (fun (W : World) (G' : Nat → Nat) (h : SG F n w0 g pad W G') (i j : Nat) (hi : i < n) (hj : j < n) => h.less hL hi hj)
  have H1 := Lib.hid h1
  have H2 := Lib.hid h2
  have HT := Lib.hid ht
  have IH := Lib.hid ih
  have HSW0 := Lib.hid hSw
  have hm0 : ((m : Int) - (a : Int) == 1) = false := by simp; omega
  have hm1 : ((b : Int) - (m : Int) == 1) = false := by simp; omega
  have e1 : IntKind.i64.wrap ((m : Int) - (a : Int)) = (m : Int) - (a : Int) := IntWalk.i64_in _ (by omega)
  have e2 : IntKind.i64.wrap ((b : Int) - (m : Int)) = (b : Int) - (m : Int) := IntWalk.i64_in _ (by omega)
  have e3 : IntKind.i64.wrap ((a : Int) + (b : Int)) = (a : Int) + (b : Int) := IntWalk.i64_in _ (by omega)
  obtain ⟨mid, hmid⟩ : ∃ mid, mid = (a + b) / 2 := ⟨_, rfl⟩
  have e4 : ((a : Int) + (b : Int)) / 2 = (mid : Int) := by omega
  have M1 : a + b ≤ 2 * mid + 1 := by omega
  have M2 : 2 * mid ≤ a + b := by omega
  clear hs hSw hL hbw h1 h2 ht ih hmid
  go_enter Tryz.func108, Tryz.ntmps108
  by_cases hgm : mid < m
  · have hgt : (mid : Int) < (m : Int) := by omega
    have w6 : IntKind.i64.wrap ((mid : Int) + (m : Int) - (b : Int)) = ((mid + m - b : Nat) : Int) := by rw [show (mid : Int) + (m : Int) - (b : Int) = ((mid + m - b : Nat) : Int) by omega]; exact IntWalk.i64_in _ (by omega)
    obtain ⟨lo, hlo⟩ : ∃ lo, lo = mid + m - b := ⟨_, rfl⟩
    obtain ⟨hi, hhi⟩ : ∃ hi, hi = mid := ⟨_, rfl⟩
    have L1 : a ≤ lo := by omega
    have L2 : lo ≤ hi := by omega
    have L3 : hi ≤ m := by omega
    have L4 : hi ≤ mid := by omega
    have L5 : ∀ c, lo ≤ c → c < hi → m + c + 1 ≤ mid + m ∧ mid + m ≤ b + c := fun c c1 c2 => by omega
    have L6 : Hid (∀ s, s < m → m + s < mid + m → s ≤ hi → s < hi) := Lib.hid fun s s1 s2 s3 => by omega
    have L7 : Hid (∀ s, a < s → mid + m < b + s → lo ≤ s → lo < s) := Lib.hid fun s s1 s2 s3 => by omega
    have HLO : Hid ((lo : Int) = (mid : Int) + (m : Int) - (b : Int)) := Lib.hid (by omega)
    have HHI : Hid ((hi : Int) = (mid : Int)) := Lib.hid (by omega)
    clear hlo hhi
    go_wp2_with fail
    rw [← hw1]
    clear hw1
    go_loopw [18, 19] (fun vi vj wr => ∃ i j : Nat, vi = .int .i64 (i : Int) ∧ vj = .int .i64 (j : Int) ∧ lo ≤ i ∧ i ≤ j ∧ j ≤ hi ∧ w1.grownBy wr (some g) ∧ SG F n w0 g pad wr G ∧ Hid (∀ c, lo ≤ c → c < i → Lx F (G c) (G (mid + m - 1 - c))) ∧ Hid (∀ c, j ≤ c → c < hi → Lx F (G (mid + m - 1 - c)) (G c))) (fun vi vj _ => (intOf vj).toNat - (intOf vi).toNat)
    case atStart => exact ⟨lo, hi, by rw [HLO.out]; first | rfl | (congr 1; omega), by rw [HHI.out], Nat.le_refl _, L2, Nat.le_refl _, grownBy_refl _ _, hs1, Lib.hid (fun t h1 h2 => by omega), Lib.hid (fun t h1 h2 => by omega)⟩
    case round =>
      clear hs1
      obtain ⟨i, j, rfl, rfl, hai, hij, hjb, hgr, hs, HA, HB⟩ := hrel
      by_cases hlt : i < j
      · have hltz : (i : Int) < (j : Int) := by omega
        obtain ⟨h, hh⟩ : ∃ h, h = (i + j) / 2 := ⟨_, rfl⟩
        have h1 : i ≤ h := by omega
        have h2 : h < j := by omega
        have w1' : IntKind.i64.wrap ((i : Int) + (j : Int)) = (i : Int) + (j : Int) := IntWalk.i64_in _ (by omega)
        have hd : ((i : Int) + (j : Int)) / 2 = (h : Int) := by omega
        have l5 := L5 h (by omega) (by omega)
        have HC := HLE.out wr G hs (mid + m - 1 - h) h (by omega) (by omega)
        rw [show ((mid + m - 1 - h : Nat) : Int) = (mid : Int) + (m : Int) - 1 - (h : Int) by omega] at HC
        have HTA := HT.out h (mid + m - 1 - h) (by omega) (by omega) (by omega) (by omega)
        have hX2 := has_aside hgr hX hXg
        have x0 := hX2.cell 0
        clear hh hX2
        cases hp : nlt (F (G (mid + m - 1 - h))) (F (G h))
        · have HZ : Hid (∀ c, lo ≤ c → c < h + 1 → Lx F (G c) (G (mid + m - 1 - c))) := Lib.hid fun c c1 c2 => by
            have l5 := L5 c c1 (by omega)
            have l6 := L5 h (by omega) (by omega)
            exact sd_le H1.out (by omega) (show c ≤ h by omega) (by omega) (sd_ge H2.out (by omega) (show mid + m - 1 - h ≤ mid + m - 1 - c by omega) (by omega) ((lx_dn HTA).2 hp))
          rw [hp] at HC
          have HC := Lib.hid HC
          clear hp
          go_wp2_with fail
          refine (HC.out).mono ?_
          rintro e w2 ⟨rfl, hb2⟩
          go_wp2_with fail
          exact ⟨⟨h + 1, j, by go_num, rfl, by omega, by omega, hjb, grownBy_trans hgr (grown_of hb2), hs.below hb2, HZ, HB⟩, by simp [intOf]; omega⟩
        · have HZ : Hid (∀ c, h ≤ c → c < hi → Lx F (G (mid + m - 1 - c)) (G c)) := Lib.hid fun c c1 c2 => by
            have l5 := L5 c (by omega) c2
            have l6 := L5 h (by omega) (by omega)
            exact sd_le H2.out (by omega) (show mid + m - 1 - c ≤ mid + m - 1 - h by omega) (by omega) (sd_ge H1.out (by omega) c1 (by omega) ((lx_up HTA).2 hp))
          rw [hp] at HC
          have HC := Lib.hid HC
          clear hp
          go_wp2_with fail
          refine (HC.out).mono ?_
          rintro e w2 ⟨rfl, hb2⟩
          go_wp2_with fail
          exact ⟨⟨i, h, rfl, rfl, hai, h1, by omega, grownBy_trans hgr (grown_of hb2), hs.below hb2, HA, HZ⟩, by simp [intOf]; omega⟩
      · have e : j = i := by omega
        subst e
        have hltz : ¬ (j : Int) < (j : Int) := by omega
        obtain ⟨en, hen⟩ : ∃ en, en = mid + m - j := ⟨_, rfl⟩
        have w7 : IntKind.i64.wrap ((mid : Int) + (m : Int) - (j : Int)) = (en : Int) := by rw [show (mid : Int) + (m : Int) - (j : Int) = (en : Int) by omega]; exact IntWalk.i64_in _ (by omega)
        have E1 : m ≤ en := by omega
        have E2 : en ≤ b := by
          rcases Nat.lt_or_ge j hi with h8 | h8
          · have := L5 j hai h8; omega
          · have := HHI.out; omega
        have E3 : j + (en - m) = mid := by omega
        have HCUT : Hid (Cut4 F a j mid en b (rot j m en G)) := Lib.hid (by
          have h9 := cut4 (F := F) (s := j) (e := en) H1.out H2.out (by omega) (by omega) E1 E2 (fun p1 p2 => by
            have := HB.out j (Nat.le_refl _) (L6.out j p1 (by omega) hjb)
            rwa [show mid + m - 1 - j = en - 1 by omega] at this) (fun p1 p2 => by
            have h10 := L7.out j p1 (by omega) hai
            have := HA.out (j - 1) (by omega) (by omega)
            rwa [show mid + m - 1 - (j - 1) = en by omega] at this)
          rwa [E3] at h9)
        have HTT : Hid (∀ p q, a ≤ p → p < m → m ≤ q → q < b → G p < G q) := HT
        have HEN := Lib.hid hen
        have hjm : j ≤ m := by omega
        have haj : a ≤ j := by omega
        have hjmid : j ≤ mid := by omega
        have hmb : mid ≤ en := by omega
        clear HA HB hen L1 L2 L3 L4 L5 L6 L7 HLO HHI H1 H2 hai hij hjb hlt
        have wj : w1.grownBy wr (some g) := hgr
        by_cases c1 : j < m ∧ m < en
        · have q1 : (j : Int) < (m : Int) := by omega
          have q2 : (m : Int) < (en : Int) := by omega
          have HRO := Lib.hid (rotate F B g n pad w0 sf sb HSW0.out hn j m en c1.1 c1.2 (by omega) G wr hs)
          have hX2 := has_aside hgr hX hXg
          have x0 := hX2.cell 0
          have x1 := hX2.cell 1
          clear hX2 hs c1
          go_wp2_with fail
          refine (HRO.out).mono ?_
          rintro e w2 ⟨rfl, hg2, hs2⟩
          have hgr2 := grownBy_trans hgr hg2
          clear hgr wj hg2 x0 x1 HRO
          have W2 : Hid (Wi a b G (rot j m en G)) := Lib.hid ((rot_wi hjm E1 G).mono haj E2)
          have T1 : Hid (∀ p q, a ≤ p → p < j → j ≤ q → q < mid → rot j m en G p < rot j m en G q) := Lib.hid fun p q p1 p2 p3 p4 => by
            rw [rot_out G E1 (by omega) hjm, rot_lo G p3 (by omega)]
            exact HTT.out p _ p1 (by omega) (by omega) (by omega)
          have T2 : Hid (∀ p q, mid ≤ p → p < en → en ≤ q → q < b → rot j m en G p < rot j m en G q) := Lib.hid fun p q p1 p2 p3 p4 => by
            rw [rot_hi G (by omega) p2, rot_out G E1 (by omega) hjm]
            exact HTT.out _ q (by omega) (by omega) (by omega) p4
          generalize rot j m en G = H at *
          by_cases d1 : a < j ∧ j < mid
          · have r1 : (a : Int) < (j : Int) := by omega
            have r2 : (j : Int) < (mid : Int) := by omega
            have HI1 := Lib.hid (IH.out a j mid (by omega) d1.1 d1.2 (by omega) H _ hs2 HCUT.out.one HCUT.out.two T1.out)
            have hX2 := has_aside hgr2 hX hXg
            have x0 := hX2.cell 0
            have x1 := hX2.cell 1
            clear hX2 hs2 d1
            go_wp2_with fail
            refine (HI1.out).mono ?_
            rintro e w3 ⟨rfl, hg3, H3, hs3, W3, S3⟩
            have hgr3 := grownBy_trans hgr2 hg3
            have HW3 := Lib.hid W3
            have HS3 := Lib.hid S3
            clear hgr2 hg3 W3 S3 x0 x1 HI1 T1
            have T2' : Hid (∀ p q, mid ≤ p → p < en → en ≤ q → q < b → H3 p < H3 q) := Lib.hid fun p q p1 p2 p3 p4 => by
              rw [HW3.out.1 p (by omega), HW3.out.1 q (by omega)]
              exact T2.out p q p1 p2 p3 p4
            have S33 : Sd F mid en H3 := HW3.out.sd HCUT.out.three (.inr (Nat.le_refl _))
            have S34 : Sd F en b H3 := HW3.out.sd HCUT.out.four (.inr hmb)
            by_cases f1 : mid < en ∧ en < b
            · have s1 : (mid : Int) < (en : Int) := by omega
              have s2 : (en : Int) < (b : Int) := by omega
              have HI2 := Lib.hid (IH.out mid en b (by omega) f1.1 f1.2 hb H3 _ hs3 S33 S34 T2'.out)
              have hX2 := has_aside hgr3 hX hXg
              have x0 := hX2.cell 0
              have x1 := hX2.cell 1
              clear hX2 hs3 f1 S33 S34
              go_wp2_with fail
              all_goals
                refine (HI2.out).mono ?_
                rintro e w4 ⟨rfl, hg4, H4, hs4, W4, S4⟩
                have HW4 := Lib.hid W4
                have HS4 := Lib.hid S4
                clear W4 S4 x0 x1 HI2
                go_wp2_with fail
                go_end0
                refine ⟨rfl, grownBy_trans HK.out (grownBy_trans hgr3 hg4), H4, hs4, W2.out.trans ((HW3.out.mono (Nat.le_refl _) (by omega)).trans (HW4.out.mono (by omega) (Nat.le_refl _))), ?_⟩
                exact cut4_join HCUT.out (HW4.out.sd HS3.out (.inl (Nat.le_refl _))) HS4.out (fun k k1 k2 => by
                  rw [HW4.out.1 k (by omega)]
                  exact HW3.out.2 k k1 k2) (fun k k1 k2 => by
                  obtain ⟨k', a1, a2, e⟩ := HW4.out.2 k k1 k2
                  exact ⟨k', a1, a2, e.trans (HW3.out.1 k' (by omega))⟩)
            · have HS4 : Hid (Sd F mid b H3) := Lib.hid (by
                rcases Nat.lt_or_ge mid en with h8 | h8
                · have : en = b := by omega
                  rw [← this]; exact S33
                · have h9 : en = mid := by omega
                  rw [h9] at S34; exact S34)
              by_cases f2 : mid < en
              · have s1 : (mid : Int) < (en : Int) := by omega
                have s2 : ¬ (en : Int) < (b : Int) := by omega
                clear f1 f2 S33 S34
                go_wp2_with fail
                all_goals
                  go_end0
                  refine ⟨rfl, grownBy_trans HK.out hgr3, H3, hs3, W2.out.trans (HW3.out.mono (Nat.le_refl _) (by omega)), ?_⟩
                  exact cut4_join HCUT.out HS3.out HS4.out HW3.out.2 (fun k k1 k2 => ⟨k, k1, k2, HW3.out.1 k (by omega)⟩)
              · have s1 : ¬ (mid : Int) < (en : Int) := by omega
                clear f1 f2 S33 S34
                go_wp2_with fail
                all_goals
                  go_end0
                  refine ⟨rfl, grownBy_trans HK.out hgr3, H3, hs3, W2.out.trans (HW3.out.mono (Nat.le_refl _) (by omega)), ?_⟩
                  exact cut4_join HCUT.out HS3.out HS4.out HW3.out.2 (fun k k1 k2 => ⟨k, k1, k2, HW3.out.1 k (by omega)⟩)
          · have HS3 : Hid (Sd F a mid H) := Lib.hid (by
              rcases Nat.lt_or_ge a j with h8 | h8
              · have : j = mid := by omega
                rw [← this]; exact HCUT.out.one
              · have : j = a := by omega
                rw [← this]; exact this ▸ HCUT.out.two)
            have HW3 := Lib.hid (Wi.refl a mid H)
            have hs3 := hs2
            have hgr3 := hgr2
            clear hs2 hgr2 T1
            by_cases d2 : a < j
            · have r1 : (a : Int) < (j : Int) := by omega
              have r2 : ¬ (j : Int) < (mid : Int) := by omega
              clear d1 d2
              have T2' : Hid (∀ p q, mid ≤ p → p < en → en ≤ q → q < b → H p < H q) := Lib.hid fun p q p1 p2 p3 p4 => by
                rw [HW3.out.1 p (by omega), HW3.out.1 q (by omega)]
                exact T2.out p q p1 p2 p3 p4
              have S33 : Sd F mid en H := HW3.out.sd HCUT.out.three (.inr (Nat.le_refl _))
              have S34 : Sd F en b H := HW3.out.sd HCUT.out.four (.inr hmb)
              by_cases f1 : mid < en ∧ en < b
              · have s1 : (mid : Int) < (en : Int) := by omega
                have s2 : (en : Int) < (b : Int) := by omega
                have HI2 := Lib.hid (IH.out mid en b (by omega) f1.1 f1.2 hb H _ hs3 S33 S34 T2'.out)
                have hX2 := has_aside hgr3 hX hXg
                have x0 := hX2.cell 0
                have x1 := hX2.cell 1
                clear hX2 hs3 f1 S33 S34
                go_wp2_with fail
                all_goals
                  refine (HI2.out).mono ?_
                  rintro e w4 ⟨rfl, hg4, H4, hs4, W4, S4⟩
                  have HW4 := Lib.hid W4
                  have HS4 := Lib.hid S4
                  clear W4 S4 x0 x1 HI2
                  go_wp2_with fail
                  go_end0
                  refine ⟨rfl, grownBy_trans HK.out (grownBy_trans hgr3 hg4), H4, hs4, W2.out.trans ((HW3.out.mono (Nat.le_refl _) (by omega)).trans (HW4.out.mono (by omega) (Nat.le_refl _))), ?_⟩
                  exact cut4_join HCUT.out (HW4.out.sd HS3.out (.inl (Nat.le_refl _))) HS4.out (fun k k1 k2 => by
                    rw [HW4.out.1 k (by omega)]
                    exact HW3.out.2 k k1 k2) (fun k k1 k2 => by
                    obtain ⟨k', a1, a2, e⟩ := HW4.out.2 k k1 k2
                    exact ⟨k', a1, a2, e.trans (HW3.out.1 k' (by omega))⟩)
              · have HS4 : Hid (Sd F mid b H) := Lib.hid (by
                  rcases Nat.lt_or_ge mid en with h8 | h8
                  · have : en = b := by omega
                    rw [← this]; exact S33
                  · have h9 : en = mid := by omega
                    rw [h9] at S34; exact S34)
                by_cases f2 : mid < en
                · have s1 : (mid : Int) < (en : Int) := by omega
                  have s2 : ¬ (en : Int) < (b : Int) := by omega
                  clear f1 f2 S33 S34
                  go_wp2_with fail
                  all_goals
                    go_end0
                    refine ⟨rfl, grownBy_trans HK.out hgr3, H, hs3, W2.out.trans (HW3.out.mono (Nat.le_refl _) (by omega)), ?_⟩
                    exact cut4_join HCUT.out HS3.out HS4.out HW3.out.2 (fun k k1 k2 => ⟨k, k1, k2, HW3.out.1 k (by omega)⟩)
                · have s1 : ¬ (mid : Int) < (en : Int) := by omega
                  clear f1 f2 S33 S34
                  go_wp2_with fail
                  all_goals
                    go_end0
                    refine ⟨rfl, grownBy_trans HK.out hgr3, H, hs3, W2.out.trans (HW3.out.mono (Nat.le_refl _) (by omega)), ?_⟩
                    exact cut4_join HCUT.out HS3.out HS4.out HW3.out.2 (fun k k1 k2 => ⟨k, k1, k2, HW3.out.1 k (by omega)⟩)
            · have r1 : ¬ (a : Int) < (j : Int) := by omega
              clear d1 d2
              have T2' : Hid (∀ p q, mid ≤ p → p < en → en ≤ q → q < b → H p < H q) := Lib.hid fun p q p1 p2 p3 p4 => by
                rw [HW3.out.1 p (by omega), HW3.out.1 q (by omega)]
                exact T2.out p q p1 p2 p3 p4
              have S33 : Sd F mid en H := HW3.out.sd HCUT.out.three (.inr (Nat.le_refl _))
              have S34 : Sd F en b H := HW3.out.sd HCUT.out.four (.inr hmb)
              by_cases f1 : mid < en ∧ en < b
              · have s1 : (mid : Int) < (en : Int) := by omega
                have s2 : (en : Int) < (b : Int) := by omega
                have HI2 := Lib.hid (IH.out mid en b (by omega) f1.1 f1.2 hb H _ hs3 S33 S34 T2'.out)
                have hX2 := has_aside hgr3 hX hXg
                have x0 := hX2.cell 0
                have x1 := hX2.cell 1
                clear hX2 hs3 f1 S33 S34
                go_wp2_with fail
                all_goals
                  refine (HI2.out).mono ?_
                  rintro e w4 ⟨rfl, hg4, H4, hs4, W4, S4⟩
                  have HW4 := Lib.hid W4
                  have HS4 := Lib.hid S4
                  clear W4 S4 x0 x1 HI2
                  go_wp2_with fail
                  go_end0
                  refine ⟨rfl, grownBy_trans HK.out (grownBy_trans hgr3 hg4), H4, hs4, W2.out.trans ((HW3.out.mono (Nat.le_refl _) (by omega)).trans (HW4.out.mono (by omega) (Nat.le_refl _))), ?_⟩
                  exact cut4_join HCUT.out (HW4.out.sd HS3.out (.inl (Nat.le_refl _))) HS4.out (fun k k1 k2 => by
                    rw [HW4.out.1 k (by omega)]
                    exact HW3.out.2 k k1 k2) (fun k k1 k2 => by
                    obtain ⟨k', a1, a2, e⟩ := HW4.out.2 k k1 k2
                    exact ⟨k', a1, a2, e.trans (HW3.out.1 k' (by omega))⟩)
              · have HS4 : Hid (Sd F mid b H) := Lib.hid (by
                  rcases Nat.lt_or_ge mid en with h8 | h8
                  · have : en = b := by omega
                    rw [← this]; exact S33
                  · have h9 : en = mid := by omega
                    rw [h9] at S34; exact S34)
                by_cases f2 : mid < en
                · have s1 : (mid : Int) < (en : Int) := by omega
                  have s2 : ¬ (en : Int) < (b : Int) := by omega
                  clear f1 f2 S33 S34
                  go_wp2_with fail
                  all_goals
                    go_end0
                    refine ⟨rfl, grownBy_trans HK.out hgr3, H, hs3, W2.out.trans (HW3.out.mono (Nat.le_refl _) (by omega)), ?_⟩
                    exact cut4_join HCUT.out HS3.out HS4.out HW3.out.2 (fun k k1 k2 => ⟨k, k1, k2, HW3.out.1 k (by omega)⟩)
                · have s1 : ¬ (mid : Int) < (en : Int) := by omega
                  clear f1 f2 S33 S34
                  go_wp2_with fail
                  all_goals
                    go_end0
                    refine ⟨rfl, grownBy_trans HK.out hgr3, H, hs3, W2.out.trans (HW3.out.mono (Nat.le_refl _) (by omega)), ?_⟩
                    exact cut4_join HCUT.out HS3.out HS4.out HW3.out.2 (fun k k1 k2 => ⟨k, k1, k2, HW3.out.1 k (by omega)⟩)
        · have q1 : (j : Int) < (m : Int) → ¬ (m : Int) < (en : Int) := by omega
          have hrot : rot j m en G = G := by
            rcases Nat.lt_or_ge j m with h8 | h8
            · have : en = m := by omega
              rw [this]; exact rot_right hjm G
            · have : j = m := by omega
              rw [this]; exact rot_left m en G
          have hs2 : SG F n w0 g pad wr (rot j m en G) := by rw [hrot]; exact hs
          have hgr2 := hgr
          clear hrot hs hgr wj c1
          by_cases c0 : j < m
          · have q3 : (j : Int) < (m : Int) := by omega
            have q4 := q1 q3
            clear q1 c0
            have W2 : Hid (Wi a b G (rot j m en G)) := Lib.hid ((rot_wi hjm E1 G).mono haj E2)
            have T1 : Hid (∀ p q, a ≤ p → p < j → j ≤ q → q < mid → rot j m en G p < rot j m en G q) := Lib.hid fun p q p1 p2 p3 p4 => by
              rw [rot_out G E1 (by omega) hjm, rot_lo G p3 (by omega)]
              exact HTT.out p _ p1 (by omega) (by omega) (by omega)
            have T2 : Hid (∀ p q, mid ≤ p → p < en → en ≤ q → q < b → rot j m en G p < rot j m en G q) := Lib.hid fun p q p1 p2 p3 p4 => by
              rw [rot_hi G (by omega) p2, rot_out G E1 (by omega) hjm]
              exact HTT.out _ q (by omega) (by omega) (by omega) p4
            generalize rot j m en G = H at *
            by_cases d1 : a < j ∧ j < mid
            · have r1 : (a : Int) < (j : Int) := by omega
              have r2 : (j : Int) < (mid : Int) := by omega
              have HI1 := Lib.hid (IH.out a j mid (by omega) d1.1 d1.2 (by omega) H _ hs2 HCUT.out.one HCUT.out.two T1.out)
              have hX2 := has_aside hgr2 hX hXg
              have x0 := hX2.cell 0
              have x1 := hX2.cell 1
              clear hX2 hs2 d1
              go_wp2_with fail
              refine (HI1.out).mono ?_
              rintro e w3 ⟨rfl, hg3, H3, hs3, W3, S3⟩
              have hgr3 := grownBy_trans hgr2 hg3
              have HW3 := Lib.hid W3
              have HS3 := Lib.hid S3
              clear hgr2 hg3 W3 S3 x0 x1 HI1 T1
              have T2' : Hid (∀ p q, mid ≤ p → p < en → en ≤ q → q < b → H3 p < H3 q) := Lib.hid fun p q p1 p2 p3 p4 => by
                rw [HW3.out.1 p (by omega), HW3.out.1 q (by omega)]
                exact T2.out p q p1 p2 p3 p4
              have S33 : Sd F mid en H3 := HW3.out.sd HCUT.out.three (.inr (Nat.le_refl _))
              have S34 : Sd F en b H3 := HW3.out.sd HCUT.out.four (.inr hmb)
              by_cases f1 : mid < en ∧ en < b
              · have s1 : (mid : Int) < (en : Int) := by omega
                have s2 : (en : Int) < (b : Int) := by omega
                have HI2 := Lib.hid (IH.out mid en b (by omega) f1.1 f1.2 hb H3 _ hs3 S33 S34 T2'.out)
                have hX2 := has_aside hgr3 hX hXg
                have x0 := hX2.cell 0
                have x1 := hX2.cell 1
                clear hX2 hs3 f1 S33 S34
                go_wp2_with fail
                all_goals
                  refine (HI2.out).mono ?_
                  rintro e w4 ⟨rfl, hg4, H4, hs4, W4, S4⟩
                  have HW4 := Lib.hid W4
                  have HS4 := Lib.hid S4
                  clear W4 S4 x0 x1 HI2
                  go_wp2_with fail
                  go_end0
                  refine ⟨rfl, grownBy_trans HK.out (grownBy_trans hgr3 hg4), H4, hs4, W2.out.trans ((HW3.out.mono (Nat.le_refl _) (by omega)).trans (HW4.out.mono (by omega) (Nat.le_refl _))), ?_⟩
                  exact cut4_join HCUT.out (HW4.out.sd HS3.out (.inl (Nat.le_refl _))) HS4.out (fun k k1 k2 => by
                    rw [HW4.out.1 k (by omega)]
                    exact HW3.out.2 k k1 k2) (fun k k1 k2 => by
                    obtain ⟨k', a1, a2, e⟩ := HW4.out.2 k k1 k2
                    exact ⟨k', a1, a2, e.trans (HW3.out.1 k' (by omega))⟩)
              · have HS4 : Hid (Sd F mid b H3) := Lib.hid (by
                  rcases Nat.lt_or_ge mid en with h8 | h8
                  · have : en = b := by omega
                    rw [← this]; exact S33
                  · have h9 : en = mid := by omega
                    rw [h9] at S34; exact S34)
                by_cases f2 : mid < en
                · have s1 : (mid : Int) < (en : Int) := by omega
                  have s2 : ¬ (en : Int) < (b : Int) := by omega
                  clear f1 f2 S33 S34
                  go_wp2_with fail
                  all_goals
                    go_end0
                    refine ⟨rfl, grownBy_trans HK.out hgr3, H3, hs3, W2.out.trans (HW3.out.mono (Nat.le_refl _) (by omega)), ?_⟩
                    exact cut4_join HCUT.out HS3.out HS4.out HW3.out.2 (fun k k1 k2 => ⟨k, k1, k2, HW3.out.1 k (by omega)⟩)
                · have s1 : ¬ (mid : Int) < (en : Int) := by omega
                  clear f1 f2 S33 S34
                  go_wp2_with fail
                  all_goals
                    go_end0
                    refine ⟨rfl, grownBy_trans HK.out hgr3, H3, hs3, W2.out.trans (HW3.out.mono (Nat.le_refl _) (by omega)), ?_⟩
                    exact cut4_join HCUT.out HS3.out HS4.out HW3.out.2 (fun k k1 k2 => ⟨k, k1, k2, HW3.out.1 k (by omega)⟩)
            · have HS3 : Hid (Sd F a mid H) := Lib.hid (by
                rcases Nat.lt_or_ge a j with h8 | h8
                · have : j = mid := by omega
                  rw [← this]; exact HCUT.out.one
                · have : j = a := by omega
                  rw [← this]; exact this ▸ HCUT.out.two)
              have HW3 := Lib.hid (Wi.refl a mid H)
              have hs3 := hs2
              have hgr3 := hgr2
              clear hs2 hgr2 T1
              by_cases d2 : a < j
              · have r1 : (a : Int) < (j : Int) := by omega
                have r2 : ¬ (j : Int) < (mid : Int) := by omega
                clear d1 d2
                have T2' : Hid (∀ p q, mid ≤ p → p < en → en ≤ q → q < b → H p < H q) := Lib.hid fun p q p1 p2 p3 p4 => by
                  rw [HW3.out.1 p (by omega), HW3.out.1 q (by omega)]
                  exact T2.out p q p1 p2 p3 p4
                have S33 : Sd F mid en H := HW3.out.sd HCUT.out.three (.inr (Nat.le_refl _))
                have S34 : Sd F en b H := HW3.out.sd HCUT.out.four (.inr hmb)
                by_cases f1 : mid < en ∧ en < b
                · have s1 : (mid : Int) < (en : Int) := by omega
                  have s2 : (en : Int) < (b : Int) := by omega
                  have HI2 := Lib.hid (IH.out mid en b (by omega) f1.1 f1.2 hb H _ hs3 S33 S34 T2'.out)
                  have hX2 := has_aside hgr3 hX hXg
                  have x0 := hX2.cell 0
                  have x1 := hX2.cell 1
                  clear hX2 hs3 f1 S33 S34
                  go_wp2_with fail
                  all_goals
                    refine (HI2.out).mono ?_
                    rintro e w4 ⟨rfl, hg4, H4, hs4, W4, S4⟩
                    have HW4 := Lib.hid W4
                    have HS4 := Lib.hid S4
                    clear W4 S4 x0 x1 HI2
                    go_wp2_with fail
                    go_end0
                    refine ⟨rfl, grownBy_trans HK.out (grownBy_trans hgr3 hg4), H4, hs4, W2.out.trans ((HW3.out.mono (Nat.le_refl _) (by omega)).trans (HW4.out.mono (by omega) (Nat.le_refl _))), ?_⟩
                    exact cut4_join HCUT.out (HW4.out.sd HS3.out (.inl (Nat.le_refl _))) HS4.out (fun k k1 k2 => by
                      rw [HW4.out.1 k (by omega)]
                      exact HW3.out.2 k k1 k2) (fun k k1 k2 => by
                      obtain ⟨k', a1, a2, e⟩ := HW4.out.2 k k1 k2
                      exact ⟨k', a1, a2, e.trans (HW3.out.1 k' (by omega))⟩)
                · have HS4 : Hid (Sd F mid b H) := Lib.hid (by
                    rcases Nat.lt_or_ge mid en with h8 | h8
                    · have : en = b := by omega
                      rw [← this]; exact S33
                    · have h9 : en = mid := by omega
                      rw [h9] at S34; exact S34)
                  by_cases f2 : mid < en
                  · have s1 : (mid : Int) < (en : Int) := by omega
                    have s2 : ¬ (en : Int) < (b : Int) := by omega
                    clear f1 f2 S33 S34
                    go_wp2_with fail
                    all_goals
                      go_end0
                      refine ⟨rfl, grownBy_trans HK.out hgr3, H, hs3, W2.out.trans (HW3.out.mono (Nat.le_refl _) (by omega)), ?_⟩
                      exact cut4_join HCUT.out HS3.out HS4.out HW3.out.2 (fun k k1 k2 => ⟨k, k1, k2, HW3.out.1 k (by omega)⟩)
                  · have s1 : ¬ (mid : Int) < (en : Int) := by omega
                    clear f1 f2 S33 S34
                    go_wp2_with fail
                    all_goals
                      go_end0
                      refine ⟨rfl, grownBy_trans HK.out hgr3, H, hs3, W2.out.trans (HW3.out.mono (Nat.le_refl _) (by omega)), ?_⟩
                      exact cut4_join HCUT.out HS3.out HS4.out HW3.out.2 (fun k k1 k2 => ⟨k, k1, k2, HW3.out.1 k (by omega)⟩)
              · have r1 : ¬ (a : Int) < (j : Int) := by omega
                clear d1 d2
                have T2' : Hid (∀ p q, mid ≤ p → p < en → en ≤ q → q < b → H p < H q) := Lib.hid fun p q p1 p2 p3 p4 => by
                  rw [HW3.out.1 p (by omega), HW3.out.1 q (by omega)]
                  exact T2.out p q p1 p2 p3 p4
                have S33 : Sd F mid en H := HW3.out.sd HCUT.out.three (.inr (Nat.le_refl _))
                have S34 : Sd F en b H := HW3.out.sd HCUT.out.four (.inr hmb)
                by_cases f1 : mid < en ∧ en < b
                · have s1 : (mid : Int) < (en : Int) := by omega
                  have s2 : (en : Int) < (b : Int) := by omega
                  have HI2 := Lib.hid (IH.out mid en b (by omega) f1.1 f1.2 hb H _ hs3 S33 S34 T2'.out)
                  have hX2 := has_aside hgr3 hX hXg
                  have x0 := hX2.cell 0
                  have x1 := hX2.cell 1
                  clear hX2 hs3 f1 S33 S34
                  go_wp2_with fail
                  all_goals
                    refine (HI2.out).mono ?_
                    rintro e w4 ⟨rfl, hg4, H4, hs4, W4, S4⟩
                    have HW4 := Lib.hid W4
                    have HS4 := Lib.hid S4
                    clear W4 S4 x0 x1 HI2
                    go_wp2_with fail
                    go_end0
                    refine ⟨rfl, grownBy_trans HK.out (grownBy_trans hgr3 hg4), H4, hs4, W2.out.trans ((HW3.out.mono (Nat.le_refl _) (by omega)).trans (HW4.out.mono (by omega) (Nat.le_refl _))), ?_⟩
                    exact cut4_join HCUT.out (HW4.out.sd HS3.out (.inl (Nat.le_refl _))) HS4.out (fun k k1 k2 => by
                      rw [HW4.out.1 k (by omega)]
                      exact HW3.out.2 k k1 k2) (fun k k1 k2 => by
                      obtain ⟨k', a1, a2, e⟩ := HW4.out.2 k k1 k2
                      exact ⟨k', a1, a2, e.trans (HW3.out.1 k' (by omega))⟩)
                · have HS4 : Hid (Sd F mid b H) := Lib.hid (by
                    rcases Nat.lt_or_ge mid en with h8 | h8
                    · have : en = b := by omega
                      rw [← this]; exact S33
                    · have h9 : en = mid := by omega
                      rw [h9] at S34; exact S34)
                  by_cases f2 : mid < en
                  · have s1 : (mid : Int) < (en : Int) := by omega
                    have s2 : ¬ (en : Int) < (b : Int) := by omega
                    clear f1 f2 S33 S34
                    go_wp2_with fail
                    all_goals
                      go_end0
                      refine ⟨rfl, grownBy_trans HK.out hgr3, H, hs3, W2.out.trans (HW3.out.mono (Nat.le_refl _) (by omega)), ?_⟩
                      exact cut4_join HCUT.out HS3.out HS4.out HW3.out.2 (fun k k1 k2 => ⟨k, k1, k2, HW3.out.1 k (by omega)⟩)
                  · have s1 : ¬ (mid : Int) < (en : Int) := by omega
                    clear f1 f2 S33 S34
                    go_wp2_with fail
                    all_goals
                      go_end0
                      refine ⟨rfl, grownBy_trans HK.out hgr3, H, hs3, W2.out.trans (HW3.out.mono (Nat.le_refl _) (by omega)), ?_⟩
                      exact cut4_join HCUT.out HS3.out HS4.out HW3.out.2 (fun k k1 k2 => ⟨k, k1, k2, HW3.out.1 k (by omega)⟩)
          · have q3 : ¬ (j : Int) < (m : Int) := by omega
            clear q1 c0
            have W2 : Hid (Wi a b G (rot j m en G)) := Lib.hid ((rot_wi hjm E1 G).mono haj E2)
            have T1 : Hid (∀ p q, a ≤ p → p < j → j ≤ q → q < mid → rot j m en G p < rot j m en G q) := Lib.hid fun p q p1 p2 p3 p4 => by
              rw [rot_out G E1 (by omega) hjm, rot_lo G p3 (by omega)]
              exact HTT.out p _ p1 (by omega) (by omega) (by omega)
            have T2 : Hid (∀ p q, mid ≤ p → p < en → en ≤ q → q < b → rot j m en G p < rot j m en G q) := Lib.hid fun p q p1 p2 p3 p4 => by
              rw [rot_hi G (by omega) p2, rot_out G E1 (by omega) hjm]
              exact HTT.out _ q (by omega) (by omega) (by omega) p4
            generalize rot j m en G = H at *
            by_cases d1 : a < j ∧ j < mid
            · have r1 : (a : Int) < (j : Int) := by omega
              have r2 : (j : Int) < (mid : Int) := by omega
              have HI1 := Lib.hid (IH.out a j mid (by omega) d1.1 d1.2 (by omega) H _ hs2 HCUT.out.one HCUT.out.two T1.out)
              have hX2 := has_aside hgr2 hX hXg
              have x0 := hX2.cell 0
              have x1 := hX2.cell 1
              clear hX2 hs2 d1
              go_wp2_with fail
              refine (HI1.out).mono ?_
              rintro e w3 ⟨rfl, hg3, H3, hs3, W3, S3⟩
              have hgr3 := grownBy_trans hgr2 hg3
              have HW3 := Lib.hid W3
              have HS3 := Lib.hid S3
              clear hgr2 hg3 W3 S3 x0 x1 HI1 T1
              have T2' : Hid (∀ p q, mid ≤ p → p < en → en ≤ q → q < b → H3 p < H3 q) := Lib.hid fun p q p1 p2 p3 p4 => by
                rw [HW3.out.1 p (by omega), HW3.out.1 q (by omega)]
                exact T2.out p q p1 p2 p3 p4
              have S33 : Sd F mid en H3 := HW3.out.sd HCUT.out.three (.inr (Nat.le_refl _))
              have S34 : Sd F en b H3 := HW3.out.sd HCUT.out.four (.inr hmb)
              by_cases f1 : mid < en ∧ en < b
              · have s1 : (mid : Int) < (en : Int) := by omega
                have s2 : (en : Int) < (b : Int) := by omega
                have HI2 := Lib.hid (IH.out mid en b (by omega) f1.1 f1.2 hb H3 _ hs3 S33 S34 T2'.out)
                have hX2 := has_aside hgr3 hX hXg
                have x0 := hX2.cell 0
                have x1 := hX2.cell 1
                clear hX2 hs3 f1 S33 S34
                go_wp2_with fail
                all_goals
                  refine (HI2.out).mono ?_
                  rintro e w4 ⟨rfl, hg4, H4, hs4, W4, S4⟩
                  have HW4 := Lib.hid W4
                  have HS4 := Lib.hid S4
                  clear W4 S4 x0 x1 HI2
                  go_wp2_with fail
                  go_end0
                  refine ⟨rfl, grownBy_trans HK.out (grownBy_trans hgr3 hg4), H4, hs4, W2.out.trans ((HW3.out.mono (Nat.le_refl _) (by omega)).trans (HW4.out.mono (by omega) (Nat.le_refl _))), ?_⟩
                  exact cut4_join HCUT.out (HW4.out.sd HS3.out (.inl (Nat.le_refl _))) HS4.out (fun k k1 k2 => by
                    rw [HW4.out.1 k (by omega)]
                    exact HW3.out.2 k k1 k2) (fun k k1 k2 => by
                    obtain ⟨k', a1, a2, e⟩ := HW4.out.2 k k1 k2
                    exact ⟨k', a1, a2, e.trans (HW3.out.1 k' (by omega))⟩)
              · have HS4 : Hid (Sd F mid b H3) := Lib.hid (by
                  rcases Nat.lt_or_ge mid en with h8 | h8
                  · have : en = b := by omega
                    rw [← this]; exact S33
                  · have h9 : en = mid := by omega
                    rw [h9] at S34; exact S34)
                by_cases f2 : mid < en
                · have s1 : (mid : Int) < (en : Int) := by omega
                  have s2 : ¬ (en : Int) < (b : Int) := by omega
                  clear f1 f2 S33 S34
                  go_wp2_with fail
                  all_goals
                    go_end0
                    refine ⟨rfl, grownBy_trans HK.out hgr3, H3, hs3, W2.out.trans (HW3.out.mono (Nat.le_refl _) (by omega)), ?_⟩
                    exact cut4_join HCUT.out HS3.out HS4.out HW3.out.2 (fun k k1 k2 => ⟨k, k1, k2, HW3.out.1 k (by omega)⟩)
                · have s1 : ¬ (mid : Int) < (en : Int) := by omega
                  clear f1 f2 S33 S34
                  go_wp2_with fail
                  all_goals
                    go_end0
                    refine ⟨rfl, grownBy_trans HK.out hgr3, H3, hs3, W2.out.trans (HW3.out.mono (Nat.le_refl _) (by omega)), ?_⟩
                    exact cut4_join HCUT.out HS3.out HS4.out HW3.out.2 (fun k k1 k2 => ⟨k, k1, k2, HW3.out.1 k (by omega)⟩)
            · have HS3 : Hid (Sd F a mid H) := Lib.hid (by
                rcases Nat.lt_or_ge a j with h8 | h8
                · have : j = mid := by omega
                  rw [← this]; exact HCUT.out.one
                · have : j = a := by omega
                  rw [← this]; exact this ▸ HCUT.out.two)
              have HW3 := Lib.hid (Wi.refl a mid H)
              have hs3 := hs2
              have hgr3 := hgr2
              clear hs2 hgr2 T1
              by_cases d2 : a < j
              · have r1 : (a : Int) < (j : Int) := by omega
                have r2 : ¬ (j : Int) < (mid : Int) := by omega
                clear d1 d2
                have T2' : Hid (∀ p q, mid ≤ p → p < en → en ≤ q → q < b → H p < H q) := Lib.hid fun p q p1 p2 p3 p4 => by
                  rw [HW3.out.1 p (by omega), HW3.out.1 q (by omega)]
                  exact T2.out p q p1 p2 p3 p4
                have S33 : Sd F mid en H := HW3.out.sd HCUT.out.three (.inr (Nat.le_refl _))
                have S34 : Sd F en b H := HW3.out.sd HCUT.out.four (.inr hmb)
                by_cases f1 : mid < en ∧ en < b
                · have s1 : (mid : Int) < (en : Int) := by omega
                  have s2 : (en : Int) < (b : Int) := by omega
                  have HI2 := Lib.hid (IH.out mid en b (by omega) f1.1 f1.2 hb H _ hs3 S33 S34 T2'.out)
                  have hX2 := has_aside hgr3 hX hXg
                  have x0 := hX2.cell 0
                  have x1 := hX2.cell 1
                  clear hX2 hs3 f1 S33 S34
                  go_wp2_with fail
                  all_goals
                    refine (HI2.out).mono ?_
                    rintro e w4 ⟨rfl, hg4, H4, hs4, W4, S4⟩
                    have HW4 := Lib.hid W4
                    have HS4 := Lib.hid S4
                    clear W4 S4 x0 x1 HI2
                    go_wp2_with fail
                    go_end0
                    refine ⟨rfl, grownBy_trans HK.out (grownBy_trans hgr3 hg4), H4, hs4, W2.out.trans ((HW3.out.mono (Nat.le_refl _) (by omega)).trans (HW4.out.mono (by omega) (Nat.le_refl _))), ?_⟩
                    exact cut4_join HCUT.out (HW4.out.sd HS3.out (.inl (Nat.le_refl _))) HS4.out (fun k k1 k2 => by
                      rw [HW4.out.1 k (by omega)]
                      exact HW3.out.2 k k1 k2) (fun k k1 k2 => by
                      obtain ⟨k', a1, a2, e⟩ := HW4.out.2 k k1 k2
                      exact ⟨k', a1, a2, e.trans (HW3.out.1 k' (by omega))⟩)
                · have HS4 : Hid (Sd F mid b H) := Lib.hid (by
                    rcases Nat.lt_or_ge mid en with h8 | h8
                    · have : en = b := by omega
                      rw [← this]; exact S33
                    · have h9 : en = mid := by omega
                      rw [h9] at S34; exact S34)
                  by_cases f2 : mid < en
                  · have s1 : (mid : Int) < (en : Int) := by omega
                    have s2 : ¬ (en : Int) < (b : Int) := by omega
                    clear f1 f2 S33 S34
                    go_wp2_with fail
                    all_goals
                      go_end0
                      refine ⟨rfl, grownBy_trans HK.out hgr3, H, hs3, W2.out.trans (HW3.out.mono (Nat.le_refl _) (by omega)), ?_⟩
                      exact cut4_join HCUT.out HS3.out HS4.out HW3.out.2 (fun k k1 k2 => ⟨k, k1, k2, HW3.out.1 k (by omega)⟩)
                  · have s1 : ¬ (mid : Int) < (en : Int) := by omega
                    clear f1 f2 S33 S34
                    go_wp2_with fail
                    all_goals
                      go_end0
                      refine ⟨rfl, grownBy_trans HK.out hgr3, H, hs3, W2.out.trans (HW3.out.mono (Nat.le_refl _) (by omega)), ?_⟩
                      exact cut4_join HCUT.out HS3.out HS4.out HW3.out.2 (fun k k1 k2 => ⟨k, k1, k2, HW3.out.1 k (by omega)⟩)
              · have r1 : ¬ (a : Int) < (j : Int) := by omega
                clear d1 d2
                have T2' : Hid (∀ p q, mid ≤ p → p < en → en ≤ q → q < b → H p < H q) := Lib.hid fun p q p1 p2 p3 p4 => by
                  rw [HW3.out.1 p (by omega), HW3.out.1 q (by omega)]
                  exact T2.out p q p1 p2 p3 p4
                have S33 : Sd F mid en H := HW3.out.sd HCUT.out.three (.inr (Nat.le_refl _))
                have S34 : Sd F en b H := HW3.out.sd HCUT.out.four (.inr hmb)
                by_cases f1 : mid < en ∧ en < b
                · have s1 : (mid : Int) < (en : Int) := by omega
                  have s2 : (en : Int) < (b : Int) := by omega
                  have HI2 := Lib.hid (IH.out mid en b (by omega) f1.1 f1.2 hb H _ hs3 S33 S34 T2'.out)
                  have hX2 := has_aside hgr3 hX hXg
                  have x0 := hX2.cell 0
                  have x1 := hX2.cell 1
                  clear hX2 hs3 f1 S33 S34
                  go_wp2_with fail
                  all_goals
                    refine (HI2.out).mono ?_
                    rintro e w4 ⟨rfl, hg4, H4, hs4, W4, S4⟩
                    have HW4 := Lib.hid W4
                    have HS4 := Lib.hid S4
                    clear W4 S4 x0 x1 HI2
                    go_wp2_with fail
                    go_end0
                    refine ⟨rfl, grownBy_trans HK.out (grownBy_trans hgr3 hg4), H4, hs4, W2.out.trans ((HW3.out.mono (Nat.le_refl _) (by omega)).trans (HW4.out.mono (by omega) (Nat.le_refl _))), ?_⟩
                    exact cut4_join HCUT.out (HW4.out.sd HS3.out (.inl (Nat.le_refl _))) HS4.out (fun k k1 k2 => by
                      rw [HW4.out.1 k (by omega)]
                      exact HW3.out.2 k k1 k2) (fun k k1 k2 => by
                      obtain ⟨k', a1, a2, e⟩ := HW4.out.2 k k1 k2
                      exact ⟨k', a1, a2, e.trans (HW3.out.1 k' (by omega))⟩)
                · have HS4 : Hid (Sd F mid b H) := Lib.hid (by
                    rcases Nat.lt_or_ge mid en with h8 | h8
                    · have : en = b := by omega
                      rw [← this]; exact S33
                    · have h9 : en = mid := by omega
                      rw [h9] at S34; exact S34)
                  by_cases f2 : mid < en
                  · have s1 : (mid : Int) < (en : Int) := by omega
                    have s2 : ¬ (en : Int) < (b : Int) := by omega
                    clear f1 f2 S33 S34
                    go_wp2_with fail
                    all_goals
                      go_end0
                      refine ⟨rfl, grownBy_trans HK.out hgr3, H, hs3, W2.out.trans (HW3.out.mono (Nat.le_refl _) (by omega)), ?_⟩
                      exact cut4_join HCUT.out HS3.out HS4.out HW3.out.2 (fun k k1 k2 => ⟨k, k1, k2, HW3.out.1 k (by omega)⟩)
                  · have s1 : ¬ (mid : Int) < (en : Int) := by omega
                    clear f1 f2 S33 S34
                    go_wp2_with fail
                    all_goals
                      go_end0
                      refine ⟨rfl, grownBy_trans HK.out hgr3, H, hs3, W2.out.trans (HW3.out.mono (Nat.le_refl _) (by omega)), ?_⟩
                      exact cut4_join HCUT.out HS3.out HS4.out HW3.out.2 (fun k k1 k2 => ⟨k, k1, k2, HW3.out.1 k (by omega)⟩)
  · have hgt : ¬ (mid : Int) < (m : Int) := by omega
    obtain ⟨lo, hlo⟩ : ∃ lo, lo = a := ⟨_, rfl⟩
    obtain ⟨hi, hhi⟩ : ∃ hi, hi = m := ⟨_, rfl⟩
    have L1 : a ≤ lo := by omega
    have L2 : lo ≤ hi := by omega
    have L3 : hi ≤ m := by omega
    have L4 : hi ≤ mid := by omega
    have L5 : ∀ c, lo ≤ c → c < hi → m + c + 1 ≤ mid + m ∧ mid + m ≤ b + c := fun c c1 c2 => by omega
    have L6 : Hid (∀ s, s < m → m + s < mid + m → s ≤ hi → s < hi) := Lib.hid fun s s1 s2 s3 => by omega
    have L7 : Hid (∀ s, a < s → mid + m < b + s → lo ≤ s → lo < s) := Lib.hid fun s s1 s2 s3 => by omega
    have HLO : Hid ((lo : Int) = (a : Int)) := Lib.hid (by omega)
    have HHI : Hid ((hi : Int) = (m : Int)) := Lib.hid (by omega)
    clear hlo hhi
    go_wp2_with fail
    rw [← hw1]
    clear hw1
    go_loopw [18, 19] (fun vi vj wr => ∃ i j : Nat, vi = .int .i64 (i : Int) ∧ vj = .int .i64 (j : Int) ∧ lo ≤ i ∧ i ≤ j ∧ j ≤ hi ∧ w1.grownBy wr (some g) ∧ SG F n w0 g pad wr G ∧ Hid (∀ c, lo ≤ c → c < i → Lx F (G c) (G (mid + m - 1 - c))) ∧ Hid (∀ c, j ≤ c → c < hi → Lx F (G (mid + m - 1 - c)) (G c))) (fun vi vj _ => (intOf vj).toNat - (intOf vi).toNat)
    case atStart => exact ⟨lo, hi, by rw [HLO.out], by rw [HHI.out], Nat.le_refl _, L2, Nat.le_refl _, grownBy_refl _ _, hs1, Lib.hid (fun t h1 h2 => by omega), Lib.hid (fun t h1 h2 => by omega)⟩
    case round =>
      clear hs1
      obtain ⟨i, j, rfl, rfl, hai, hij, hjb, hgr, hs, HA, HB⟩ := hrel
      by_cases hlt : i < j
      · have hltz : (i : Int) < (j : Int) := by omega
        obtain ⟨h, hh⟩ : ∃ h, h = (i + j) / 2 := ⟨_, rfl⟩
        have h1 : i ≤ h := by omega
        have h2 : h < j := by omega
        have w1' : IntKind.i64.wrap ((i : Int) + (j : Int)) = (i : Int) + (j : Int) := IntWalk.i64_in _ (by omega)
        have hd : ((i : Int) + (j : Int)) / 2 = (h : Int) := by omega
        have l5 := L5 h (by omega) (by omega)
        have HC := HLE.out wr G hs (mid + m - 1 - h) h (by omega) (by omega)
        rw [show ((mid + m - 1 - h : Nat) : Int) = (mid : Int) + (m : Int) - 1 - (h : Int) by omega] at HC
        have HTA := HT.out h (mid + m - 1 - h) (by omega) (by omega) (by omega) (by omega)
        have hX2 := has_aside hgr hX hXg
        have x0 := hX2.cell 0
        clear hh hX2
        cases hp : nlt (F (G (mid + m - 1 - h))) (F (G h))
        · have HZ : Hid (∀ c, lo ≤ c → c < h + 1 → Lx F (G c) (G (mid + m - 1 - c))) := Lib.hid fun c c1 c2 => by
            have l5 := L5 c c1 (by omega)
            have l6 := L5 h (by omega) (by omega)
            exact sd_le H1.out (by omega) (show c ≤ h by omega) (by omega) (sd_ge H2.out (by omega) (show mid + m - 1 - h ≤ mid + m - 1 - c by omega) (by omega) ((lx_dn HTA).2 hp))
          rw [hp] at HC
          have HC := Lib.hid HC
          clear hp
          go_wp2_with fail
          refine (HC.out).mono ?_
          rintro e w2 ⟨rfl, hb2⟩
          go_wp2_with fail
          exact ⟨⟨h + 1, j, by go_num, rfl, by omega, by omega, hjb, grownBy_trans hgr (grown_of hb2), hs.below hb2, HZ, HB⟩, by simp [intOf]; omega⟩
        · have HZ : Hid (∀ c, h ≤ c → c < hi → Lx F (G (mid + m - 1 - c)) (G c)) := Lib.hid fun c c1 c2 => by
            have l5 := L5 c (by omega) c2
            have l6 := L5 h (by omega) (by omega)
            exact sd_le H2.out (by omega) (show mid + m - 1 - c ≤ mid + m - 1 - h by omega) (by omega) (sd_ge H1.out (by omega) c1 (by omega) ((lx_up HTA).2 hp))
          rw [hp] at HC
          have HC := Lib.hid HC
          clear hp
          go_wp2_with fail
          refine (HC.out).mono ?_
          rintro e w2 ⟨rfl, hb2⟩
          go_wp2_with fail
          exact ⟨⟨i, h, rfl, rfl, hai, h1, by omega, grownBy_trans hgr (grown_of hb2), hs.below hb2, HA, HZ⟩, by simp [intOf]; omega⟩
      · have e : j = i := by omega
        subst e
        have hltz : ¬ (j : Int) < (j : Int) := by omega
        obtain ⟨en, hen⟩ : ∃ en, en = mid + m - j := ⟨_, rfl⟩
        have w7 : IntKind.i64.wrap ((mid : Int) + (m : Int) - (j : Int)) = (en : Int) := by rw [show (mid : Int) + (m : Int) - (j : Int) = (en : Int) by omega]; exact IntWalk.i64_in _ (by omega)
        have E1 : m ≤ en := by omega
        have E2 : en ≤ b := by
          rcases Nat.lt_or_ge j hi with h8 | h8
          · have := L5 j hai h8; omega
          · have := HHI.out; omega
        have E3 : j + (en - m) = mid := by omega
        have HCUT : Hid (Cut4 F a j mid en b (rot j m en G)) := Lib.hid (by
          have h9 := cut4 (F := F) (s := j) (e := en) H1.out H2.out (by omega) (by omega) E1 E2 (fun p1 p2 => by
            have := HB.out j (Nat.le_refl _) (L6.out j p1 (by omega) hjb)
            rwa [show mid + m - 1 - j = en - 1 by omega] at this) (fun p1 p2 => by
            have h10 := L7.out j p1 (by omega) hai
            have := HA.out (j - 1) (by omega) (by omega)
            rwa [show mid + m - 1 - (j - 1) = en by omega] at this)
          rwa [E3] at h9)
        have HTT : Hid (∀ p q, a ≤ p → p < m → m ≤ q → q < b → G p < G q) := HT
        have HEN := Lib.hid hen
        have hjm : j ≤ m := by omega
        have haj : a ≤ j := by omega
        have hjmid : j ≤ mid := by omega
        have hmb : mid ≤ en := by omega
        clear HA HB hen L1 L2 L3 L4 L5 L6 L7 HLO HHI H1 H2 hai hij hjb hlt
        have wj : w1.grownBy wr (some g) := hgr
        by_cases c1 : j < m ∧ m < en
        · have q1 : (j : Int) < (m : Int) := by omega
          have q2 : (m : Int) < (en : Int) := by omega
          have HRO := Lib.hid (rotate F B g n pad w0 sf sb HSW0.out hn j m en c1.1 c1.2 (by omega) G wr hs)
          have hX2 := has_aside hgr hX hXg
          have x0 := hX2.cell 0
          have x1 := hX2.cell 1
          clear hX2 hs c1
          go_wp2_with fail
          refine (HRO.out).mono ?_
          rintro e w2 ⟨rfl, hg2, hs2⟩
          have hgr2 := grownBy_trans hgr hg2
          clear hgr wj hg2 x0 x1 HRO
          have W2 : Hid (Wi a b G (rot j m en G)) := Lib.hid ((rot_wi hjm E1 G).mono haj E2)
          have T1 : Hid (∀ p q, a ≤ p → p < j → j ≤ q → q < mid → rot j m en G p < rot j m en G q) := Lib.hid fun p q p1 p2 p3 p4 => by
            rw [rot_out G E1 (by omega) hjm, rot_lo G p3 (by omega)]
            exact HTT.out p _ p1 (by omega) (by omega) (by omega)
          have T2 : Hid (∀ p q, mid ≤ p → p < en → en ≤ q → q < b → rot j m en G p < rot j m en G q) := Lib.hid fun p q p1 p2 p3 p4 => by
            rw [rot_hi G (by omega) p2, rot_out G E1 (by omega) hjm]
            exact HTT.out _ q (by omega) (by omega) (by omega) p4
          generalize rot j m en G = H at *
          by_cases d1 : a < j ∧ j < mid
          · have r1 : (a : Int) < (j : Int) := by omega
            have r2 : (j : Int) < (mid : Int) := by omega
            have HI1 := Lib.hid (IH.out a j mid (by omega) d1.1 d1.2 (by omega) H _ hs2 HCUT.out.one HCUT.out.two T1.out)
            have hX2 := has_aside hgr2 hX hXg
            have x0 := hX2.cell 0
            have x1 := hX2.cell 1
            clear hX2 hs2 d1
            go_wp2_with fail
            refine (HI1.out).mono ?_
            rintro e w3 ⟨rfl, hg3, H3, hs3, W3, S3⟩
            have hgr3 := grownBy_trans hgr2 hg3
            have HW3 := Lib.hid W3
            have HS3 := Lib.hid S3
            clear hgr2 hg3 W3 S3 x0 x1 HI1 T1
            have T2' : Hid (∀ p q, mid ≤ p → p < en → en ≤ q → q < b → H3 p < H3 q) := Lib.hid fun p q p1 p2 p3 p4 => by
              rw [HW3.out.1 p (by omega), HW3.out.1 q (by omega)]
              exact T2.out p q p1 p2 p3 p4
            have S33 : Sd F mid en H3 := HW3.out.sd HCUT.out.three (.inr (Nat.le_refl _))
            have S34 : Sd F en b H3 := HW3.out.sd HCUT.out.four (.inr hmb)
            by_cases f1 : mid < en ∧ en < b
            · have s1 : (mid : Int) < (en : Int) := by omega
              have s2 : (en : Int) < (b : Int) := by omega
              have HI2 := Lib.hid (IH.out mid en b (by omega) f1.1 f1.2 hb H3 _ hs3 S33 S34 T2'.out)
              have hX2 := has_aside hgr3 hX hXg
              have x0 := hX2.cell 0
              have x1 := hX2.cell 1
              clear hX2 hs3 f1 S33 S34
              go_wp2_with fail
              all_goals
                refine (HI2.out).mono ?_
                rintro e w4 ⟨rfl, hg4, H4, hs4, W4, S4⟩
                have HW4 := Lib.hid W4
                have HS4 := Lib.hid S4
                clear W4 S4 x0 x1 HI2
                go_wp2_with fail
                go_end0
                refine ⟨rfl, grownBy_trans HK.out (grownBy_trans hgr3 hg4), H4, hs4, W2.out.trans ((HW3.out.mono (Nat.le_refl _) (by omega)).trans (HW4.out.mono (by omega) (Nat.le_refl _))), ?_⟩
                exact cut4_join HCUT.out (HW4.out.sd HS3.out (.inl (Nat.le_refl _))) HS4.out (fun k k1 k2 => by
                  rw [HW4.out.1 k (by omega)]
                  exact HW3.out.2 k k1 k2) (fun k k1 k2 => by
                  obtain ⟨k', a1, a2, e⟩ := HW4.out.2 k k1 k2
                  exact ⟨k', a1, a2, e.trans (HW3.out.1 k' (by omega))⟩)
            · have HS4 : Hid (Sd F mid b H3) := Lib.hid (by
                rcases Nat.lt_or_ge mid en with h8 | h8
                · have : en = b := by omega
                  rw [← this]; exact S33
                · have h9 : en = mid := by omega
                  rw [h9] at S34; exact S34)
              by_cases f2 : mid < en
              · have s1 : (mid : Int) < (en : Int) := by omega
                have s2 : ¬ (en : Int) < (b : Int) := by omega
                clear f1 f2 S33 S34
                go_wp2_with fail
                all_goals
                  go_end0
                  refine ⟨rfl, grownBy_trans HK.out hgr3, H3, hs3, W2.out.trans (HW3.out.mono (Nat.le_refl _) (by omega)), ?_⟩
                  exact cut4_join HCUT.out HS3.out HS4.out HW3.out.2 (fun k k1 k2 => ⟨k, k1, k2, HW3.out.1 k (by omega)⟩)
              · have s1 : ¬ (mid : Int) < (en : Int) := by omega
                clear f1 f2 S33 S34
                go_wp2_with fail
                all_goals
                  go_end0
                  refine ⟨rfl, grownBy_trans HK.out hgr3, H3, hs3, W2.out.trans (HW3.out.mono (Nat.le_refl _) (by omega)), ?_⟩
                  exact cut4_join HCUT.out HS3.out HS4.out HW3.out.2 (fun k k1 k2 => ⟨k, k1, k2, HW3.out.1 k (by omega)⟩)
          · have HS3 : Hid (Sd F a mid H) := Lib.hid (by
              rcases Nat.lt_or_ge a j with h8 | h8
              · have : j = mid := by omega
                rw [← this]; exact HCUT.out.one
              · have : j = a := by omega
                rw [← this]; exact this ▸ HCUT.out.two)
            have HW3 := Lib.hid (Wi.refl a mid H)
            have hs3 := hs2
            have hgr3 := hgr2
            clear hs2 hgr2 T1
            by_cases d2 : a < j
            · have r1 : (a : Int) < (j : Int) := by omega
              have r2 : ¬ (j : Int) < (mid : Int) := by omega
              clear d1 d2
              have T2' : Hid (∀ p q, mid ≤ p → p < en → en ≤ q → q < b → H p < H q) := Lib.hid fun p q p1 p2 p3 p4 => by
                rw [HW3.out.1 p (by omega), HW3.out.1 q (by omega)]
                exact T2.out p q p1 p2 p3 p4
              have S33 : Sd F mid en H := HW3.out.sd HCUT.out.three (.inr (Nat.le_refl _))
              have S34 : Sd F en b H := HW3.out.sd HCUT.out.four (.inr hmb)
              by_cases f1 : mid < en ∧ en < b
              · have s1 : (mid : Int) < (en : Int) := by omega
                have s2 : (en : Int) < (b : Int) := by omega
                have HI2 := Lib.hid (IH.out mid en b (by omega) f1.1 f1.2 hb H _ hs3 S33 S34 T2'.out)
                have hX2 := has_aside hgr3 hX hXg
                have x0 := hX2.cell 0
                have x1 := hX2.cell 1
                clear hX2 hs3 f1 S33 S34
                go_wp2_with fail
                all_goals
                  refine (HI2.out).mono ?_
                  rintro e w4 ⟨rfl, hg4, H4, hs4, W4, S4⟩
                  have HW4 := Lib.hid W4
                  have HS4 := Lib.hid S4
                  clear W4 S4 x0 x1 HI2
                  go_wp2_with fail
                  go_end0
                  refine ⟨rfl, grownBy_trans HK.out (grownBy_trans hgr3 hg4), H4, hs4, W2.out.trans ((HW3.out.mono (Nat.le_refl _) (by omega)).trans (HW4.out.mono (by omega) (Nat.le_refl _))), ?_⟩
                  exact cut4_join HCUT.out (HW4.out.sd HS3.out (.inl (Nat.le_refl _))) HS4.out (fun k k1 k2 => by
                    rw [HW4.out.1 k (by omega)]
                    exact HW3.out.2 k k1 k2) (fun k k1 k2 => by
                    obtain ⟨k', a1, a2, e⟩ := HW4.out.2 k k1 k2
                    exact ⟨k', a1, a2, e.trans (HW3.out.1 k' (by omega))⟩)
              · have HS4 : Hid (Sd F mid b H) := Lib.hid (by
                  rcases Nat.lt_or_ge mid en with h8 | h8
                  · have : en = b := by omega
                    rw [← this]; exact S33
                  · have h9 : en = mid := by omega
                    rw [h9] at S34; exact S34)
                by_cases f2 : mid < en
                · have s1 : (mid : Int) < (en : Int) := by omega
                  have s2 : ¬ (en : Int) < (b : Int) := by omega
                  clear f1 f2 S33 S34
                  go_wp2_with fail
                  all_goals
                    go_end0
                    refine ⟨rfl, grownBy_trans HK.out hgr3, H, hs3, W2.out.trans (HW3.out.mono (Nat.le_refl _) (by omega)), ?_⟩
                    exact cut4_join HCUT.out HS3.out HS4.out HW3.out.2 (fun k k1 k2 => ⟨k, k1, k2, HW3.out.1 k (by omega)⟩)
                · have s1 : ¬ (mid : Int) < (en : Int) := by omega
                  clear f1 f2 S33 S34
                  go_wp2_with fail
                  all_goals
                    go_end0
                    refine ⟨rfl, grownBy_trans HK.out hgr3, H, hs3, W2.out.trans (HW3.out.mono (Nat.le_refl _) (by omega)), ?_⟩
                    exact cut4_join HCUT.out HS3.out HS4.out HW3.out.2 (fun k k1 k2 => ⟨k, k1, k2, HW3.out.1 k (by omega)⟩)
            · have r1 : ¬ (a : Int) < (j : Int) := by omega
              clear d1 d2
              have T2' : Hid (∀ p q, mid ≤ p → p < en → en ≤ q → q < b → H p < H q) := Lib.hid fun p q p1 p2 p3 p4 => by
                rw [HW3.out.1 p (by omega), HW3.out.1 q (by omega)]
                exact T2.out p q p1 p2 p3 p4
              have S33 : Sd F mid en H := HW3.out.sd HCUT.out.three (.inr (Nat.le_refl _))
              have S34 : Sd F en b H := HW3.out.sd HCUT.out.four (.inr hmb)
              by_cases f1 : mid < en ∧ en < b
              · have s1 : (mid : Int) < (en : Int) := by omega
                have s2 : (en : Int) < (b : Int) := by omega
                have HI2 := Lib.hid (IH.out mid en b (by omega) f1.1 f1.2 hb H _ hs3 S33 S34 T2'.out)
                have hX2 := has_aside hgr3 hX hXg
                have x0 := hX2.cell 0
                have x1 := hX2.cell 1
                clear hX2 hs3 f1 S33 S34
                go_wp2_with fail
                all_goals
                  refine (HI2.out).mono ?_
                  rintro e w4 ⟨rfl, hg4, H4, hs4, W4, S4⟩
                  have HW4 := Lib.hid W4
                  have HS4 := Lib.hid S4
                  clear W4 S4 x0 x1 HI2
                  go_wp2_with fail
                  go_end0
                  refine ⟨rfl, grownBy_trans HK.out (grownBy_trans hgr3 hg4), H4, hs4, W2.out.trans ((HW3.out.mono (Nat.le_refl _) (by omega)).trans (HW4.out.mono (by omega) (Nat.le_refl _))), ?_⟩
                  exact cut4_join HCUT.out (HW4.out.sd HS3.out (.inl (Nat.le_refl _))) HS4.out (fun k k1 k2 => by
                    rw [HW4.out.1 k (by omega)]
                    exact HW3.out.2 k k1 k2) (fun k k1 k2 => by
                    obtain ⟨k', a1, a2, e⟩ := HW4.out.2 k k1 k2
                    exact ⟨k', a1, a2, e.trans (HW3.out.1 k' (by omega))⟩)
              · have HS4 : Hid (Sd F mid b H) := Lib.hid (by
                  rcases Nat.lt_or_ge mid en with h8 | h8
                  · have : en = b := by omega
                    rw [← this]; exact S33
                  · have h9 : en = mid := by omega
                    rw [h9] at S34; exact S34)
                by_cases f2 : mid < en
                · have s1 : (mid : Int) < (en : Int) := by omega
                  have s2 : ¬ (en : Int) < (b : Int) := by omega
                  clear f1 f2 S33 S34
                  go_wp2_with fail
                  all_goals
                    go_end0
                    refine ⟨rfl, grownBy_trans HK.out hgr3, H, hs3, W2.out.trans (HW3.out.mono (Nat.le_refl _) (by omega)), ?_⟩
                    exact cut4_join HCUT.out HS3.out HS4.out HW3.out.2 (fun k k1 k2 => ⟨k, k1, k2, HW3.out.1 k (by omega)⟩)
                · have s1 : ¬ (mid : Int) < (en : Int) := by omega
                  clear f1 f2 S33 S34
                  go_wp2_with fail
                  all_goals
                    go_end0
                    refine ⟨rfl, grownBy_trans HK.out hgr3, H, hs3, W2.out.trans (HW3.out.mono (Nat.le_refl _) (by omega)), ?_⟩
                    exact cut4_join HCUT.out HS3.out HS4.out HW3.out.2 (fun k k1 k2 => ⟨k, k1, k2, HW3.out.1 k (by omega)⟩)
        · have q1 : (j : Int) < (m : Int) → ¬ (m : Int) < (en : Int) := by omega
          have hrot : rot j m en G = G := by
            rcases Nat.lt_or_ge j m with h8 | h8
            · have : en = m := by omega
              rw [this]; exact rot_right hjm G
            · have : j = m := by omega
              rw [this]; exact rot_left m en G
          have hs2 : SG F n w0 g pad wr (rot j m en G) := by rw [hrot]; exact hs
          have hgr2 := hgr
          clear hrot hs hgr wj c1
          by_cases c0 : j < m
          · have q3 : (j : Int) < (m : Int) := by omega
            have q4 := q1 q3
            clear q1 c0
            have W2 : Hid (Wi a b G (rot j m en G)) := Lib.hid ((rot_wi hjm E1 G).mono haj E2)
            have T1 : Hid (∀ p q, a ≤ p → p < j → j ≤ q → q < mid → rot j m en G p < rot j m en G q) := Lib.hid fun p q p1 p2 p3 p4 => by
              rw [rot_out G E1 (by omega) hjm, rot_lo G p3 (by omega)]
              exact HTT.out p _ p1 (by omega) (by omega) (by omega)
            have T2 : Hid (∀ p q, mid ≤ p → p < en → en ≤ q → q < b → rot j m en G p < rot j m en G q) := Lib.hid fun p q p1 p2 p3 p4 => by
              rw [rot_hi G (by omega) p2, rot_out G E1 (by omega) hjm]
              exact HTT.out _ q (by omega) (by omega) (by omega) p4
            generalize rot j m en G = H at *
            by_cases d1 : a < j ∧ j < mid
            · have r1 : (a : Int) < (j : Int) := by omega
              have r2 : (j : Int) < (mid : Int) := by omega
              have HI1 := Lib.hid (IH.out a j mid (by omega) d1.1 d1.2 (by omega) H _ hs2 HCUT.out.one HCUT.out.two T1.out)
              have hX2 := has_aside hgr2 hX hXg
              have x0 := hX2.cell 0
              have x1 := hX2.cell 1
              clear hX2 hs2 d1
              go_wp2_with fail
              refine (HI1.out).mono ?_
              rintro e w3 ⟨rfl, hg3, H3, hs3, W3, S3⟩
              have hgr3 := grownBy_trans hgr2 hg3
              have HW3 := Lib.hid W3
              have HS3 := Lib.hid S3
              clear hgr2 hg3 W3 S3 x0 x1 HI1 T1
              have T2' : Hid (∀ p q, mid ≤ p → p < en → en ≤ q → q < b → H3 p < H3 q) := Lib.hid fun p q p1 p2 p3 p4 => by
                rw [HW3.out.1 p (by omega), HW3.out.1 q (by omega)]
                exact T2.out p q p1 p2 p3 p4
              have S33 : Sd F mid en H3 := HW3.out.sd HCUT.out.three (.inr (Nat.le_refl _))
              have S34 : Sd F en b H3 := HW3.out.sd HCUT.out.four (.inr hmb)
              by_cases f1 : mid < en ∧ en < b
              · have s1 : (mid : Int) < (en : Int) := by omega
                have s2 : (en : Int) < (b : Int) := by omega
                have HI2 := Lib.hid (IH.out mid en b (by omega) f1.1 f1.2 hb H3 _ hs3 S33 S34 T2'.out)
                have hX2 := has_aside hgr3 hX hXg
                have x0 := hX2.cell 0
                have x1 := hX2.cell 1
                clear hX2 hs3 f1 S33 S34
                go_wp2_with fail
                all_goals
                  refine (HI2.out).mono ?_
                  rintro e w4 ⟨rfl, hg4, H4, hs4, W4, S4⟩
                  have HW4 := Lib.hid W4
                  have HS4 := Lib.hid S4
                  clear W4 S4 x0 x1 HI2
                  go_wp2_with fail
                  go_end0
                  refine ⟨rfl, grownBy_trans HK.out (grownBy_trans hgr3 hg4), H4, hs4, W2.out.trans ((HW3.out.mono (Nat.le_refl _) (by omega)).trans (HW4.out.mono (by omega) (Nat.le_refl _))), ?_⟩
                  exact cut4_join HCUT.out (HW4.out.sd HS3.out (.inl (Nat.le_refl _))) HS4.out (fun k k1 k2 => by
                    rw [HW4.out.1 k (by omega)]
                    exact HW3.out.2 k k1 k2) (fun k k1 k2 => by
                    obtain ⟨k', a1, a2, e⟩ := HW4.out.2 k k1 k2
                    exact ⟨k', a1, a2, e.trans (HW3.out.1 k' (by omega))⟩)
              · have HS4 : Hid (Sd F mid b H3) := Lib.hid (by
                  rcases Nat.lt_or_ge mid en with h8 | h8
                  · have : en = b := by omega
                    rw [← this]; exact S33
                  · have h9 : en = mid := by omega
                    rw [h9] at S34; exact S34)
                by_cases f2 : mid < en
                · have s1 : (mid : Int) < (en : Int) := by omega
                  have s2 : ¬ (en : Int) < (b : Int) := by omega
                  clear f1 f2 S33 S34
                  go_wp2_with fail
                  all_goals
                    go_end0
                    refine ⟨rfl, grownBy_trans HK.out hgr3, H3, hs3, W2.out.trans (HW3.out.mono (Nat.le_refl _) (by omega)), ?_⟩
                    exact cut4_join HCUT.out HS3.out HS4.out HW3.out.2 (fun k k1 k2 => ⟨k, k1, k2, HW3.out.1 k (by omega)⟩)
                · have s1 : ¬ (mid : Int) < (en : Int) := by omega
                  clear f1 f2 S33 S34
                  go_wp2_with fail
                  all_goals
                    go_end0
                    refine ⟨rfl, grownBy_trans HK.out hgr3, H3, hs3, W2.out.trans (HW3.out.mono (Nat.le_refl _) (by omega)), ?_⟩
                    exact cut4_join HCUT.out HS3.out HS4.out HW3.out.2 (fun k k1 k2 => ⟨k, k1, k2, HW3.out.1 k (by omega)⟩)
            · have HS3 : Hid (Sd F a mid H) := Lib.hid (by
                rcases Nat.lt_or_ge a j with h8 | h8
                · have : j = mid := by omega
                  rw [← this]; exact HCUT.out.one
                · have : j = a := by omega
                  rw [← this]; exact this ▸ HCUT.out.two)
              have HW3 := Lib.hid (Wi.refl a mid H)
              have hs3 := hs2
              have hgr3 := hgr2
              clear hs2 hgr2 T1
              by_cases d2 : a < j
              · have r1 : (a : Int) < (j : Int) := by omega
                have r2 : ¬ (j : Int) < (mid : Int) := by omega
                clear d1 d2
                have T2' : Hid (∀ p q, mid ≤ p → p < en → en ≤ q → q < b → H p < H q) := Lib.hid fun p q p1 p2 p3 p4 => by
                  rw [HW3.out.1 p (by omega), HW3.out.1 q (by omega)]
                  exact T2.out p q p1 p2 p3 p4
                have S33 : Sd F mid en H := HW3.out.sd HCUT.out.three (.inr (Nat.le_refl _))
                have S34 : Sd F en b H := HW3.out.sd HCUT.out.four (.inr hmb)
                by_cases f1 : mid < en ∧ en < b
                · have s1 : (mid : Int) < (en : Int) := by omega
                  have s2 : (en : Int) < (b : Int) := by omega
                  have HI2 := Lib.hid (IH.out mid en b (by omega) f1.1 f1.2 hb H _ hs3 S33 S34 T2'.out)
                  have hX2 := has_aside hgr3 hX hXg
                  have x0 := hX2.cell 0
                  have x1 := hX2.cell 1
                  clear hX2 hs3 f1 S33 S34
                  go_wp2_with fail
                  all_goals
                    refine (HI2.out).mono ?_
                    rintro e w4 ⟨rfl, hg4, H4, hs4, W4, S4⟩
                    have HW4 := Lib.hid W4
                    have HS4 := Lib.hid S4
                    clear W4 S4 x0 x1 HI2
                    go_wp2_with fail
                    go_end0
                    refine ⟨rfl, grownBy_trans HK.out (grownBy_trans hgr3 hg4), H4, hs4, W2.out.trans ((HW3.out.mono (Nat.le_refl _) (by omega)).trans (HW4.out.mono (by omega) (Nat.le_refl _))), ?_⟩
                    exact cut4_join HCUT.out (HW4.out.sd HS3.out (.inl (Nat.le_refl _))) HS4.out (fun k k1 k2 => by
                      rw [HW4.out.1 k (by omega)]
                      exact HW3.out.2 k k1 k2) (fun k k1 k2 => by
                      obtain ⟨k', a1, a2, e⟩ := HW4.out.2 k k1 k2
                      exact ⟨k', a1, a2, e.trans (HW3.out.1 k' (by omega))⟩)
                · have HS4 : Hid (Sd F mid b H) := Lib.hid (by
                    rcases Nat.lt_or_ge mid en with h8 | h8
                    · have : en = b := by omega
                      rw [← this]; exact S33
                    · have h9 : en = mid := by omega
                      rw [h9] at S34; exact S34)
                  by_cases f2 : mid < en
                  · have s1 : (mid : Int) < (en : Int) := by omega
                    have s2 : ¬ (en : Int) < (b : Int) := by omega
                    clear f1 f2 S33 S34
                    go_wp2_with fail
                    all_goals
                      go_end0
                      refine ⟨rfl, grownBy_trans HK.out hgr3, H, hs3, W2.out.trans (HW3.out.mono (Nat.le_refl _) (by omega)), ?_⟩
                      exact cut4_join HCUT.out HS3.out HS4.out HW3.out.2 (fun k k1 k2 => ⟨k, k1, k2, HW3.out.1 k (by omega)⟩)
                  · have s1 : ¬ (mid : Int) < (en : Int) := by omega
                    clear f1 f2 S33 S34
                    go_wp2_with fail
                    all_goals
                      go_end0
                      refine ⟨rfl, grownBy_trans HK.out hgr3, H, hs3, W2.out.trans (HW3.out.mono (Nat.le_refl _) (by omega)), ?_⟩
                      exact cut4_join HCUT.out HS3.out HS4.out HW3.out.2 (fun k k1 k2 => ⟨k, k1, k2, HW3.out.1 k (by omega)⟩)
              · have r1 : ¬ (a : Int) < (j : Int) := by omega
                clear d1 d2
                have T2' : Hid (∀ p q, mid ≤ p → p < en → en ≤ q → q < b → H p < H q) := Lib.hid fun p q p1 p2 p3 p4 => by
                  rw [HW3.out.1 p (by omega), HW3.out.1 q (by omega)]
                  exact T2.out p q p1 p2 p3 p4
                have S33 : Sd F mid en H := HW3.out.sd HCUT.out.three (.inr (Nat.le_refl _))
                have S34 : Sd F en b H := HW3.out.sd HCUT.out.four (.inr hmb)
                by_cases f1 : mid < en ∧ en < b
                · have s1 : (mid : Int) < (en : Int) := by omega
                  have s2 : (en : Int) < (b : Int) := by omega
                  have HI2 := Lib.hid (IH.out mid en b (by omega) f1.1 f1.2 hb H _ hs3 S33 S34 T2'.out)
                  have hX2 := has_aside hgr3 hX hXg
                  have x0 := hX2.cell 0
                  have x1 := hX2.cell 1
                  clear hX2 hs3 f1 S33 S34
                  go_wp2_with fail
                  all_goals
                    refine (HI2.out).mono ?_
                    rintro e w4 ⟨rfl, hg4, H4, hs4, W4, S4⟩
                    have HW4 := Lib.hid W4
                    have HS4 := Lib.hid S4
                    clear W4 S4 x0 x1 HI2
                    go_wp2_with fail
                    go_end0
                    refine ⟨rfl, grownBy_trans HK.out (grownBy_trans hgr3 hg4), H4, hs4, W2.out.trans ((HW3.out.mono (Nat.le_refl _) (by omega)).trans (HW4.out.mono (by omega) (Nat.le_refl _))), ?_⟩
                    exact cut4_join HCUT.out (HW4.out.sd HS3.out (.inl (Nat.le_refl _))) HS4.out (fun k k1 k2 => by
                      rw [HW4.out.1 k (by omega)]
                      exact HW3.out.2 k k1 k2) (fun k k1 k2 => by
                      obtain ⟨k', a1, a2, e⟩ := HW4.out.2 k k1 k2
                      exact ⟨k', a1, a2, e.trans (HW3.out.1 k' (by omega))⟩)
                · have HS4 : Hid (Sd F mid b H) := Lib.hid (by
                    rcases Nat.lt_or_ge mid en with h8 | h8
                    · have : en = b := by omega
                      rw [← this]; exact S33
                    · have h9 : en = mid := by omega
                      rw [h9] at S34; exact S34)
                  by_cases f2 : mid < en
                  · have s1 : (mid : Int) < (en : Int) := by omega
                    have s2 : ¬ (en : Int) < (b : Int) := by omega
                    clear f1 f2 S33 S34
                    go_wp2_with fail
                    all_goals
                      go_end0
                      refine ⟨rfl, grownBy_trans HK.out hgr3, H, hs3, W2.out.trans (HW3.out.mono (Nat.le_refl _) (by omega)), ?_⟩
                      exact cut4_join HCUT.out HS3.out HS4.out HW3.out.2 (fun k k1 k2 => ⟨k, k1, k2, HW3.out.1 k (by omega)⟩)
                  · have s1 : ¬ (mid : Int) < (en : Int) := by omega
                    clear f1 f2 S33 S34
                    go_wp2_with fail
                    all_goals
                      go_end0
                      refine ⟨rfl, grownBy_trans HK.out hgr3, H, hs3, W2.out.trans (HW3.out.mono (Nat.le_refl _) (by omega)), ?_⟩
                      exact cut4_join HCUT.out HS3.out HS4.out HW3.out.2 (fun k k1 k2 => ⟨k, k1, k2, HW3.out.1 k (by omega)⟩)
          · have q3 : ¬ (j : Int) < (m : Int) := by omega
            clear q1 c0
            have W2 : Hid (Wi a b G (rot j m en G)) := Lib.hid ((rot_wi hjm E1 G).mono haj E2)
            have T1 : Hid (∀ p q, a ≤ p → p < j → j ≤ q → q < mid → rot j m en G p < rot j m en G q) := Lib.hid fun p q p1 p2 p3 p4 => by
              rw [rot_out G E1 (by omega) hjm, rot_lo G p3 (by omega)]
              exact HTT.out p _ p1 (by omega) (by omega) (by omega)
            have T2 : Hid (∀ p q, mid ≤ p → p < en → en ≤ q → q < b → rot j m en G p < rot j m en G q) := Lib.hid fun p q p1 p2 p3 p4 => by
              rw [rot_hi G (by omega) p2, rot_out G E1 (by omega) hjm]
              exact HTT.out _ q (by omega) (by omega) (by omega) p4
            generalize rot j m en G = H at *
            by_cases d1 : a < j ∧ j < mid
            · have r1 : (a : Int) < (j : Int) := by omega
              have r2 : (j : Int) < (mid : Int) := by omega
              have HI1 := Lib.hid (IH.out a j mid (by omega) d1.1 d1.2 (by omega) H _ hs2 HCUT.out.one HCUT.out.two T1.out)
              have hX2 := has_aside hgr2 hX hXg
              have x0 := hX2.cell 0
              have x1 := hX2.cell 1
              clear hX2 hs2 d1
              go_wp2_with fail
              refine (HI1.out).mono ?_
              rintro e w3 ⟨rfl, hg3, H3, hs3, W3, S3⟩
              have hgr3 := grownBy_trans hgr2 hg3
              have HW3 := Lib.hid W3
              have HS3 := Lib.hid S3
              clear hgr2 hg3 W3 S3 x0 x1 HI1 T1
              have T2' : Hid (∀ p q, mid ≤ p → p < en → en ≤ q → q < b → H3 p < H3 q) := Lib.hid fun p q p1 p2 p3 p4 => by
                rw [HW3.out.1 p (by omega), HW3.out.1 q (by omega)]
                exact T2.out p q p1 p2 p3 p4
              have S33 : Sd F mid en H3 := HW3.out.sd HCUT.out.three (.inr (Nat.le_refl _))
              have S34 : Sd F en b H3 := HW3.out.sd HCUT.out.four (.inr hmb)
              by_cases f1 : mid < en ∧ en < b
              · have s1 : (mid : Int) < (en : Int) := by omega
                have s2 : (en : Int) < (b : Int) := by omega
                have HI2 := Lib.hid (IH.out mid en b (by omega) f1.1 f1.2 hb H3 _ hs3 S33 S34 T2'.out)
                have hX2 := has_aside hgr3 hX hXg
                have x0 := hX2.cell 0
                have x1 := hX2.cell 1
                clear hX2 hs3 f1 S33 S34
                go_wp2_with fail
                all_goals
                  refine (HI2.out).mono ?_
                  rintro e w4 ⟨rfl, hg4, H4, hs4, W4, S4⟩
                  have HW4 := Lib.hid W4
                  have HS4 := Lib.hid S4
                  clear W4 S4 x0 x1 HI2
                  go_wp2_with fail
                  go_end0
                  refine ⟨rfl, grownBy_trans HK.out (grownBy_trans hgr3 hg4), H4, hs4, W2.out.trans ((HW3.out.mono (Nat.le_refl _) (by omega)).trans (HW4.out.mono (by omega) (Nat.le_refl _))), ?_⟩
                  exact cut4_join HCUT.out (HW4.out.sd HS3.out (.inl (Nat.le_refl _))) HS4.out (fun k k1 k2 => by
                    rw [HW4.out.1 k (by omega)]
                    exact HW3.out.2 k k1 k2) (fun k k1 k2 => by
                    obtain ⟨k', a1, a2, e⟩ := HW4.out.2 k k1 k2
                    exact ⟨k', a1, a2, e.trans (HW3.out.1 k' (by omega))⟩)
              · have HS4 : Hid (Sd F mid b H3) := Lib.hid (by
                  rcases Nat.lt_or_ge mid en with h8 | h8
                  · have : en = b := by omega
                    rw [← this]; exact S33
                  · have h9 : en = mid := by omega
                    rw [h9] at S34; exact S34)
                by_cases f2 : mid < en
                · have s1 : (mid : Int) < (en : Int) := by omega
                  have s2 : ¬ (en : Int) < (b : Int) := by omega
                  clear f1 f2 S33 S34
                  go_wp2_with fail
                  all_goals
                    go_end0
                    refine ⟨rfl, grownBy_trans HK.out hgr3, H3, hs3, W2.out.trans (HW3.out.mono (Nat.le_refl _) (by omega)), ?_⟩
                    exact cut4_join HCUT.out HS3.out HS4.out HW3.out.2 (fun k k1 k2 => ⟨k, k1, k2, HW3.out.1 k (by omega)⟩)
                · have s1 : ¬ (mid : Int) < (en : Int) := by omega
                  clear f1 f2 S33 S34
                  go_wp2_with fail
                  all_goals
                    go_end0
                    refine ⟨rfl, grownBy_trans HK.out hgr3, H3, hs3, W2.out.trans (HW3.out.mono (Nat.le_refl _) (by omega)), ?_⟩
                    exact cut4_join HCUT.out HS3.out HS4.out HW3.out.2 (fun k k1 k2 => ⟨k, k1, k2, HW3.out.1 k (by omega)⟩)
            · have HS3 : Hid (Sd F a mid H) := Lib.hid (by
                rcases Nat.lt_or_ge a j with h8 | h8
                · have : j = mid := by omega
                  rw [← this]; exact HCUT.out.one
                · have : j = a := by omega
                  rw [← this]; exact this ▸ HCUT.out.two)
              have HW3 := Lib.hid (Wi.refl a mid H)
              have hs3 := hs2
              have hgr3 := hgr2
              clear hs2 hgr2 T1
              by_cases d2 : a < j
              · have r1 : (a : Int) < (j : Int) := by omega
                have r2 : ¬ (j : Int) < (mid : Int) := by omega
                clear d1 d2
                have T2' : Hid (∀ p q, mid ≤ p → p < en → en ≤ q → q < b → H p < H q) := Lib.hid fun p q p1 p2 p3 p4 => by
                  rw [HW3.out.1 p (by omega), HW3.out.1 q (by omega)]
                  exact T2.out p q p1 p2 p3 p4
                have S33 : Sd F mid en H := HW3.out.sd HCUT.out.three (.inr (Nat.le_refl _))
                have S34 : Sd F en b H := HW3.out.sd HCUT.out.four (.inr hmb)
                by_cases f1 : mid < en ∧ en < b
                · have s1 : (mid : Int) < (en : Int) := by omega
                  have s2 : (en : Int) < (b : Int) := by omega
                  have HI2 := Lib.hid (IH.out mid en b (by omega) f1.1 f1.2 hb H _ hs3 S33 S34 T2'.out)
                  have hX2 := has_aside hgr3 hX hXg
                  have x0 := hX2.cell 0
                  have x1 := hX2.cell 1
                  clear hX2 hs3 f1 S33 S34
                  go_wp2_with fail
                  all_goals
                    refine (HI2.out).mono ?_
                    rintro e w4 ⟨rfl, hg4, H4, hs4, W4, S4⟩
                    have HW4 := Lib.hid W4
                    have HS4 := Lib.hid S4
                    clear W4 S4 x0 x1 HI2
                    go_wp2_with fail
                    go_end0
                    refine ⟨rfl, grownBy_trans HK.out (grownBy_trans hgr3 hg4), H4, hs4, W2.out.trans ((HW3.out.mono (Nat.le_refl _) (by omega)).trans (HW4.out.mono (by omega) (Nat.le_refl _))), ?_⟩
                    exact cut4_join HCUT.out (HW4.out.sd HS3.out (.inl (Nat.le_refl _))) HS4.out (fun k k1 k2 => by
                      rw [HW4.out.1 k (by omega)]
                      exact HW3.out.2 k k1 k2) (fun k k1 k2 => by
                      obtain ⟨k', a1, a2, e⟩ := HW4.out.2 k k1 k2
                      exact ⟨k', a1, a2, e.trans (HW3.out.1 k' (by omega))⟩)
                · have HS4 : Hid (Sd F mid b H) := Lib.hid (by
                    rcases Nat.lt_or_ge mid en with h8 | h8
                    · have : en = b := by omega
                      rw [← this]; exact S33
                    · have h9 : en = mid := by omega
                      rw [h9] at S34; exact S34)
                  by_cases f2 : mid < en
                  · have s1 : (mid : Int) < (en : Int) := by omega
                    have s2 : ¬ (en : Int) < (b : Int) := by omega
                    clear f1 f2 S33 S34
                    go_wp2_with fail
                    all_goals
                      go_end0
                      refine ⟨rfl, grownBy_trans HK.out hgr3, H, hs3, W2.out.trans (HW3.out.mono (Nat.le_refl _) (by omega)), ?_⟩
                      exact cut4_join HCUT.out HS3.out HS4.out HW3.out.2 (fun k k1 k2 => ⟨k, k1, k2, HW3.out.1 k (by omega)⟩)
                  · have s1 : ¬ (mid : Int) < (en : Int) := by omega
                    clear f1 f2 S33 S34
                    go_wp2_with fail
                    all_goals
                      go_end0
                      refine ⟨rfl, grownBy_trans HK.out hgr3, H, hs3, W2.out.trans (HW3.out.mono (Nat.le_refl _) (by omega)), ?_⟩
                      exact cut4_join HCUT.out HS3.out HS4.out HW3.out.2 (fun k k1 k2 => ⟨k, k1, k2, HW3.out.1 k (by omega)⟩)
              · have r1 : ¬ (a : Int) < (j : Int) := by omega
                clear d1 d2
                have T2' : Hid (∀ p q, mid ≤ p → p < en → en ≤ q → q < b → H p < H q) := Lib.hid fun p q p1 p2 p3 p4 => by
                  rw [HW3.out.1 p (by omega), HW3.out.1 q (by omega)]
                  exact T2.out p q p1 p2 p3 p4
                have S33 : Sd F mid en H := HW3.out.sd HCUT.out.three (.inr (Nat.le_refl _))
                have S34 : Sd F en b H := HW3.out.sd HCUT.out.four (.inr hmb)
                by_cases f1 : mid < en ∧ en < b
                · have s1 : (mid : Int) < (en : Int) := by omega
                  have s2 : (en : Int) < (b : Int) := by omega
                  have HI2 := Lib.hid (IH.out mid en b (by omega) f1.1 f1.2 hb H _ hs3 S33 S34 T2'.out)
                  have hX2 := has_aside hgr3 hX hXg
                  have x0 := hX2.cell 0
                  have x1 := hX2.cell 1
                  clear hX2 hs3 f1 S33 S34
                  go_wp2_with fail
                  all_goals
                    refine (HI2.out).mono ?_
                    rintro e w4 ⟨rfl, hg4, H4, hs4, W4, S4⟩
                    have HW4 := Lib.hid W4
                    have HS4 := Lib.hid S4
                    clear W4 S4 x0 x1 HI2
                    go_wp2_with fail
                    go_end0
                    refine ⟨rfl, grownBy_trans HK.out (grownBy_trans hgr3 hg4), H4, hs4, W2.out.trans ((HW3.out.mono (Nat.le_refl _) (by omega)).trans (HW4.out.mono (by omega) (Nat.le_refl _))), ?_⟩
                    exact cut4_join HCUT.out (HW4.out.sd HS3.out (.inl (Nat.le_refl _))) HS4.out (fun k k1 k2 => by
                      rw [HW4.out.1 k (by omega)]
                      exact HW3.out.2 k k1 k2) (fun k k1 k2 => by
                      obtain ⟨k', a1, a2, e⟩ := HW4.out.2 k k1 k2
                      exact ⟨k', a1, a2, e.trans (HW3.out.1 k' (by omega))⟩)
                · have HS4 : Hid (Sd F mid b H) := Lib.hid (by
                    rcases Nat.lt_or_ge mid en with h8 | h8
                    · have : en = b := by omega
                      rw [← this]; exact S33
                    · have h9 : en = mid := by omega
                      rw [h9] at S34; exact S34)
                  by_cases f2 : mid < en
                  · have s1 : (mid : Int) < (en : Int) := by omega
                    have s2 : ¬ (en : Int) < (b : Int) := by omega
                    clear f1 f2 S33 S34
                    go_wp2_with fail
                    all_goals
                      go_end0
                      refine ⟨rfl, grownBy_trans HK.out hgr3, H, hs3, W2.out.trans (HW3.out.mono (Nat.le_refl _) (by omega)), ?_⟩
                      exact cut4_join HCUT.out HS3.out HS4.out HW3.out.2 (fun k k1 k2 => ⟨k, k1, k2, HW3.out.1 k (by omega)⟩)
                  · have s1 : ¬ (mid : Int) < (en : Int) := by omega
                    clear f1 f2 S33 S34
                    go_wp2_with fail
                    all_goals
                      go_end0
                      refine ⟨rfl, grownBy_trans HK.out hgr3, H, hs3, W2.out.trans (HW3.out.mono (Nat.le_refl _) (by omega)), ?_⟩
                      exact cut4_join HCUT.out HS3.out HS4.out HW3.out.2 (fun k k1 k2 => ⟨k, k1, k2, HW3.out.1 k (by omega)⟩)
end
section
open Go.RowKit

section
variable {F : Nat → Nd}
theorem dvd_gap {s a c : Nat} (h1 : s ∣ a) (h2 : s ∣ c) (h : c < a) : c + s ≤ a := by
  obtain ⟨x, rfl⟩ := h1
  obtain ⟨y, rfl⟩ := h2
  have h3 : y < x := Nat.lt_of_mul_lt_mul_left h
  have h4 : s * (y + 1) ≤ s * x := Nat.mul_le_mul_left s h3
  rwa [Nat.mul_succ] at h4
/-- Blocks of s are ascending, all of them, or those ahead of a; numbers of a block are greater than those of the blocks ahead. -/
structure FinB (F : Nat → Nd) (n s : Nat) (G : Nat → Nat) : Prop where
  sd : ∀ c, s ∣ c → Sd F c (min (c + s) n) G
  ts : ∀ c, s ∣ c → Ts n c G
  img : ∀ k, k < n → G k < n
structure Part (F : Nat → Nd) (n s a : Nat) (G : Nat → Nat) : Prop where
  sd : ∀ c, s ∣ c → c < a → Sd F c (c + s) G
  ts : ∀ c, s ∣ c → Ts n c G
  img : ∀ k, k < n → G k < n
theorem wi_img {n a b : Nat} {G H : Nat → Nat} (h : Wi a b G H) (hb : b ≤ n) (hi : ∀ k, k < n → G k < n) : ∀ k, k < n → H k < n := fun k hk => by
  by_cases hx : a ≤ k ∧ k < b
  · obtain ⟨k', a1, a2, e⟩ := h.2 k hx.1 hx.2
    rw [e]; exact hi k' (by omega)
  · rw [h.1 k (by omega)]; exact hi k hk
theorem part_next {n s a : Nat} {G H : Nat → Nat} (h : Part F n s a G) (ha : s ∣ a) (hw : Wi a (a + s) G H) (hs : Sd F a (a + s) H) (hn : a + s ≤ n) : Part F n s (a + s) H where
  sd c h1 h2 := by
    rcases Nat.lt_trichotomy c a with h3 | h3 | h3
    · exact hw.sd (h.sd c h1 h3) (.inl (dvd_gap ha h1 h3))
    · subst h3; exact hs
    · have := dvd_gap h1 ha h3; omega
  ts c h1 := by
    refine hw.ts (h.ts c h1) ?_ hn
    rcases Nat.lt_or_ge a c with h3 | h3
    · exact .inr (dvd_gap h1 ha h3)
    · exact .inl h3
  img := wi_img hw hn h.img
theorem part_fin {n s a : Nat} {G H : Nat → Nat} (h : Part F n s a G) (ha : s ∣ a) (han : a ≤ n) (hna : n < a + s) (hw : Wi a n G H) (hs : Sd F a n H) : FinB F n s H where
  sd c h1 := by
    rcases Nat.lt_trichotomy c a with h3 | h3 | h3
    · have := dvd_gap ha h1 h3
      rw [Nat.min_eq_left (by omega)]
      exact hw.sd (h.sd c h1 h3) (.inl this)
    · subst h3
      rw [Nat.min_eq_right (by omega)]; exact hs
    · have := dvd_gap h1 ha h3
      intro p q p1 p2 p3
      omega
  ts c h1 := by
    rcases Nat.lt_or_ge a c with h3 | h3
    · have := dvd_gap h1 ha h3
      intro p q p1 p2 p3
      omega
    · exact hw.ts (h.ts c h1) (.inl h3) (Nat.le_refl _)
  img := wi_img hw (Nat.le_refl _) h.img
/-- While blocks of s are merged by two: what lies behind a is as it was. -/
def Back (F : Nat → Nd) (n s a : Nat) (G : Nat → Nat) : Prop := ∀ c, s ∣ c → a ≤ c → Sd F c (min (c + s) n) G ∧ Ts n c G
theorem back_start {n s : Nat} {G : Nat → Nat} (h : FinB F n s G) : Part F n (2 * s) 0 G ∧ Back F n s 0 G :=
  ⟨⟨fun c _ h => by omega, fun c hc => h.ts c (Nat.dvd_trans (Nat.dvd_mul_left s 2) hc), h.img⟩, fun c hc _ => ⟨h.sd c hc, h.ts c hc⟩⟩
theorem back_next {n s a : Nat} {G H : Nat → Nat} (h : Back F n s a G) (hw : Wi a (a + 2 * s) G H) (hn : a + 2 * s ≤ n) : Back F n s (a + 2 * s) H := fun c hc h1 => by
  obtain ⟨k1, k2⟩ := h c hc (by omega)
  exact ⟨hw.sd k1 (.inr h1), hw.ts k2 (.inr h1) hn⟩
theorem part_start {n : Nat} : Part F n 20 0 (fun k => k) := ⟨fun c _ h => by omega, fun c _ p q p1 p2 _ => by omega, fun k hk => hk⟩
end

theorem sym_any (F : Nat → Nd) (B g n : Nat) (pad : List Value) (w0 : World) (sf : Nat) (sb : Array Value) (hSw : ∀ w1, SwapN sf sb w1 g pad n) (hL : LessN B w0 g pad n) (hn : n ≤ 1000000) : ∀ (N a m b : Nat), b - a ≤ N → a < m → m < b → b ≤ n → ∀ (G : Nat → Nat) (w : World), SG F n w0 g pad w G → Sd F a m G → Sd F m b G → (∀ p q, a ≤ p → p < m → m ≤ q → q < b → G p < G q) →
    Calls Tryz.prog 108 #[.agg #[.func (.func 80) #[] #[.pointer (some ⟨B, 0, none⟩)], .func (.func sf) #[] sb], .int .i64 (a : Int), .int .i64 (m : Int), .int .i64 (b : Int)] w (MgP F n w0 g pad a b G w)
  | 0, a, m, b, h, h1, h2, _ => by omega
  | N + 1, a, m, b, h, h1, h2, hb => fun G w hs k1 k2 kt => by
    by_cases c1 : m = a + 1
    · subst c1
      exact sym_one F B g n pad w0 sf sb hSw hL hn a b h2 hb G w hs k2 (fun q q1 q2 => kt a q (Nat.le_refl _) (Nat.lt_succ_self _) q1 q2)
    · by_cases c2 : b = m + 1
      · subst c2
        exact sym_two F B g n pad w0 sf sb hSw hL hn a m (by omega) hb G w hs k1 (fun p p1 p2 => kt p m p1 p2 (Nat.le_refl _) (Nat.lt_succ_self _))
      · exact sym_more F B g n pad w0 sf sb hSw hL hn a m b (by omega) (by omega) hb G w hs k1 k2 kt (fun a' m' b' q1 q2 q3 q4 => sym_any F B g n pad w0 sf sb hSw hL hn N a' m' b' (by omega) q2 q3 q4)
theorem ins_any (F : Nat → Nd) (B g n cap : Nat) (pad : List Value) (w0 : World) (sf : Nat) (sb : Array Value) (hSw : ∀ w1, SwapN sf sb w1 g pad n) (hB : w0.cell? ⟨B, 0, none⟩ = some (.slice (some ⟨g, 0, none⟩) n cap)) (hBl : B < w0.heap.size) (hBg : B ≠ g) (hn : n ≤ 1000000) (a b : Nat) (hab : a ≤ b) (hb : b ≤ n) (G : Nat → Nat) (w : World) (hs : SG F n w0 g pad w G) (ht : ∀ p q, a ≤ p → p < q → q < b → G p < G q) :
    Calls Tryz.prog 107 #[.agg #[.func (.func 80) #[] #[.pointer (some ⟨B, 0, none⟩)], .func (.func sf) #[] sb], .int .i64 (a : Int), .int .i64 (b : Int)] w (MgP F n w0 g pad a b G w) := by
  obtain ⟨d, h1, h2⟩ := hs
  obtain ⟨G', r1, r2, r3⟩ := ins_tag h2 hab hb ht
  have hB2 : w.cell? ⟨B, 0, none⟩ = some (.slice (some ⟨g, 0, none⟩) n cap) := (World.cell?_of_block (h1.1.block B hBl (fun e => hBg (Option.some.inj e)))).trans hB
  refine (ins_func B g n cap pad sf sb hSw d a b w h1.2 h2.1 hB2 (Nat.lt_of_lt_of_le hBl h1.1.size) hBg hab hb hn).mono ?_
  rintro e w' ⟨rfl, hr⟩
  exact ⟨rfl, hr.1, G', ⟨_, hr.base h1.1, r1⟩, r2, r3⟩

/-- What the stable sort leaves. -/
def StP (F : Nat → Nd) (n : Nat) (w0 : World) (g : Nat) (pad : List Value) (w : World) (e : Ending) (w' : World) : Prop := e = .returned (.tuple #[]) ∧ w.grownBy w' (some g) ∧ ∃ G', SG F n w0 g pad w' G' ∧ Sd F 0 n G' ∧ ∀ k, k < n → G' k < n

set_option maxRecDepth 100000 in
set_option maxHeartbeats 3200000 in
theorem stable_any (F : Nat → Nd) (B g n cap : Nat) (pad : List Value) (w0 : World) (sf : Nat) (sb : Array Value) (hSw : ∀ w1, SwapN sf sb w1 g pad n) (hB : w0.cell? ⟨B, 0, none⟩ = some (.slice (some ⟨g, 0, none⟩) n cap)) (hBl : B < w0.heap.size) (hBg : B ≠ g) (hn : n ≤ 1000000) (w : World) (hs : SG F n w0 g pad w (fun k => k)) :
    Calls Tryz.prog 92 #[.agg #[.func (.func 80) #[] #[.pointer (some ⟨B, 0, none⟩)], .func (.func sf) #[] sb], .int .i64 (n : Int)] w (StP F n w0 g pad w) := by
  obtain ⟨w1, hw1⟩ : ∃ w1, w1 = w.alloc (.cells #[.func (.func 80) #[] #[.pointer (some ⟨B, 0, none⟩)], .func (.func sf) #[] sb] 137) := ⟨_, rfl⟩
  have hbw : Below w.heap.size w w1 := by rw [hw1]; exact (Below.refl _ _).alloc (Nat.le_refl _) _
  have hX : Has w1 w.heap.size 137 #[.func (.func 80) #[] #[.pointer (some ⟨B, 0, none⟩)], .func (.func sf) #[] sb] := by rw [hw1]; exact Has.new _ _ _
  have hXg : w.heap.size ≠ g := by have := hs.lt; omega
  have HK := Lib.hid (grown_of (g := g) hbw)
  have hs1 := hs.below hbw
  have HIN := Lib.hid (fun (a b : Nat) (hab : a ≤ b) (hb : b ≤ n) (G : Nat → Nat) (w : World) (hs : SG F n w0 g pad w G) ht => ins_any F B g n cap pad w0 sf sb hSw hB hBl hBg hn a b hab hb G w hs ht)
  have HMG := Lib.hid (fun (a m b : Nat) (h1 : a < m) (h2 : m < b) (h3 : b ≤ n) (G : Nat → Nat) (w : World) (hs : SG F n w0 g pad w G) k1 k2 kt => sym_any F B g n pad w0 sf sb hSw (lessN hB hBl hBg) hn (b - a) a m b (Nat.le_refl _) h1 h2 h3 G w hs k1 k2 kt)
  clear hs hSw hB hBl hbw
  go_enter Tryz.func92, Tryz.ntmps92
  go_wp2_with fail
  rw [← hw1]
  clear hw1
  go_loopw [5, 6] (fun va vb wr => ∃ (a : Nat) (G : Nat → Nat), va = .int .i64 (a : Int) ∧ vb = .int .i64 ((a : Int) + 20) ∧ a ≤ n ∧ w1.grownBy wr (some g) ∧ SG F n w0 g pad wr G ∧ Hid (20 ∣ a ∧ Part F n 20 a G ∧ ∀ k, a ≤ k → G k = k)) (fun va _ _ => n - (intOf va).toNat)
  case atStart => exact ⟨0, fun k => k, rfl, rfl, Nat.zero_le _, grownBy_refl _ _, hs1, Lib.hid ⟨Nat.dvd_zero _, part_start, fun _ _ => rfl⟩⟩
  case round =>
    clear hs1
    obtain ⟨a, G, rfl, rfl, han, hgr, hs, HP⟩ := hrel
    have hX2 := has_aside hgr hX hXg
    have x0 := hX2.cell 0
    have x1 := hX2.cell 1
    clear hX2
    by_cases hlt : a + 20 ≤ n
    · have hltz : (a : Int) + 20 ≤ (n : Int) := by omega
      have HC := HIN.out a (a + 20) (by omega) hlt G wr hs (fun p q p1 p2 _ => by rw [HP.out.2.2 p p1, HP.out.2.2 q (by omega)]; exact p2)
      rw [show ((a + 20 : Nat) : Int) = (a : Int) + 20 by omega] at HC
      have HC := Lib.hid HC
      have HNX := Lib.hid (fun (H : Nat → Nat) (hw : Wi a (a + 20) G H) (hs : Sd F a (a + 20) H) => (⟨Nat.dvd_add HP.out.1 (Nat.dvd_refl 20), part_next HP.out.2.1 HP.out.1 hw hs hlt, fun k hk => by rw [hw.1 k (.inr hk)]; exact HP.out.2.2 k (by omega)⟩ : 20 ∣ a + 20 ∧ Part F n 20 (a + 20) H ∧ ∀ k, a + 20 ≤ k → H k = k))
      clear hs
      go_wp2_with fail
      refine (HC.out).mono ?_
      rintro e w2 ⟨rfl, hg2, H, hs2, hw2, hsd2⟩
      have HN := Lib.hid (HNX.out H hw2 hsd2)
      clear hw2 hsd2 HNX HC x0 x1 HP
      go_wp2_with fail
      exact ⟨⟨a + 20, H, by go_num, by go_num, hlt, grownBy_trans hgr hg2, hs2, HN⟩, by simp [intOf]; omega⟩
    · have hltz : ¬ (a : Int) + 20 ≤ (n : Int) := by omega
      have HC := Lib.hid (HIN.out a n han (Nat.le_refl _) G wr hs (fun p q p1 p2 _ => by rw [HP.out.2.2 p p1, HP.out.2.2 q (by omega)]; exact p2))
      have HFN := Lib.hid (fun (H : Nat → Nat) (hw : Wi a n G H) (hs : Sd F a n H) => part_fin HP.out.2.1 HP.out.1 han (by omega) hw hs)
      clear hs
      go_wp2_with fail
      refine (HC.out).mono ?_
      rintro e w2 ⟨rfl, hg2, H, hs2, hw2, hsd2⟩
      have HF := Lib.hid (HFN.out H hw2 hsd2)
      have hgr2 := grownBy_trans hgr hg2
      clear hw2 hsd2 HFN HC x0 x1 HP hgr hg2 hltz hlt
      go_wp2_with fail
      go_loopw [4] (fun vs wz => ∃ (s : Nat) (G : Nat → Nat), vs = .int .i64 (s : Int) ∧ 1 ≤ s ∧ s ≤ 2000020 ∧ w1.grownBy wz (some g) ∧ SG F n w0 g pad wz G ∧ Hid (FinB F n s G)) (fun vs _ => n - (intOf vs).toNat)
      case atStart => exact ⟨20, H, rfl, by omega, by omega, hgr2, hs2, HF⟩
      case round =>
        clear hs2 hgr2 HF
        obtain ⟨s, G1, rfl, hs1', hsm, hgr, hs, HF⟩ := hrel
        by_cases hsn : s < n
        · have hsz : (s : Int) < (n : Int) := by omega
          have w2' : IntKind.i64.wrap (2 * (s : Int)) = 2 * (s : Int) := IntWalk.i64_in _ (by omega)
          have w3' : IntKind.i64.wrap ((s : Int) * 2) = (s : Int) * 2 := IntWalk.i64_in _ (by omega)
          have HBS := Lib.hid (back_start HF.out)
          clear HF
          go_wp2_with fail
          go_loopw [5, 6] (fun va vb wq => ∃ (a : Nat) (G : Nat → Nat), va = .int .i64 (a : Int) ∧ vb = .int .i64 ((a : Int) + 2 * (s : Int)) ∧ a ≤ n ∧ w1.grownBy wq (some g) ∧ SG F n w0 g pad wq G ∧ Hid (2 * s ∣ a ∧ Part F n (2 * s) a G ∧ Back F n s a G)) (fun va _ _ => n - (intOf va).toNat)
          case atStart => exact ⟨0, G1, rfl, by first | rfl | (congr 1; omega) | simp, Nat.zero_le _, hgr, hs, Lib.hid ⟨Nat.dvd_zero _, HBS.out.1, HBS.out.2⟩⟩
          case round =>
            clear hs hgr HBS
            obtain ⟨a, G, rfl, rfl, han, hgr, hs, HP⟩ := hrel
            have hX2 := has_aside hgr hX hXg
            have x0 := hX2.cell 0
            have x1 := hX2.cell 1
            clear hX2
            have HSA : Hid (s ∣ a) := Lib.hid (Nat.dvd_trans (Nat.dvd_mul_left s 2) HP.out.1)
            have HB1 := Lib.hid (HP.out.2.2 a HSA.out (Nat.le_refl _))
            have HB2 := Lib.hid (HP.out.2.2 (a + s) (Nat.dvd_add HSA.out (Nat.dvd_refl s)) (Nat.le_add_right _ _))
            by_cases hlt : a + 2 * s ≤ n
            · have hltz : (a : Int) + 2 * (s : Int) ≤ (n : Int) := by omega
              have HC := HMG.out a (a + s) (a + 2 * s) (by omega) (by omega) hlt G wr hs (by have := HB1.out.1; rwa [Nat.min_eq_left (by omega)] at this) (by have := HB2.out.1; rwa [show a + s + s = a + 2 * s by omega, Nat.min_eq_left hlt] at this) (fun p q p1 p2 q1 q2 => HB2.out.2 p q p2 q1 (by omega))
              rw [show ((a + s : Nat) : Int) = (a : Int) + (s : Int) by omega, show ((a + 2 * s : Nat) : Int) = (a : Int) + 2 * (s : Int) by omega] at HC
              have HC := Lib.hid HC
              have HNX := Lib.hid (fun (H : Nat → Nat) (hw : Wi a (a + 2 * s) G H) (hs : Sd F a (a + 2 * s) H) => (⟨Nat.dvd_add HP.out.1 (Nat.dvd_refl _), part_next HP.out.2.1 HP.out.1 hw hs hlt, back_next HP.out.2.2 hw hlt⟩ : 2 * s ∣ a + 2 * s ∧ Part F n (2 * s) (a + 2 * s) H ∧ Back F n s (a + 2 * s) H))
              clear hs HB1 HB2 HSA
              go_wp2_with fail
              refine (HC.out).mono ?_
              rintro e w3 ⟨rfl, hg3, H3, hs3, hw3, hsd3⟩
              have HN := Lib.hid (HNX.out H3 hw3 hsd3)
              clear hw3 hsd3 HNX HC x0 x1 HP
              go_wp2_with fail
              exact ⟨⟨a + 2 * s, H3, by first | rfl | (congr 1; omega) | go_num, by first | rfl | (congr 1; omega) | go_num, hlt, grownBy_trans hgr hg3, hs3, HN⟩, by simp [intOf]; omega⟩
            · have hltz : ¬ (a : Int) + 2 * (s : Int) ≤ (n : Int) := by omega
              by_cases hm : a + s < n
              · have hmz : (a : Int) + (s : Int) < (n : Int) := by omega
                have HC := HMG.out a (a + s) n (by omega) hm (Nat.le_refl _) G wr hs (by have := HB1.out.1; rwa [Nat.min_eq_left (by omega)] at this) (by have := HB2.out.1; rwa [Nat.min_eq_right (by omega)] at this) (fun p q p1 p2 q1 q2 => HB2.out.2 p q p2 q1 q2)
                rw [show ((a + s : Nat) : Int) = (a : Int) + (s : Int) by omega] at HC
                have HC := Lib.hid HC
                have HFN := Lib.hid (fun (H : Nat → Nat) (hw : Wi a n G H) (hs : Sd F a n H) => part_fin HP.out.2.1 HP.out.1 han (by omega) hw hs)
                clear hs HB1 HB2 HSA
                go_wp2_with fail
                refine (HC.out).mono ?_
                rintro e w3 ⟨rfl, hg3, H3, hs3, hw3, hsd3⟩
                have HN := Lib.hid (HFN.out H3 hw3 hsd3)
                clear hw3 hsd3 HFN HC x0 x1 HP
                go_wp2_with fail
                exact ⟨⟨2 * s, H3, by first | rfl | (congr 1; omega) | go_num, by omega, by omega, grownBy_trans hgr hg3, hs3, HN⟩, by simp [intOf]; omega⟩
              · have hmz : ¬ (a : Int) + (s : Int) < (n : Int) := by omega
                have HN : Hid (FinB F n (2 * s) G) := Lib.hid (part_fin HP.out.2.1 HP.out.1 han (by omega) (Wi.refl a n G) (by have := HB1.out.1; rwa [Nat.min_eq_right (by omega)] at this))
                clear HB1 HB2 HSA HP x0 x1
                go_wp2_with fail
                exact ⟨⟨2 * s, G, by first | rfl | (congr 1; omega) | go_num, by omega, by omega, hgr, hs, HN⟩, by simp [intOf]; omega⟩
        · have hsz : ¬ (s : Int) < (n : Int) := by omega
          have HZ : Hid (Sd F 0 n G1) := Lib.hid (by have := HF.out.sd 0 (Nat.dvd_zero _); rwa [Nat.zero_add, Nat.min_eq_right (by omega)] at this)
          go_wp2_with fail
          go_end0
          exact ⟨rfl, grownBy_trans HK.out hgr, G1, hs, HZ.out, HF.out.img⟩
end
section
open Go.RowKit

set_option maxRecDepth 100000 in
set_option maxHeartbeats 800000 in
theorem ins_none (lb : Array Value) (sf : Nat) (sb : Array Value) (w : World) :
    Calls Tryz.prog 107 #[.agg #[.func (.func 80) #[] lb, .func (.func sf) #[] sb], .int .i64 0, .int .i64 0] w fun e w' => e = .returned (.tuple #[]) ∧ Below w.heap.size w w' := by
  have hb := (Below.refl w.heap.size w).alloc (Nat.le_refl _) (.cells #[.func (.func 80) #[] lb, .func (.func sf) #[] sb] 137)
  go_enter Tryz.func107, Tryz.ntmps107
  go_wp2_with fail
  refine wp_loop_rounds 1 ?_
  rw [rounds_succ]
  go_wp2_with fail
  go_end0
  exact ⟨rfl, hb⟩
set_option maxRecDepth 100000 in
set_option maxHeartbeats 800000 in
theorem stable_none (lb : Array Value) (sf : Nat) (sb : Array Value) (w : World) :
    Calls Tryz.prog 92 #[.agg #[.func (.func 80) #[] lb, .func (.func sf) #[] sb], .int .i64 0] w fun e w' => e = .returned (.tuple #[]) ∧ Below w.heap.size w w' := by
  have hb := (Below.refl w.heap.size w).alloc (Nat.le_refl _) (.cells #[.func (.func 80) #[] lb, .func (.func sf) #[] sb] 137)
  have hX := Has.new w 137 #[.func (.func 80) #[] lb, .func (.func sf) #[] sb]
  have x0 := hX.cell 0
  have x1 := hX.cell 1
  have H := Lib.hid (ins_none lb sf sb (w.alloc (.cells #[.func (.func 80) #[] lb, .func (.func sf) #[] sb] 137)))
  clear hX
  go_enter Tryz.func92, Tryz.ntmps92
  go_wp2_with fail
  refine wp_loop_rounds 1 ?_
  rw [rounds_succ]
  go_wp2_with fail
  refine (H.out).mono ?_
  rintro e w2 ⟨rfl, hb2⟩
  go_wp2_with fail
  refine wp_loop_rounds 1 ?_
  rw [rounds_succ]
  go_wp2_with fail
  go_end0
  exact ⟨rfl, hb.trans (hb2.mono hb.size)⟩
theorem swapper_k0 (inf : TypeInfo) : Go.Lib.swapperK 0 inf 25 = 1 := by simp [Go.Lib.swapperK]
/-- What Sort gives. -/
def StsP (l : List Nd) (w : World) (e : Ending) (w' : World) : Prop := ∃ s, StbS l s ∧ NdsP s w e w'

set_option maxRecDepth 100000 in
set_option maxHeartbeats 1600000 in
theorem sort_nil (A : Option Addr) (c : Nat) (w : World) :
    Calls Tryz.prog 60 #[.slice A 0 c] w (StsP [] w) := by
  have HC := Lib.hid (clone_any A [] c w (Nds.nil A) (Nat.zero_le _))
  obtain ⟨inf, hif⟩ : ∃ i, Tryz.prog.info? 25 = some i := ⟨(Tryz.prog.info? 25).get (by kernel_rfl), by kernel_rfl⟩
  have hsk := swapper_k0 inf
  go_enter Tryz.func60, Tryz.ntmps60
  go_wp2_with fail
  refine (HC.out).mono ?_
  rintro e w1 ⟨A1, c1, rfl, ho, hb1⟩
  have hX := Has.new w1 28 #[.slice A1 0 c1]
  have hb2 := hb1.alloc hb1.size (.cells #[.slice A1 0 c1] 28)
  have x0 := hX.cell 0
  have HSL : Hid (Calls Tryz.prog 79 #[.iface 28 (.slice A1 0 c1), .func (.func 80) #[] #[.pointer (some ⟨w1.heap.size, 0, none⟩)]] (w1.alloc (.cells #[.slice A1 0 c1] 28)) fun e W' => e = .returned (.tuple #[]) ∧ Below (w1.alloc (.cells #[.slice A1 0 c1] 28)).heap.size (w1.alloc (.cells #[.slice A1 0 c1] 28)) W') := Lib.hid (by
    refine slice_of A1 0 c1 98 inf hif (by rw [hsk]; kernel_rfl) _ #[] (by rw [hsk]; rfl) _ _ ?_
    intro W hW
    refine (stable_none _ _ _ W).mono ?_
    rintro e W' ⟨rfl, hb⟩
    exact ⟨rfl, hW.trans (hb.mono hW.size)⟩)
  have HX := Lib.hid hX
  have HO := Lib.hid ho
  clear hX hsk hb1 ho
  go_wp2_with fail
  refine (HSL.out).mono ?_
  rintro e w3 ⟨rfl, hb3⟩
  have y0 := (HX.out.below hb3).cell 0
  go_wp2_with fail
  go_ret
  refine ⟨[], ⟨[], rfl, List.Pairwise.nil, fun t => by simp⟩, A1, c1, rfl, ?_, hb2.trans (hb3.mono hb2.size)⟩
  exact (HO.out.below ((Below.refl _ _).alloc (Nat.le_refl _) _)).below hb3

set_option maxRecDepth 100000 in
set_option maxHeartbeats 1600000 in
theorem sort_big (A : Option Addr) (l : List Nd) (c : Nat) (w : World) (hl : Nds w w.heap.size A l) (hn : l.length ≤ 100000) :
    Calls Tryz.prog 60 #[.slice A l.length c] w (StsP l w) := by
  by_cases h0 : l = []
  · subst h0
    exact sort_nil A c w
  have HC := Lib.hid (clone_any A l c w hl hn)
  obtain ⟨n, hn'⟩ : ∃ n, n = l.length := ⟨_, rfl⟩
  have hn1 : 1 ≤ n := by rw [hn']; exact List.length_pos_iff.2 h0
  rw [← hn'] at hn HC ⊢
  have HN := Lib.hid hn'
  clear hl hn'
  obtain ⟨inf, hif⟩ : ∃ i, Tryz.prog.info? 25 = some i := ⟨(Tryz.prog.info? 25).get (by kernel_rfl), by kernel_rfl⟩
  have hsk := swapper_k inf hif n hn1
  go_enter Tryz.func60, Tryz.ntmps60
  go_wp2_with fail
  refine (HC.out).mono ?_
  rintro e w1 ⟨A1, c1, rfl, ho, hb1⟩
  obtain ⟨g, cap, pad, e1, hgb, hg, hback⟩ := ho.row h0
  rw [← HN.out] at e1 ⊢
  injection e1 with e1 _ e2
  subst e1 e2
  have hgl := hg.lt
  have hX := Has.new w1 28 #[.slice (some ⟨g, 0, none⟩) n c1]
  have hb2 := hb1.alloc hb1.size (.cells #[.slice (some ⟨g, 0, none⟩) n c1] 28)
  have hg2 := hg.alloc (.cells #[.slice (some ⟨g, 0, none⟩) n c1] 28)
  have hl2 : (w1.alloc (.cells #[.slice (some ⟨g, 0, none⟩) n c1] 28)).heap.size = w1.heap.size + 1 := World.size_alloc _ _
  have x0 := hX.cell 0
  have HR : Hid (∀ (sf : Nat) (sb : Array Value), (∀ w1, SwapN sf sb w1 g pad n) → ∀ W, Below (w1.alloc (.cells #[.slice (some ⟨g, 0, none⟩) n c1] 28)).heap.size (w1.alloc (.cells #[.slice (some ⟨g, 0, none⟩) n c1] 28)) W →
      Calls Tryz.prog 92 #[.agg #[.func (.func 80) #[] #[.pointer (some ⟨w1.heap.size, 0, none⟩)], .func (.func sf) #[] sb], .int .i64 (n : Int)] W fun e W' => e = .returned (.tuple #[]) ∧ ∃ d, SRel (w1.alloc (.cells #[.slice (some ⟨g, 0, none⟩) n c1] 28)) g pad W' d ∧ d.size = n ∧ StbS l d.toList) := Lib.hid fun sf sb hsw W hbW => by
    refine (stable_any (nth l) w1.heap.size g n c1 pad _ sf sb hsw x0 (by rw [hl2]; exact Nat.lt_succ_self _) (by omega) (by omega) W ⟨l.toArray, (SRel.start (d := l.toArray) hg2).below hbW, by simp [HN.out], fun k hk => ?_⟩).mono ?_
    · rw [getElem!_pos l.toArray k (by simpa [HN.out] using hk)]
      rw [HN.out] at hk
      simp [nth, List.getElem?_eq_getElem hk]
    · rintro e W' ⟨rfl, hgr, G', ⟨d, h1, h2⟩, h3, h4⟩
      exact ⟨rfl, d, h1, h2.1, stb_of HN.out.symm h2 h3 h4⟩
  have HSL : Hid (Calls Tryz.prog 79 #[.iface 28 (.slice (some ⟨g, 0, none⟩) n c1), .func (.func 80) #[] #[.pointer (some ⟨w1.heap.size, 0, none⟩)]] (w1.alloc (.cells #[.slice (some ⟨g, 0, none⟩) n c1] 28)) fun e W' => e = .returned (.tuple #[]) ∧ ∃ d, SRel (w1.alloc (.cells #[.slice (some ⟨g, 0, none⟩) n c1] 28)) g pad W' d ∧ d.size = n ∧ StbS l d.toList) := Lib.hid (by
    by_cases h1 : n = 1
    · rw [if_pos h1] at hsk
      refine slice_of _ n c1 99 inf hif (by rw [hsk]; kernel_rfl) _ #[] (by rw [hsk]; rfl) _ _ (HR.out _ _ ?_)
      intro w1 W d _ _ i j hi hj hij
      omega
    · rw [if_neg h1] at hsk
      exact slice_of _ n c1 106 inf hif (by rw [hsk]; kernel_rfl) _ _ (by rw [hsk]; rfl) _ _ (HR.out _ _ fun w1 => swapN))
  have hgw : ∀ j, some g = some j → w.heap.size ≤ j := fun j e => by rw [← Option.some.inj e]; exact hgb
  have hBg : w1.heap.size ≠ g := by omega
  have HX := Lib.hid hX
  have HBK := Lib.hid hback
  clear hX HR hsk hback ho hg hg2 hb1
  go_wp2_with fail
  refine (HSL.out).mono ?_
  rintro e w3 ⟨rfl, d, hs, hd, hstb⟩
  have y0 := (hs.aside HX.out hBg).cell 0
  go_wp2_with fail
  go_ret
  have hdl : d.toList.length = l.length := by rw [Array.length_toList, hd, HN.out]
  have ho3 := HBK.out w3 d.toList hdl hs.2
  refine ⟨d.toList, hstb, some ⟨g, 0, none⟩, c1, ?_, ho3, hb2.grown hs.1 hb2.size hgw⟩
  rw [hdl, ← HN.out]
  rfl
end
end Go.Proofs.YtjokbdhineilcaaGreatDoor
