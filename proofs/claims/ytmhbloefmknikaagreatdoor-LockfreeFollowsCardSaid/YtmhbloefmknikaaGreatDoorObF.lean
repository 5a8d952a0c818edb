/-
  Start of package lockfree. Conditions: the list can be read, it has processes; no list is long.
  New of package locked, and that what it returns may be changed in place. Condition: keys and truths can be read.
  New of package lockfree, plain and of the program. Condition: keys and truths can be read.
-/
import Derived.Test.YtmhbloefmknikaaGreatDoorObA
import Derived.Test.YtmhbloefmknikaaGreatDoorLzJ
import Derived.Test.YtmhbloefmknikaaGreatDoorLzX
import Derived.Test.YtmhbloefmknikaaGreatDoorLaD
namespace Go.Proofs.YtmhbloefmknikaaGreatDoor
section
open Go.RowKit Go.Maps
namespace Lf
open Lk
/-- The error of Start. -/
noncomputable def staE (l : Ls) (p kd c : Int) : Int :=
  if vldB l = false then 1 else if p < 0 ∨ p ≥ (l.ps.length : Int) then 2 else if c < 2 ∨ c ≥ (l.cs.length : Int) then 6 else if kd ≠ 1 ∧ kd ≠ 2 ∧ kd ≠ 3 then 1 else if (l.pr p.toNat).phase ≠ 0 ∧ (l.pr p.toNat).phase ≠ 18 then 7 else if kd = 1 ∧ (l.at_ c.toNat).lock = 1 then 5 else 0
def StaP (l : Ls) (p kd c : Int) (n m : Nat) (w : World) (e : Ending) (w' : World) : Prop :=
  (staE l p kd c ≠ 0 ∧ e = .returned (.tuple #[zeroL, .int .i64 (staE l p kd c)]) ∧ Below w.heap.size w w') ∨
  (staE l p kd c = 0 ∧ ∃ G1 G2 d1 d2, e = .returned (.tuple #[.agg #[.slice (some ⟨G1, 0, none⟩) n d1, .slice (some ⟨G2, 0, none⟩) m d2], .int .i64 0]) ∧ RdL w' w.heap.size (some ⟨G1, 0, none⟩) (some ⟨G2, 0, none⟩) (begV l p.toNat kd c) ∧ Below w.heap.size w w')
/-- The list with the cell marked as in use, if it is inserted. -/
def lokV (l : Ls) (kd c : Int) : Ls := if kd = 1 then l.setC c.toNat { l.at_ c.toNat with lock := 1 } else l
theorem lok_len (l : Ls) (kd c : Int) : (lokV l kd c).cs.length = l.cs.length ∧ (lokV l kd c).ps = l.ps := by
  unfold lokV
  split
  · exact ⟨Ls.len_setC .., rfl⟩
  · exact ⟨rfl, rfl⟩
theorem lok_right (l : Ls) (kd : Int) {c : Int} (hc : c.toNat < l.cs.length) (i : Nat) : ((lokV l kd c).at_ i).right = (l.at_ i).right := by
  unfold lokV
  split
  · rw [Ls.at_setC l hc]
    split
    · rename_i e; rw [e]
    · rfl
  · rfl
theorem beg_is (l : Ls) {p : Nat} (hp : p < l.ps.length) (kd : Int) {c : Int} (hc : c.toNat < l.cs.length) : agnV ((lokV l kd c).setP p ⟨kd, c, 0, 0, 0, 0, false⟩) p = begV l p kd c := by
  have hp' : p < (lokV l kd c).ps.length := by rw [(lok_len l kd c).2]; exact hp
  unfold agnV
  rw [Ls.setP_setP, Ls.pr_self _ hp', Ls.at_setP, lok_right l kd hc]
  rfl
set_option maxRecDepth 100000 in
set_option maxHeartbeats 12800000 in
theorem start_any (A1 : Option Addr) (A2 : Addr) (l : Ls) (p kd c : Int) (n m c1 c2 : Nat) (w : World) (hn : l.cs.length = n) (hm : l.ps.length = m) (h : RdL w 0 A1 (some A2) l) (m00 : 0 < m) (m1 : m ≤ 1000000) (n1 : n ≤ 1000000) :
    Calls Tryz.prog 31 #[.agg #[.slice A1 n c1, .slice (some A2) m c2], .int .i64 p, .int .i64 kd, .int .i64 c] w (StaP l p kd c n m w) := by
  have hx := ((Has.new w 28 #[.slice A1 n c1, .slice (some A2) m c2]).below ((Below.refl _ _).alloc (Nat.le_refl _) (.cells #[.slice none 0 0, .slice none 0 0] 28)))
  have hb := ((Below.refl w.heap.size w).alloc (Nat.le_refl _) (.cells #[.slice A1 n c1, .slice (some A2) m c2] 28)).alloc (by rw [World.size_alloc]; omega) (.cells #[.slice none 0 0, .slice none 0 0] 28)
  have hy := Has.new (w.alloc (.cells #[.slice A1 n c1, .slice (some A2) m c2] 28)) 28 #[.slice none 0 0, .slice none 0 0]
  have hz : ((w.alloc (.cells #[.slice A1 n c1, .slice (some A2) m c2] 28)).alloc (.cells #[.slice none 0 0, .slice none 0 0] 28)).heap.size = w.heap.size + 1 + 1 := by rw [World.size_alloc, World.size_alloc]
  rw [World.size_alloc] at hy
  have HB := Lib.hid hb
  have HX := Lib.hid hx
  have HY := Lib.hid hy
  have HL := Lib.hid (h.below hb)
  have HN := Lib.hid hn
  have HM := Lib.hid hm
  clear hx hb hy h hn hm
  go_enter Tryz.func31, Tryz.ntmps31
  go_upto_region 1 with fail
  generalize (w.alloc (.cells #[.slice A1 n c1, .slice (some A2) m c2] 28)).alloc (.cells #[.slice none 0 0, .slice none 0 0] 28) = W at *
  obtain ⟨B, hB⟩ : ∃ B, B = w.heap.size := ⟨_, rfl⟩
  rw [← hB] at HX HY HB hz ⊢
  have HBB := Lib.hid hB
  clear hB
  have x0 := HX.out.cell 0
  have x1 := HX.out.cell 1
  have HVA := Lib.hid (valid_any A1 A2 l n m c1 c2 W HN.out HM.out HL.out m00 m1 n1)
  by_cases v : Vlf l
  · have HVB := Lib.hid (vldB_yes v)
    have HV := Lib.hid v
    replace HVA := Lib.hid (HVA.out.mono fun e w' h => h.yes v)
    have n66 : n ≤ 66 := by rw [← HN.out]; exact v.n66
    have m8 : m ≤ 8 := by rw [← HM.out]; exact v.m8
    have n0 : 0 < n := by have := v.n2; have := HN.out; omega
    obtain ⟨a1, a2, rfl, -⟩ := rd_of HL.out (by have := HN.out; omega) (by have := HM.out; omega)
    clear v
    go_wp2_with fail
    refine (HVA.out).mono ?_
    rintro e w2 ⟨rfl, hb2⟩
    have HX2 := Lib.hid (HX.out.below hb2)
    have HY2 := Lib.hid (HY.out.below hb2)
    have HB2 := Lib.hid (HB.out.trans (hb2.mono (by omega)))
    have HL2 := Lib.hid (HL.out.below hb2)
    have hs2 : B + 1 + 1 ≤ w2.heap.size := by have := hb2.size; omega
    clear x0 x1 hb2 hz HVA HX HY HB HL
    have x0 := HX2.out.cell 0
    have x1 := HX2.out.cell 1
    have y0 := HY2.out.cell 0
    have y1 := HY2.out.cell 1
    have z0 := HY2.out.frozen 0
    have z1 := HY2.out.frozen 1
    by_cases hp0 : p < 0
    · have d0 : decide (p < 0) = true := decide_eq_true hp0
      have HEQ : Hid (staE l p kd c = 2) := Lib.hid (by unfold staE; rw [HVB.out, if_neg (by decide), if_pos (.inl hp0)])
      have HNE : Hid (staE l p kd c ≠ 0) := Lib.hid (by rw [HEQ.out]; decide)
      go_wp2_with fail
      (try simp only [Exit.inBlock, Exit.then])
      have h2 := twice0 w2 (B + 1) (.slice none 0 0) (.slice none 0 0) _ _ y0 y1
      refine bodyPost_ret (results_list1 rfl _ _ (B + 1) rfl h2.1 h2.2) rfl (.inl ⟨HNE.out, ?_, ?_⟩)
      · rw [HEQ.out]; rfl
      · rw [← HBB.out]
        exact (HB2.out.setCell (p := ⟨B + 1, 0, none⟩) (by simp only; omega) _).setCell (p := ⟨B + 1, 1, none⟩) (by simp only; omega) _
    · have d0 : decide (p < 0) = false := decide_eq_false hp0
      by_cases hp1 : p ≥ (m : Int)
      · have d1 : decide (p ≥ (m : Int)) = true := decide_eq_true hp1
        have HEQ : Hid (staE l p kd c = 2) := Lib.hid (by unfold staE; rw [HVB.out, if_neg (by decide), if_pos (.inr (by rw [HM.out]; exact hp1))])
        have HNE : Hid (staE l p kd c ≠ 0) := Lib.hid (by rw [HEQ.out]; decide)
        go_wp2_with fail
        (try simp only [Exit.inBlock, Exit.then])
        have h2 := twice0 w2 (B + 1) (.slice none 0 0) (.slice none 0 0) _ _ y0 y1
        refine bodyPost_ret (results_list1 rfl _ _ (B + 1) rfl h2.1 h2.2) rfl (.inl ⟨HNE.out, ?_, ?_⟩)
        · rw [HEQ.out]; rfl
        · rw [← HBB.out]
          exact (HB2.out.setCell (p := ⟨B + 1, 0, none⟩) (by simp only; omega) _).setCell (p := ⟨B + 1, 1, none⟩) (by simp only; omega) _
      · have d1 : decide (p ≥ (m : Int)) = false := decide_eq_false hp1
        have HPN : Hid (¬ (p < 0 ∨ p ≥ (l.ps.length : Int))) := Lib.hid (by rw [HM.out]; exact fun q => q.elim hp0 hp1)
        obtain ⟨k, hpk, hkm⟩ : ∃ k : Nat, p = (k : Int) ∧ k < m := ⟨p.toNat, by omega, by omega⟩
        by_cases hc0 : c < 2
        · have d2 : decide (c < 2) = true := decide_eq_true hc0
          have HEQ : Hid (staE l p kd c = 6) := Lib.hid (by unfold staE; rw [HVB.out, if_neg (by decide), if_neg HPN.out, if_pos (.inl hc0)])
          have HNE : Hid (staE l p kd c ≠ 0) := Lib.hid (by rw [HEQ.out]; decide)
          go_wp2_with fail
          (try simp only [Exit.inBlock, Exit.then])
          have h2 := twice0 w2 (B + 1) (.slice none 0 0) (.slice none 0 0) _ _ y0 y1
          refine bodyPost_ret (results_list1 rfl _ _ (B + 1) rfl h2.1 h2.2) rfl (.inl ⟨HNE.out, ?_, ?_⟩)
          · rw [HEQ.out]; rfl
          · rw [← HBB.out]
            exact (HB2.out.setCell (p := ⟨B + 1, 0, none⟩) (by simp only; omega) _).setCell (p := ⟨B + 1, 1, none⟩) (by simp only; omega) _
        · have d2 : decide (c < 2) = false := decide_eq_false hc0
          by_cases hc1 : c ≥ (n : Int)
          · have d3 : decide (c ≥ (n : Int)) = true := decide_eq_true hc1
            have HEQ : Hid (staE l p kd c = 6) := Lib.hid (by unfold staE; rw [HVB.out, if_neg (by decide), if_neg HPN.out, if_pos (.inr (by rw [HN.out]; exact hc1))])
            have HNE : Hid (staE l p kd c ≠ 0) := Lib.hid (by rw [HEQ.out]; decide)
            go_wp2_with fail
            (try simp only [Exit.inBlock, Exit.then])
            have h2 := twice0 w2 (B + 1) (.slice none 0 0) (.slice none 0 0) _ _ y0 y1
            refine bodyPost_ret (results_list1 rfl _ _ (B + 1) rfl h2.1 h2.2) rfl (.inl ⟨HNE.out, ?_, ?_⟩)
            · rw [HEQ.out]; rfl
            · rw [← HBB.out]
              exact (HB2.out.setCell (p := ⟨B + 1, 0, none⟩) (by simp only; omega) _).setCell (p := ⟨B + 1, 1, none⟩) (by simp only; omega) _
          · have d3 : decide (c ≥ (n : Int)) = false := decide_eq_false hc1
            have HCN : Hid (¬ (c < 2 ∨ c ≥ (l.cs.length : Int))) := Lib.hid (by rw [HN.out]; exact fun q => q.elim hc0 hc1)
            obtain ⟨j, hcj, hjn⟩ : ∃ j : Nat, c = (j : Int) ∧ j < n := ⟨c.toNat, by omega, by omega⟩
            by_cases hkd : kd ≠ 1 ∧ kd ≠ 2 ∧ kd ≠ 3
            · have d4 : (kd != 1) = true := by simpa using hkd.1
              have d5 : (kd != 2) = true := by simpa using hkd.2.1
              have d6 : (kd != 3) = true := by simpa using hkd.2.2
              have HEQ : Hid (staE l p kd c = 1) := Lib.hid (by unfold staE; rw [HVB.out, if_neg (by decide), if_neg HPN.out, if_neg HCN.out, if_pos hkd])
              have HNE : Hid (staE l p kd c ≠ 0) := Lib.hid (by rw [HEQ.out]; decide)
              go_wp2_with fail
              (try simp only [Exit.inBlock, Exit.then])
              have h2 := twice0 w2 (B + 1) (.slice none 0 0) (.slice none 0 0) _ _ y0 y1
              refine bodyPost_ret (results_list1 rfl _ _ (B + 1) rfl h2.1 h2.2) rfl (.inl ⟨HNE.out, ?_, ?_⟩)
              · rw [HEQ.out]; rfl
              · rw [← HBB.out]
                exact (HB2.out.setCell (p := ⟨B + 1, 0, none⟩) (by simp only; omega) _).setCell (p := ⟨B + 1, 1, none⟩) (by simp only; omega) _
            · have HKN := Lib.hid hkd
              subst hpk hcj
              have k0 : (0 : Int) ≤ (k : Int) := by omega
              have k1 : (k : Int) < (m : Int) := by omega
              have j0 : (0 : Int) ≤ (j : Int) := by omega
              have j1 : (j : Int) < (n : Int) := by omega
              have hk' : k < l.ps.length := by rw [HM.out]; exact hkm
              have hj' : j < l.cs.length := by rw [HN.out]; exact hjn
              obtain ⟨b, o, e, -, hbz, f0, f1, f2, f3, f4, f5, f6⟩ := HL2.out.proc hk'
              injection e with e
              subst e
              obtain ⟨bc, oc, e, -, hbc, g0, g1, g2, g3, g4⟩ := HL2.out.cell hj'
              injection e with e
              subst e
              have HUW := Lib.hid (underWay_any (l.pr k) w2)
              have HG3 := Lib.hid (fun (V : World) (q : Below w2.heap.size w2 V) => (q.cell (p := ⟨bc, oc + j * 5 + 3, none⟩) hbc).trans g3)
              have HXB := Lib.hid (fun (V : World) (q : Below w2.heap.size w2 V) => HX2.out.below q)
              have HYB := Lib.hid (fun (V : World) (q : Below w2.heap.size w2 V) => HY2.out.below q)
              have HCO := Lib.hid (fun (V : World) (q : Below w2.heap.size w2 V) => copied_any ⟨_, _, _⟩ ⟨_, _, _⟩ l n m c1 c2 0 V HN.out HM.out (HL2.out.below q) n0 m00 (by omega) (by omega))
              clear g0 g1 g2 g3 g4
              have HPR : Hid ((l.pr (k : Int).toNat) = l.pr k) := Lib.hid (by rw [Int.toNat_natCast])
              by_cases hu : (l.pr k).phase ≠ 0 ∧ (l.pr k).phase ≠ 18
              · have HU := Lib.hid (HUW.out.mono fun e w' h => h.yes hu)
                have HEQ : Hid (staE l (k : Int) kd (j : Int) = 7) := Lib.hid (by unfold staE; rw [HVB.out, if_neg (by decide), if_neg HPN.out, if_neg HCN.out, if_neg HKN.out, if_pos (by rw [HPR.out]; exact hu)])
                have HNE : Hid (staE l (k : Int) kd (j : Int) ≠ 0) := Lib.hid (by rw [HEQ.out]; decide)
                clear HUW hu HPR
                generalize l.pr k = x at *
                obtain ⟨xk, xc, xp, xd, xs, xx, xr⟩ := x
                simp only at f0 f1 f2 f3 f4 f5 f6
                obtain rfl | rfl | rfl : kd = 1 ∨ kd = 2 ∨ kd = 3 := by have := HKN.out; omega
                all_goals
                  go_wp2_with (go_at_call 75; with_reducible refine (HU.out).mono ?_; rintro e w4 ⟨rfl, hb4⟩; have y0 := (HYB.out w4 hb4).cell 0; have y1 := (HYB.out w4 hb4).cell 1; have z0 := (HYB.out w4 hb4).frozen 0; have z1 := (HYB.out w4 hb4).frozen 1; have HB4 := Lib.hid (HB2.out.trans (hb4.mono (by omega))))
                  (try simp only [Exit.inBlock, Exit.then])
                  have h2 := twice0 w4 (B + 1) (.slice none 0 0) (.slice none 0 0) _ _ y0 y1
                  refine bodyPost_ret (results_list1 rfl _ _ (B + 1) rfl h2.1 h2.2) rfl (.inl ⟨HNE.out, ?_, ?_⟩)
                  · rw [HEQ.out]; rfl
                  · rw [← HBB.out]
                    exact (HB4.out.setCell (p := ⟨B + 1, 0, none⟩) (by simp only; omega) _).setCell (p := ⟨B + 1, 1, none⟩) (by simp only; omega) _
              · have HU := Lib.hid (HUW.out.mono fun e w' h => h.no hu)
                have HUN : Hid (¬ ((l.pr (k : Int).toNat).phase ≠ 0 ∧ (l.pr (k : Int).toNat).phase ≠ 18)) := Lib.hid (by rw [HPR.out]; exact hu)
                clear HUW hu HPR
                by_cases hdu : kd = 1 ∧ (l.at_ j).lock = 1
                · have HEQ : Hid (staE l (k : Int) kd (j : Int) = 5) := Lib.hid (by unfold staE; rw [HVB.out, if_neg (by decide), if_neg HPN.out, if_neg HCN.out, if_neg HKN.out, if_neg HUN.out, if_pos (by exact hdu)])
                  have HNE : Hid (staE l (k : Int) kd (j : Int) ≠ 0) := Lib.hid (by rw [HEQ.out]; decide)
                  obtain ⟨rfl, hlk⟩ := hdu
                  rw [hlk] at HG3
                  clear HUN hlk
                  generalize l.pr k = x at *
                  obtain ⟨xk, xc, xp, xd, xs, xx, xr⟩ := x
                  simp only at f0 f1 f2 f3 f4 f5 f6
                  go_wp2_with (go_at_call 75; with_reducible refine (HU.out).mono ?_; rintro e w4 ⟨rfl, hb4⟩; have y0 := (HYB.out w4 hb4).cell 0; have y1 := (HYB.out w4 hb4).cell 1; have z0 := (HYB.out w4 hb4).frozen 0; have z1 := (HYB.out w4 hb4).frozen 1; have x0 := (HXB.out w4 hb4).cell 0; have x1 := (HXB.out w4 hb4).cell 1; have g3 := HG3.out w4 hb4; have HB4 := Lib.hid (HB2.out.trans (hb4.mono (by omega))))
                  (try simp only [Exit.inBlock, Exit.then])
                  have h2 := twice0 w4 (B + 1) (.slice none 0 0) (.slice none 0 0) _ _ y0 y1
                  refine bodyPost_ret (results_list1 rfl _ _ (B + 1) rfl h2.1 h2.2) rfl (.inl ⟨HNE.out, ?_, ?_⟩)
                  · rw [HEQ.out]; rfl
                  · rw [← HBB.out]
                    exact (HB4.out.setCell (p := ⟨B + 1, 0, none⟩) (by simp only; omega) _).setCell (p := ⟨B + 1, 1, none⟩) (by simp only; omega) _
                · have HEQ0 : Hid (staE l (k : Int) kd (j : Int) = 0) := Lib.hid (by unfold staE; rw [HVB.out, if_neg (by decide), if_neg HPN.out, if_neg HCN.out, if_neg HKN.out, if_neg HUN.out, if_neg (by exact hdu)])
                  have HBI := Lib.hid (beg_is l hk' kd (c := (j : Int)) (by rw [Int.toNat_natCast]; exact hj'))
                  have HLL := Lib.hid (lok_len l kd (j : Int))
                  have HLK : Hid (kd = 1 → ((l.at_ j).lock == 1) = false) := Lib.hid (fun q => by simpa using fun r => hdu ⟨q, r⟩)
                  have HL1 : Hid (∀ q : kd = 1, lokV l kd (j : Int) = l.setC j { l.at_ j with lock := 1 }) := Lib.hid (fun q => by unfold lokV; rw [if_pos q, Int.toNat_natCast])
                  have HL2' : Hid (∀ q : ¬ kd = 1, lokV l kd (j : Int) = l) := Lib.hid (fun q => by unfold lokV; rw [if_neg q])
                  clear HUN hdu
                  have HPX : Hid (∃ x, x = l.pr k) := Lib.hid ⟨_, rfl⟩
                  obtain ⟨x, hx⟩ := HPX.out
                  rw [← hx] at f0 f1 f2 f3 f4 f5 f6 HU
                  clear hx HPX
                  obtain ⟨xk, xc, xp, xd, xs, xx, xr⟩ := x
                  simp only at f0 f1 f2 f3 f4 f5 f6
                  obtain rfl | rfl | rfl : kd = 1 ∨ kd = 2 ∨ kd = 3 := by have := HKN.out; omega
                  · have d4 := HLK.out rfl
                    go_wp2_with (go_at_call 75; with_reducible refine (HU.out).mono ?_; rintro e w4 ⟨rfl, hb4⟩; have x0 := (HXB.out w4 hb4).cell 0; have x1 := (HXB.out w4 hb4).cell 1; have g3 := HG3.out w4 hb4)
                    refine (HCO.out w4 hb4).mono ?_
                    rintro e w3 ⟨G1, G2, d1, d2, rfl, hM, hb3⟩
                    have HY3 := Lib.hid ((HY2.out.below hb4).below hb3)
                    have hs4 : w2.heap.size ≤ w4.heap.size := hb4.size
                    have HB3 := Lib.hid ((HB2.out.trans (hb4.mono (by omega))).trans (hb3.mono (by omega)))
                    clear hb4 x0 x1 y0 y1 z0 z1 f0 f1 f2 f3 f4 f5 f6 g3 HXB HCO
                    go_upto_region 14 with fail
                    have hA := (Below.refl w3.heap.size w3).alloc (Nat.le_refl _) (.cells #[.slice (some ⟨G1, 0, none⟩) n d1, .slice (some ⟨G2, 0, none⟩) m d2] 28)
                    have HX4 := Lib.hid (Has.new w3 28 #[.slice (some ⟨G1, 0, none⟩) n d1, .slice (some ⟨G2, 0, none⟩) m d2])
                    have HY4 := Lib.hid (HY3.out.below hA)
                    have HM4 := Lib.hid (hM.below hA)
                    have hs3 : B + 1 + 1 ≤ w3.heap.size := Nat.le_trans hs2 (Nat.le_trans hs4 hb3.size)
                    have HB4 := Lib.hid (HB3.out.trans (hA.mono (by omega)))
                    have hg1 : G1 < w3.heap.size := hM.cs.lt
                    have hg2 : G2 < w3.heap.size := hM.ps.lt
                    have hg3 : B + 1 + 1 ≤ G1 := Nat.le_trans hs2 (Nat.le_trans hs4 hM.b1)
                    have hg4 : B + 1 + 1 ≤ G2 := Nat.le_trans hs2 (Nat.le_trans hs4 hM.b2)
                    have hne : ¬ G1 = G2 := hM.ne
                    have hne' : ¬ G2 = G1 := fun e => hM.ne e.symm
                    have HML := Lib.hid (show ∀ V, MemL V w4.heap.size G1 G2 d1 d2 (begV l k 1 (j : Int)) → RdL V (B + 1 + 1) (some ⟨G1, 0, none⟩) (some ⟨G2, 0, none⟩) (begV l k 1 (j : Int)) from fun V q => q.rd.low (by omega))
                    clear hA hM hb3 HX2 HY2 HB2 HYB
                    generalize w3.alloc (.cells #[.slice (some ⟨G1, 0, none⟩) n d1, .slice (some ⟨G2, 0, none⟩) m d2] 28) = W4 at *
                    obtain ⟨C, hC⟩ : ∃ C, C = w3.heap.size := ⟨_, rfl⟩
                    rw [← hC] at HX4 hs3 hg1 hg2 ⊢
                    clear hC
                    have x0 := HX4.out.cell 0
                    have x1 := HX4.out.cell 1
                    obtain ⟨z1, z2⟩ := HM4.out.fz
                    obtain ⟨h0, h1, h2, h3, h4⟩ := HM4.out.cell hj'
                    go_upto_region 16 with fail
                    have HMQ : Hid (MemL (W4.setCell ⟨G1, j * 5 + 3, none⟩ (.int .i64 1)) w4.heap.size G1 G2 d1 d2 (lokV l 1 (j : Int))) := Lib.hid (by
                      rw [HL1.out (by trivial)]
                      exact (HM4.out.initC hj').upC hj' 3 (by decide) (.int .i64 1) { l.at_ j with lock := 1 } rfl)
                    have HCQ : Hid (Chg G1 G2 W4 (W4.setCell ⟨G1, j * 5 + 3, none⟩ (.int .i64 1))) := Lib.hid (Chg.refl.set1 _ _)
                    clear x0 x1 z1 z2 h0 h1 h2 h3 h4
                    generalize W4.setCell ⟨G1, j * 5 + 3, none⟩ (.int .i64 1) = W9 at *
                    have HX9 := Lib.hid (HCQ.out.has HX4.out (by omega) (by omega))
                    have hkl : k < (lokV l 1 (j : Int)).ps.length := by rw [HLL.out.2]; exact hk'
                    have x0 := HX9.out.cell 0
                    have x1 := HX9.out.cell 1
                    obtain ⟨z1, z2⟩ := HMQ.out.fz
                    obtain ⟨g0, g1, g2, g3, g4, g5, g6⟩ := HMQ.out.proc hkl
                    go_upto_region 17 with fail
                    have HM5 := Lib.hid (HMQ.out.seven hkl ⟨1, (j : Int), 0, 0, 0, 0, false⟩)
                    have HC5 := Lib.hid (HCQ.out.seven (p := k) (.int .i64 1) (.int .i64 (j : Int)) (.int .i64 0) (.int .i64 0) (.int .i64 0) (.int .i64 0) (.bool false))
                    clear x0 x1 z1 z2 g0 g1 g2 g3 g4 g5 g6
                    simp only at HM5
                    generalize ((((((W9.setCell ⟨G2, k * 7, none⟩ (.int .i64 1)).setCell ⟨G2, k * 7 + 1, none⟩ (.int .i64 (j : Int))).setCell ⟨G2, k * 7 + 2, none⟩ (.int .i64 0)).setCell ⟨G2, k * 7 + 3, none⟩ (.int .i64 0)).setCell ⟨G2, k * 7 + 4, none⟩ (.int .i64 0)).setCell ⟨G2, k * 7 + 5, none⟩ (.int .i64 0)).setCell ⟨G2, k * 7 + 6, none⟩ (.bool false) = W5 at *
                    have HBE := Lib.hid (begin_any ((lokV l 1 (j : Int)).setP k ⟨1, (j : Int), 0, 0, 0, 0, false⟩) n m k w4.heap.size G1 G2 d1 d2 W5.drew (HLL.out.1.trans HN.out) (by rw [Ls.len_setP, HLL.out.2]; exact HM.out) HM5.out.drew hkm n0)
                    rw [HBI.out] at HBE
                    have HS := Lib.hid (fun (V : World) (q : Chg G1 G2 W5.drew V) => (⟨((HC5.out.drew.trans q).has HX4.out (by omega) (by omega)).cell 0, ((HC5.out.drew.trans q).has HX4.out (by omega) (by omega)).cell 1⟩ : V.cell? ⟨C, 0, none⟩ = some (.slice (some ⟨G1, 0, none⟩) n d1) ∧ V.cell? ⟨C, 1, none⟩ = some (.slice (some ⟨G2, 0, none⟩) m d2)))
                    have hS0 := HS.out W5.drew Chg.refl
                    go_region_held3 (fun V => V.cell? ⟨C, 0, none⟩ = some (.slice (some ⟨G1, 0, none⟩) n d1) ∧ V.cell? ⟨C, 1, none⟩ = some (.slice (some ⟨G2, 0, none⟩) m d2)) (first | with_reducible exact hS8 | with_reducible exact hS0) ((go_at_call 77; refine (HBE.out).mono ?_; rintro e w6 ⟨rfl, hm6, hc6⟩; have hS8 := HS.out w6 hc6))
                    have HC6 := Lib.hid (HC5.out.drew.trans hc6)
                    have HX6 := Lib.hid (HC6.out.has HX4.out (by omega) (by omega))
                    have HY6 := Lib.hid (HC6.out.has HY4.out (by omega) (by omega))
                    have HM6 := Lib.hid (HML.out w6 hm6)
                    clear hm6 hc6 HBE hS0 hS8 HS
                    have x0 := HX6.out.cell 0
                    have x1 := HX6.out.cell 1
                    have y0 := HY6.out.cell 0
                    have y1 := HY6.out.cell 1
                    have z0 := HY6.out.frozen 0
                    have z1 := HY6.out.frozen 1
                    go_wp2_with fail
                    (try simp only [Exit.inBlock, Exit.then])
                    have h2 := twice0 w6 (B + 1) (.slice (some ⟨G1, 0, none⟩) n d1) (.slice (some ⟨G2, 0, none⟩) m d2) _ _ y0 y1
                    refine bodyPost_ret (results_list1 rfl _ _ (B + 1) rfl h2.1 h2.2) rfl (.inr ⟨HEQ0.out, G1, G2, d1, d2, rfl, ?_, ?_⟩)
                    · refine RdL.low (lo := B + 1 + 1) (HM6.out.keep (by simp [World.setCell]) fun i q1 q2 => ?_) (by rw [← HBB.out]; omega)
                      rw [Below.heap_setCell _ ⟨B + 1, 1, none⟩ _ _ (by simp only; omega), Below.heap_setCell _ ⟨B + 1, 0, none⟩ _ _ (by simp only; omega)]
                    · rw [← HBB.out]
                      have hs5 := HB4.out.size
                      rw [← HBB.out] at hs5
                      have h8 : Below B w w6 := HB4.out.trans (HC6.out.below (by omega) (by omega) hs5)
                      exact (h8.setCell (p := ⟨B + 1, 0, none⟩) (by simp only; omega) _).setCell (p := ⟨B + 1, 1, none⟩) (by simp only; omega) _
                  · go_wp2_with (go_at_call 75; with_reducible refine (HU.out).mono ?_; rintro e w4 ⟨rfl, hb4⟩; have x0 := (HXB.out w4 hb4).cell 0; have x1 := (HXB.out w4 hb4).cell 1; have g3 := HG3.out w4 hb4)
                    refine (HCO.out w4 hb4).mono ?_
                    rintro e w3 ⟨G1, G2, d1, d2, rfl, hM, hb3⟩
                    have HY3 := Lib.hid ((HY2.out.below hb4).below hb3)
                    have hs4 : w2.heap.size ≤ w4.heap.size := hb4.size
                    have HB3 := Lib.hid ((HB2.out.trans (hb4.mono (by omega))).trans (hb3.mono (by omega)))
                    clear hb4 x0 x1 y0 y1 z0 z1 f0 f1 f2 f3 f4 f5 f6 g3 HXB HCO
                    go_upto_region 14 with fail
                    have hA := (Below.refl w3.heap.size w3).alloc (Nat.le_refl _) (.cells #[.slice (some ⟨G1, 0, none⟩) n d1, .slice (some ⟨G2, 0, none⟩) m d2] 28)
                    have HX4 := Lib.hid (Has.new w3 28 #[.slice (some ⟨G1, 0, none⟩) n d1, .slice (some ⟨G2, 0, none⟩) m d2])
                    have HY4 := Lib.hid (HY3.out.below hA)
                    have HM4 := Lib.hid (hM.below hA)
                    have hs3 : B + 1 + 1 ≤ w3.heap.size := Nat.le_trans hs2 (Nat.le_trans hs4 hb3.size)
                    have HB4 := Lib.hid (HB3.out.trans (hA.mono (by omega)))
                    have hg1 : G1 < w3.heap.size := hM.cs.lt
                    have hg2 : G2 < w3.heap.size := hM.ps.lt
                    have hg3 : B + 1 + 1 ≤ G1 := Nat.le_trans hs2 (Nat.le_trans hs4 hM.b1)
                    have hg4 : B + 1 + 1 ≤ G2 := Nat.le_trans hs2 (Nat.le_trans hs4 hM.b2)
                    have hne : ¬ G1 = G2 := hM.ne
                    have hne' : ¬ G2 = G1 := fun e => hM.ne e.symm
                    have HML := Lib.hid (show ∀ V, MemL V w4.heap.size G1 G2 d1 d2 (begV l k 2 (j : Int)) → RdL V (B + 1 + 1) (some ⟨G1, 0, none⟩) (some ⟨G2, 0, none⟩) (begV l k 2 (j : Int)) from fun V q => q.rd.low (by omega))
                    clear hA hM hb3 HX2 HY2 HB2 HYB
                    generalize w3.alloc (.cells #[.slice (some ⟨G1, 0, none⟩) n d1, .slice (some ⟨G2, 0, none⟩) m d2] 28) = W4 at *
                    obtain ⟨C, hC⟩ : ∃ C, C = w3.heap.size := ⟨_, rfl⟩
                    rw [← hC] at HX4 hs3 hg1 hg2 ⊢
                    clear hC
                    have x0 := HX4.out.cell 0
                    have x1 := HX4.out.cell 1
                    obtain ⟨z1, z2⟩ := HM4.out.fz
                    go_upto_region 16 with fail
                    obtain ⟨W9, hW9⟩ : ∃ W9, W9 = W4 := ⟨_, rfl⟩
                    have HMQ : Hid (MemL W9 w4.heap.size G1 G2 d1 d2 (lokV l 2 (j : Int))) := Lib.hid (by
                      rw [HL2'.out (by decide), hW9]
                      exact HM4.out)
                    have HCQ : Hid (Chg G1 G2 W4 W9) := Lib.hid (by rw [hW9]; exact Chg.refl)
                    rw [← hW9]
                    clear x0 x1 z1 z2 hW9
                    have HX9 := Lib.hid (HCQ.out.has HX4.out (by omega) (by omega))
                    have hkl : k < (lokV l 2 (j : Int)).ps.length := by rw [HLL.out.2]; exact hk'
                    have x0 := HX9.out.cell 0
                    have x1 := HX9.out.cell 1
                    obtain ⟨z1, z2⟩ := HMQ.out.fz
                    obtain ⟨g0, g1, g2, g3, g4, g5, g6⟩ := HMQ.out.proc hkl
                    go_upto_region 17 with fail
                    have HM5 := Lib.hid (HMQ.out.seven hkl ⟨2, (j : Int), 0, 0, 0, 0, false⟩)
                    have HC5 := Lib.hid (HCQ.out.seven (p := k) (.int .i64 2) (.int .i64 (j : Int)) (.int .i64 0) (.int .i64 0) (.int .i64 0) (.int .i64 0) (.bool false))
                    clear x0 x1 z1 z2 g0 g1 g2 g3 g4 g5 g6
                    simp only at HM5
                    generalize ((((((W9.setCell ⟨G2, k * 7, none⟩ (.int .i64 2)).setCell ⟨G2, k * 7 + 1, none⟩ (.int .i64 (j : Int))).setCell ⟨G2, k * 7 + 2, none⟩ (.int .i64 0)).setCell ⟨G2, k * 7 + 3, none⟩ (.int .i64 0)).setCell ⟨G2, k * 7 + 4, none⟩ (.int .i64 0)).setCell ⟨G2, k * 7 + 5, none⟩ (.int .i64 0)).setCell ⟨G2, k * 7 + 6, none⟩ (.bool false) = W5 at *
                    have HBE := Lib.hid (begin_any ((lokV l 2 (j : Int)).setP k ⟨2, (j : Int), 0, 0, 0, 0, false⟩) n m k w4.heap.size G1 G2 d1 d2 W5.drew (HLL.out.1.trans HN.out) (by rw [Ls.len_setP, HLL.out.2]; exact HM.out) HM5.out.drew hkm n0)
                    rw [HBI.out] at HBE
                    have HS := Lib.hid (fun (V : World) (q : Chg G1 G2 W5.drew V) => (⟨((HC5.out.drew.trans q).has HX4.out (by omega) (by omega)).cell 0, ((HC5.out.drew.trans q).has HX4.out (by omega) (by omega)).cell 1⟩ : V.cell? ⟨C, 0, none⟩ = some (.slice (some ⟨G1, 0, none⟩) n d1) ∧ V.cell? ⟨C, 1, none⟩ = some (.slice (some ⟨G2, 0, none⟩) m d2)))
                    have hS0 := HS.out W5.drew Chg.refl
                    go_region_held3 (fun V => V.cell? ⟨C, 0, none⟩ = some (.slice (some ⟨G1, 0, none⟩) n d1) ∧ V.cell? ⟨C, 1, none⟩ = some (.slice (some ⟨G2, 0, none⟩) m d2)) (first | with_reducible exact hS8 | with_reducible exact hS0) ((go_at_call 77; refine (HBE.out).mono ?_; rintro e w6 ⟨rfl, hm6, hc6⟩; have hS8 := HS.out w6 hc6))
                    have HC6 := Lib.hid (HC5.out.drew.trans hc6)
                    have HX6 := Lib.hid (HC6.out.has HX4.out (by omega) (by omega))
                    have HY6 := Lib.hid (HC6.out.has HY4.out (by omega) (by omega))
                    have HM6 := Lib.hid (HML.out w6 hm6)
                    clear hm6 hc6 HBE hS0 hS8 HS
                    have x0 := HX6.out.cell 0
                    have x1 := HX6.out.cell 1
                    have y0 := HY6.out.cell 0
                    have y1 := HY6.out.cell 1
                    have z0 := HY6.out.frozen 0
                    have z1 := HY6.out.frozen 1
                    go_wp2_with fail
                    (try simp only [Exit.inBlock, Exit.then])
                    have h2 := twice0 w6 (B + 1) (.slice (some ⟨G1, 0, none⟩) n d1) (.slice (some ⟨G2, 0, none⟩) m d2) _ _ y0 y1
                    refine bodyPost_ret (results_list1 rfl _ _ (B + 1) rfl h2.1 h2.2) rfl (.inr ⟨HEQ0.out, G1, G2, d1, d2, rfl, ?_, ?_⟩)
                    · refine RdL.low (lo := B + 1 + 1) (HM6.out.keep (by simp [World.setCell]) fun i q1 q2 => ?_) (by rw [← HBB.out]; omega)
                      rw [Below.heap_setCell _ ⟨B + 1, 1, none⟩ _ _ (by simp only; omega), Below.heap_setCell _ ⟨B + 1, 0, none⟩ _ _ (by simp only; omega)]
                    · rw [← HBB.out]
                      have hs5 := HB4.out.size
                      rw [← HBB.out] at hs5
                      have h8 : Below B w w6 := HB4.out.trans (HC6.out.below (by omega) (by omega) hs5)
                      exact (h8.setCell (p := ⟨B + 1, 0, none⟩) (by simp only; omega) _).setCell (p := ⟨B + 1, 1, none⟩) (by simp only; omega) _
                  · go_wp2_with (go_at_call 75; with_reducible refine (HU.out).mono ?_; rintro e w4 ⟨rfl, hb4⟩; have x0 := (HXB.out w4 hb4).cell 0; have x1 := (HXB.out w4 hb4).cell 1; have g3 := HG3.out w4 hb4)
                    refine (HCO.out w4 hb4).mono ?_
                    rintro e w3 ⟨G1, G2, d1, d2, rfl, hM, hb3⟩
                    have HY3 := Lib.hid ((HY2.out.below hb4).below hb3)
                    have hs4 : w2.heap.size ≤ w4.heap.size := hb4.size
                    have HB3 := Lib.hid ((HB2.out.trans (hb4.mono (by omega))).trans (hb3.mono (by omega)))
                    clear hb4 x0 x1 y0 y1 z0 z1 f0 f1 f2 f3 f4 f5 f6 g3 HXB HCO
                    go_upto_region 14 with fail
                    have hA := (Below.refl w3.heap.size w3).alloc (Nat.le_refl _) (.cells #[.slice (some ⟨G1, 0, none⟩) n d1, .slice (some ⟨G2, 0, none⟩) m d2] 28)
                    have HX4 := Lib.hid (Has.new w3 28 #[.slice (some ⟨G1, 0, none⟩) n d1, .slice (some ⟨G2, 0, none⟩) m d2])
                    have HY4 := Lib.hid (HY3.out.below hA)
                    have HM4 := Lib.hid (hM.below hA)
                    have hs3 : B + 1 + 1 ≤ w3.heap.size := Nat.le_trans hs2 (Nat.le_trans hs4 hb3.size)
                    have HB4 := Lib.hid (HB3.out.trans (hA.mono (by omega)))
                    have hg1 : G1 < w3.heap.size := hM.cs.lt
                    have hg2 : G2 < w3.heap.size := hM.ps.lt
                    have hg3 : B + 1 + 1 ≤ G1 := Nat.le_trans hs2 (Nat.le_trans hs4 hM.b1)
                    have hg4 : B + 1 + 1 ≤ G2 := Nat.le_trans hs2 (Nat.le_trans hs4 hM.b2)
                    have hne : ¬ G1 = G2 := hM.ne
                    have hne' : ¬ G2 = G1 := fun e => hM.ne e.symm
                    have HML := Lib.hid (show ∀ V, MemL V w4.heap.size G1 G2 d1 d2 (begV l k 3 (j : Int)) → RdL V (B + 1 + 1) (some ⟨G1, 0, none⟩) (some ⟨G2, 0, none⟩) (begV l k 3 (j : Int)) from fun V q => q.rd.low (by omega))
                    clear hA hM hb3 HX2 HY2 HB2 HYB
                    generalize w3.alloc (.cells #[.slice (some ⟨G1, 0, none⟩) n d1, .slice (some ⟨G2, 0, none⟩) m d2] 28) = W4 at *
                    obtain ⟨C, hC⟩ : ∃ C, C = w3.heap.size := ⟨_, rfl⟩
                    rw [← hC] at HX4 hs3 hg1 hg2 ⊢
                    clear hC
                    have x0 := HX4.out.cell 0
                    have x1 := HX4.out.cell 1
                    obtain ⟨z1, z2⟩ := HM4.out.fz
                    go_upto_region 16 with fail
                    obtain ⟨W9, hW9⟩ : ∃ W9, W9 = W4 := ⟨_, rfl⟩
                    have HMQ : Hid (MemL W9 w4.heap.size G1 G2 d1 d2 (lokV l 3 (j : Int))) := Lib.hid (by
                      rw [HL2'.out (by decide), hW9]
                      exact HM4.out)
                    have HCQ : Hid (Chg G1 G2 W4 W9) := Lib.hid (by rw [hW9]; exact Chg.refl)
                    rw [← hW9]
                    clear x0 x1 z1 z2 hW9
                    have HX9 := Lib.hid (HCQ.out.has HX4.out (by omega) (by omega))
                    have hkl : k < (lokV l 3 (j : Int)).ps.length := by rw [HLL.out.2]; exact hk'
                    have x0 := HX9.out.cell 0
                    have x1 := HX9.out.cell 1
                    obtain ⟨z1, z2⟩ := HMQ.out.fz
                    obtain ⟨g0, g1, g2, g3, g4, g5, g6⟩ := HMQ.out.proc hkl
                    go_upto_region 17 with fail
                    have HM5 := Lib.hid (HMQ.out.seven hkl ⟨3, (j : Int), 0, 0, 0, 0, false⟩)
                    have HC5 := Lib.hid (HCQ.out.seven (p := k) (.int .i64 3) (.int .i64 (j : Int)) (.int .i64 0) (.int .i64 0) (.int .i64 0) (.int .i64 0) (.bool false))
                    clear x0 x1 z1 z2 g0 g1 g2 g3 g4 g5 g6
                    simp only at HM5
                    generalize ((((((W9.setCell ⟨G2, k * 7, none⟩ (.int .i64 3)).setCell ⟨G2, k * 7 + 1, none⟩ (.int .i64 (j : Int))).setCell ⟨G2, k * 7 + 2, none⟩ (.int .i64 0)).setCell ⟨G2, k * 7 + 3, none⟩ (.int .i64 0)).setCell ⟨G2, k * 7 + 4, none⟩ (.int .i64 0)).setCell ⟨G2, k * 7 + 5, none⟩ (.int .i64 0)).setCell ⟨G2, k * 7 + 6, none⟩ (.bool false) = W5 at *
                    have HBE := Lib.hid (begin_any ((lokV l 3 (j : Int)).setP k ⟨3, (j : Int), 0, 0, 0, 0, false⟩) n m k w4.heap.size G1 G2 d1 d2 W5.drew (HLL.out.1.trans HN.out) (by rw [Ls.len_setP, HLL.out.2]; exact HM.out) HM5.out.drew hkm n0)
                    rw [HBI.out] at HBE
                    have HS := Lib.hid (fun (V : World) (q : Chg G1 G2 W5.drew V) => (⟨((HC5.out.drew.trans q).has HX4.out (by omega) (by omega)).cell 0, ((HC5.out.drew.trans q).has HX4.out (by omega) (by omega)).cell 1⟩ : V.cell? ⟨C, 0, none⟩ = some (.slice (some ⟨G1, 0, none⟩) n d1) ∧ V.cell? ⟨C, 1, none⟩ = some (.slice (some ⟨G2, 0, none⟩) m d2)))
                    have hS0 := HS.out W5.drew Chg.refl
                    go_region_held3 (fun V => V.cell? ⟨C, 0, none⟩ = some (.slice (some ⟨G1, 0, none⟩) n d1) ∧ V.cell? ⟨C, 1, none⟩ = some (.slice (some ⟨G2, 0, none⟩) m d2)) (first | with_reducible exact hS8 | with_reducible exact hS0) ((go_at_call 77; refine (HBE.out).mono ?_; rintro e w6 ⟨rfl, hm6, hc6⟩; have hS8 := HS.out w6 hc6))
                    have HC6 := Lib.hid (HC5.out.drew.trans hc6)
                    have HX6 := Lib.hid (HC6.out.has HX4.out (by omega) (by omega))
                    have HY6 := Lib.hid (HC6.out.has HY4.out (by omega) (by omega))
                    have HM6 := Lib.hid (HML.out w6 hm6)
                    clear hm6 hc6 HBE hS0 hS8 HS
                    have x0 := HX6.out.cell 0
                    have x1 := HX6.out.cell 1
                    have y0 := HY6.out.cell 0
                    have y1 := HY6.out.cell 1
                    have z0 := HY6.out.frozen 0
                    have z1 := HY6.out.frozen 1
                    go_wp2_with fail
                    (try simp only [Exit.inBlock, Exit.then])
                    have h2 := twice0 w6 (B + 1) (.slice (some ⟨G1, 0, none⟩) n d1) (.slice (some ⟨G2, 0, none⟩) m d2) _ _ y0 y1
                    refine bodyPost_ret (results_list1 rfl _ _ (B + 1) rfl h2.1 h2.2) rfl (.inr ⟨HEQ0.out, G1, G2, d1, d2, rfl, ?_, ?_⟩)
                    · refine RdL.low (lo := B + 1 + 1) (HM6.out.keep (by simp [World.setCell]) fun i q1 q2 => ?_) (by rw [← HBB.out]; omega)
                      rw [Below.heap_setCell _ ⟨B + 1, 1, none⟩ _ _ (by simp only; omega), Below.heap_setCell _ ⟨B + 1, 0, none⟩ _ _ (by simp only; omega)]
                    · rw [← HBB.out]
                      have hs5 := HB4.out.size
                      rw [← HBB.out] at hs5
                      have h8 : Below B w w6 := HB4.out.trans (HC6.out.below (by omega) (by omega) hs5)
                      exact (h8.setCell (p := ⟨B + 1, 0, none⟩) (by simp only; omega) _).setCell (p := ⟨B + 1, 1, none⟩) (by simp only; omega) _
  · have HVB := Lib.hid (vldB_no v)
    replace HVA := Lib.hid (HVA.out.mono fun e w' h => h.no v)
    have HEQ : Hid (staE l p kd c = 1) := Lib.hid (by unfold staE; rw [if_pos HVB.out])
    have HNE : Hid (staE l p kd c ≠ 0) := Lib.hid (by rw [HEQ.out]; decide)
    clear v
    go_wp2_with fail
    refine (HVA.out).mono ?_
    rintro e w2 ⟨rfl, hb2⟩
    have HY2 := Lib.hid (HY.out.below hb2)
    have HB2 := Lib.hid (HB.out.trans (hb2.mono (by omega)))
    have hs2 : B + 1 + 1 ≤ w2.heap.size := by have := hb2.size; omega
    clear x0 x1 hb2 hz HVA HX HY HB HL
    have y0 := HY2.out.cell 0
    have y1 := HY2.out.cell 1
    have z0 := HY2.out.frozen 0
    have z1 := HY2.out.frozen 1
    go_wp2_with fail
    (try simp only [Exit.inBlock, Exit.then])
    have h2 := twice0 w2 (B + 1) (.slice none 0 0) (.slice none 0 0) _ _ y0 y1
    refine bodyPost_ret (results_list1 rfl _ _ (B + 1) rfl h2.1 h2.2) rfl (.inl ⟨HNE.out, ?_, ?_⟩)
    · rw [HEQ.out]; rfl
    · rw [← HBB.out]
      exact (HB2.out.setCell (p := ⟨B + 1, 0, none⟩) (by simp only; omega) _).setCell (p := ⟨B + 1, 1, none⟩) (by simp only; omega) _
end Lf
end
section
open Go.RowKit Go.Maps
namespace Lk
def NewM (ks : List ByteArray) (is : List Bool) (m : Int) (kn : Nat) (w : World) (e : Ending) (w' : World) : Prop :=
  (newE ks is m ≠ 0 ∧ e = .returned (.tuple #[zeroL, .int .i64 (newE ks is m)]) ∧ Below w.heap.size w w') ∨
  (newE ks is m = 0 ∧ ∃ G1 G2 d1 d2, e = .returned (.tuple #[.agg #[.slice (some ⟨G1, 0, none⟩) (kn + 2) d1, .slice (some ⟨G2, 0, none⟩) m.toNat d2], .int .i64 0]) ∧ MemL w' w.heap.size G1 G2 d1 d2 (newV ks m.toNat (selV is)) ∧ Below w.heap.size w w')
set_option maxRecDepth 100000 in
set_option maxHeartbeats 12800000 in
theorem newM_any (A1 A2 : Option Addr) (ks : List ByteArray) (is : List Bool) (kn bn c1 c2 : Nat) (m : Int) (w : World) (hk : ks.length = kn) (hi : is.length = bn) (h1 : RdR trow 1 w 0 A1 ks) (h2 : RdR brow 1 w 0 A2 is) (hk2 : kn ≤ 9223372036854775807) (hb2 : bn ≤ 9223372036854775807) :
    Calls Tryz.prog 46 #[.slice A1 kn c1, .slice A2 bn c2, .int .i64 m] w (NewM ks is m kn w) := by
  have hb := (Below.refl w.heap.size w).alloc (Nat.le_refl _) (.cells #[.slice none 0 0, .slice none 0 0] 28)
  have hy := Has.new w 28 #[.slice none 0 0, .slice none 0 0]
  have HB := Lib.hid hb
  have HY := Lib.hid hy
  have HK := Lib.hid hk
  have HI := Lib.hid hi
  have HR1 := Lib.hid (RdR.below h1 hb)
  have HR2 := Lib.hid (RdR.below h2 hb)
  have hsz : (w.alloc (.cells #[.slice none 0 0, .slice none 0 0] 28)).heap.size = w.heap.size + 1 := World.size_alloc _ _
  clear hb hy hk hi h1 h2
  go_enter Tryz.func46, Tryz.ntmps46
  go_upto_region 1 with fail
  generalize w.alloc (.cells #[.slice none 0 0, .slice none 0 0] 28) = W at *
  obtain ⟨B, hB⟩ : ∃ B, B = w.heap.size := ⟨_, rfl⟩
  have HBB := Lib.hid hB
  rw [← hB] at HB HY hsz ⊢
  clear hB
  have y0 := HY.out.cell 0
  have y1 := HY.out.cell 1
  have z0 := HY.out.frozen 0
  have z1 := HY.out.frozen 1
  by_cases q1 : kn > 64
  · have q1i : ((kn : Int) > 64) := by omega
    have HEQ : Hid (newE ks is m = 3) := Lib.hid (by unfold newE; rw [if_pos (by rw [HK.out]; exact q1)])
    have HNE : Hid (newE ks is m ≠ 0) := Lib.hid (by rw [HEQ.out]; decide)
    go_wp2_with fail
    (try simp only [Exit.inBlock, Exit.then])
    have h2 := twice0 W B (.slice none 0 0) (.slice none 0 0) _ _ y0 y1
    refine bodyPost_ret (results_list1 rfl _ _ B rfl h2.1 h2.2) rfl (.inl ⟨HNE.out, ?_, ?_⟩)
    · rw [HEQ.out]; rfl
    · rw [← HBB.out]
      exact (HB.out.setCell (p := ⟨B, 0, none⟩) (by simp only; omega) _).setCell (p := ⟨B, 1, none⟩) (by simp only; omega) _
  · have q1i : ¬ ((kn : Int) > 64) := by omega
    have q1n : Hid (¬ ks.length > 64) := Lib.hid (by rw [HK.out]; exact q1)
    by_cases q2 : 1 ≤ m ∧ m ≤ 8
    · have HP := Lib.hid ((isProcCount_any m W).mono fun e w' h => h.yes q2)
      by_cases q3 : kn = bn
      · subst q3
        have HLE : Hid (ks.length = is.length) := Lib.hid (by rw [HK.out, HI.out])
        by_cases q4 : ∀ k ∈ ks, vk k = true
        · have HV := Lib.hid ((validKeys_any A1 ks kn c1 0 W HK.out HR1.out (by unfold maxLen; omega)).mono fun e w' h => h.yes q4)
          have HDF := Lib.hid (different_any A1 ks kn c1 W HK.out (HR1.out) (by omega) q4)
          by_cases q5 : ks.Nodup
          · have HD := Lib.hid (HDF.out.mono fun e w' h => h.yes q5)
            obtain ⟨mm, rfl, hmm⟩ : ∃ mm : Nat, m = (mm : Int) ∧ mm ≤ 8 := ⟨m.toNat, by omega, by omega⟩
            have hm1 : 1 ≤ mm := by omega
            have HEQ0 : Hid (newE ks is (mm : Int) = 0) := Lib.hid (by unfold newE; rw [if_neg q1n.out, if_neg (fun q => q q2), if_neg (fun q => q.elim (fun q => q HLE.out) (fun q => q q4)), if_neg (fun q => q q5)])
            have HOK : Hid (NwOk ks mm) := Lib.hid ⟨by have := HK.out; omega, hm1, hmm, q4, q5⟩
            clear q2 q4 q5 HDF
            go_wp2_with (first | (go_at_call 88; with_reducible refine (HP.out).mono ?_; rintro e w' ⟨rfl, rfl⟩) | (go_at_call 89; with_reducible refine (HV.out).mono ?_; rintro e w' ⟨rfl, rfl⟩) | (go_at_call 90; with_reducible refine (HD.out).mono ?_; rintro e w2 ⟨rfl, hb2⟩))
            have m0 : (0 : Int) ≤ (mm : Int) := by omega
            have m9 : (mm : Int) ≤ 8 := by omega
            have HB2 := Lib.hid (HB.out.trans (hb2.mono (by omega)))
            have HY2 := Lib.hid (HY.out.below hb2)
            have HR12 := Lib.hid (RdR.below HR1.out hb2)
            have HR22 := Lib.hid (RdR.below HR2.out hb2)
            have hs2 : B + 1 ≤ w2.heap.size := by have := hb2.size; omega
            clear hb2 y0 y1 z0 z1 HB HY HR1 HR2 HV HD HP
            have hmc := make_cells
            have hmp := fun W => make_procs W mm hmm
            go_cut [8] (fun s wx => ∃ X G1 G2 : Nat, s = .pointer (some ⟨X, 0, none⟩) ∧ NewS w2.heap.size wx X G2 mm (.slice (some ⟨G1, 0, none⟩) 2 2) [Ce.zero, Ce.zero] ∧ Below w2.heap.size w2 wx)
            case first =>
              go_region
              all_goals (go_wp2_with fail; go_meet)
              all_goals first | exact ⟨_, _, _, rfl, NewS.of hmm (three _ _ _ _ _ _ _).1 (three _ _ _ _ _ _ _).2.1 (three _ _ _ _ _ _ _).2.2.1 (by omega) (by omega) (by omega) (by omega) (by omega) (by omega), (three _ _ _ _ _ _ _).2.2.2⟩ | exact ⟨_, _, _, rfl, NewS.of hmm (three _ _ _ _ _ _ _).1 (three _ _ _ _ _ _ _).2.2.1 (three _ _ _ _ _ _ _).2.1 (by omega) (by omega) (by omega) (by omega) (by omega) (by omega), (three _ _ _ _ _ _ _).2.2.2⟩ | exact ⟨_, _, _, rfl, NewS.of hmm (three _ _ _ _ _ _ _).2.1 (three _ _ _ _ _ _ _).1 (three _ _ _ _ _ _ _).2.2.1 (by omega) (by omega) (by omega) (by omega) (by omega) (by omega), (three _ _ _ _ _ _ _).2.2.2⟩ | exact ⟨_, _, _, rfl, NewS.of hmm (three _ _ _ _ _ _ _).2.1 (three _ _ _ _ _ _ _).2.2.1 (three _ _ _ _ _ _ _).1 (by omega) (by omega) (by omega) (by omega) (by omega) (by omega), (three _ _ _ _ _ _ _).2.2.2⟩ | exact ⟨_, _, _, rfl, NewS.of hmm (three _ _ _ _ _ _ _).2.2.1 (three _ _ _ _ _ _ _).1 (three _ _ _ _ _ _ _).2.1 (by omega) (by omega) (by omega) (by omega) (by omega) (by omega), (three _ _ _ _ _ _ _).2.2.2⟩ | exact ⟨_, _, _, rfl, NewS.of hmm (three _ _ _ _ _ _ _).2.2.1 (three _ _ _ _ _ _ _).2.1 (three _ _ _ _ _ _ _).1 (by omega) (by omega) (by omega) (by omega) (by omega) (by omega), (three _ _ _ _ _ _ _).2.2.2⟩
            case rest =>
            obtain ⟨X, G1, G2, rfl, hN, hbc⟩ := hcut
            clear hmc hmp
            go_wp2_with fail
            go_loopw [47] (fun vi wr => ∃ (i : Nat) (v1 : Value), vi = .int .i64 (i : Int) ∧ i ≤ kn ∧ NewS w2.heap.size wr X G2 mm v1 (nwC ks is i) ∧ Below w2.heap.size w2 wr) (fun vi _ => kn - (intOf vi).toNat)
            case atStart => exact ⟨0, _, rfl, Nat.zero_le _, hN, hbc⟩
            case round =>
              obtain ⟨i, v1, rfl, hi, hN1, hB1⟩ := hrel
              clear hN hbc
              have hsz1 := hB1.size
              obtain ⟨A3, q3, hv3⟩ := hN1.own.shape
              have hln := nwC_len ks is i
              rw [hln] at hv3
              subst hv3
              have x0 := hN1.x0
              have x1 := hN1.x1
              have f0 := hN1.fz
              have HN1 := Lib.hid hN1
              have HB1 := Lib.hid hB1
              by_cases hlt : i < kn
              · obtain ⟨b1, o1, e1, -, hb1, t1⟩ := text_at (RdR.below HR12.out hB1) (i := i) (by rw [HK.out]; exact hlt)
                obtain ⟨b2, o2, e2, -, hb2, t2⟩ := bool_at (RdR.below HR22.out hB1) (i := i) (by rw [← HLE.out, HK.out]; exact hlt)
                obtain ⟨xk, hxk⟩ : ∃ xk, ks[i]'(by rw [HK.out]; exact hlt) = xk := ⟨_, rfl⟩
                obtain ⟨xb, hxb⟩ : ∃ xb, is[i]'(by rw [← HLE.out, HK.out]; exact hlt) = xb := ⟨_, rfl⟩
                have HNX : Hid (nwC ks is (i + 1) = nwC ks is i ++ [⟨xk, 0, 0, 0, !xb⟩]) := Lib.hid (by
                  rw [nwC_next, ← hxk, ← hxb, List.getD_eq_getElem?_getD, List.getElem?_eq_getElem (by rw [HK.out]; exact hlt), List.getD_eq_getElem?_getD, List.getElem?_eq_getElem (by rw [← HLE.out, HK.out]; exact hlt)]
                  rfl)
                rw [hxk] at t1
                rw [hxb] at t2
                subst e1 e2
                have i0 : (0 : Int) ≤ (i : Int) := by omega
                have i1 : (i : Int) < (kn : Int) := by omega
                have HLN := Lib.hid hln
                clear hxk hxb hN1 hB1 hln
                have hbn := (Below.refl wr.heap.size wr).alloc (Nat.le_refl _) (.cells #[.string xk, .int .i64 0, .int .i64 0, .int .i64 0, .bool (!xb)] 66)
                have HND := Lib.hid (HN1.out.below hbn.drew)
                have y0 := (hbn.cell (p := ⟨X, 0, none⟩) (World.block_lt_of_cell? wr _ x0)).trans x0
                have u1 := (hbn.cell (p := ⟨b1, o1 + i, none⟩) hb1).trans t1
                have u2 := (hbn.cell (p := ⟨b2, o2 + i, none⟩) hb2).trans t2
                have HNW := Lib.hid (RdR.keep (w' := (wr.alloc (.cells #[.string xk, .int .i64 0, .int .i64 0, .int .i64 0, .bool (!xb)] 66)).drew) (RdR.new (enc := Ce.row) (e := 66) Ce.row_len wr ⟨xk, 0, 0, 0, !xb⟩ _ rfl) (Nat.le_refl _) (fun _ _ _ => rfl))
                have hszd : (wr.alloc (.cells #[.string xk, .int .i64 0, .int .i64 0, .int .i64 0, .bool (!xb)] 66)).drew.heap.size = wr.heap.size + 1 := World.size_alloc _ _
                have HB2 := Lib.hid (HB1.out.trans (hbn.drew.mono hsz1))
                clear hbn
                go_upto_region 13 with fail
                go_region_law (refine step_pushR RowT.ce (o := ⟨some 62, _, _, _, _, _⟩) rfl (.tmp 53) (.tmp 61) rfl w2.heap.size (.slice A3 (i + 2) q3) (nwC ks is i) (wr.alloc (.cells #[.string xk, .int .i64 0, .int .i64 0, .int .i64 0, .bool (!xb)] 66)).drew _ 1 _ ⟨xk, 0, 0, 0, !xb⟩ (by simp [Act.eval]) HND.out.own (by simp [Act.eval]) HNW.out (by have := HLN.out; omega) (by omega) ?_; intro v5 w5 ho5 hg5 hat5; obtain ⟨A5, n5, q5, hv5⟩ := own_sh ho5; subst hv5; have HP5 := Lib.hid (HND.out.put ho5 hg5 (hat5.imp id fun q => ⟨_, Nat.le_refl _, q⟩)); have HG5 := Lib.hid (HB2.out.trans (grown_below hg5 (by omega) (fun j e => (HND.out.own.lt j e).1))); have z5 := (World.cell?_of_block (hg5.block X (World.block_lt_of_cell? _ _ HND.out.x0) (fun e => HND.out.ne1 e.symm))).trans y0; have f5 := (World.frozen?_of_block (a := ⟨X, 0, none⟩) (hg5.block X (World.block_lt_of_cell? _ _ HND.out.x0) (fun e => HND.out.ne1 e.symm))).trans (HND.out.fz 0); clear ho5 hg5 hat5)
                all_goals go_wp2_with fail
                all_goals refine ⟨⟨i + 1, _, by go_num, hlt, by rw [HNX.out]; exact HP5.out, HG5.out.setCell (p := ⟨X, 0, none⟩) HN1.out.bX _⟩, by simp [intOf]; omega⟩
              · obtain rfl : i = kn := by omega
                clear hlt
                have HCE : Hid (nwC ks is i = (nw0 ks is mm).cs) := Lib.hid (by rw [← HK.out]; rfl)
                obtain ⟨G3, q4, hv4, hbG, hmu⟩ := HN1.out.own.mut Ce.row_len (by unfold nwC; exact List.cons_ne_nil _ _)
                rw [hln] at hv4
                injection hv4 with hv4 hv5 hv6
                subst hv4 hv6
                rw [HCE.out] at hmu
                have HXG : Hid (X ≠ G3) := Lib.hid (fun e => HN1.out.ne1 (by rw [← e]; rfl))
                have HX1 := Lib.hid HN1.out.ne3
                have HXB := Lib.hid HN1.out.bX
                have HX7 := Lib.hid (World.block_lt_of_cell? wr _ x0)
                have HM0 := Lib.hid (MemL.mk (l := nw0 ks is mm) hmu HN1.out.ps (fun e => HN1.out.ne2 (by rw [← e]; rfl)) hbG HN1.out.bG)
                have HMB := Lib.hid (members_any (some ⟨G3, 0, none⟩) (some ⟨G2, 0, none⟩) (nw0 ks is mm) (i + 2) mm q3 mm wr (by rw [nw0_len, HK.out]) (by simp [nw0]) (HM0.out.rd.low (Nat.zero_le _)) (nw0_vld HOK.out))
                have HML : Hid ((memV (nw0 ks is mm)).length ≤ 100) := Lib.hid (by have h1 := (nw0_vld (is := is) HOK.out).n66; unfold memV memI; rw [List.length_mergeSort]; refine Nat.le_trans (List.length_filter_le _ _) ?_; rw [List.length_range]; omega)
                clear hmu hbG hN1 hln HN1
                go_wp2_with (first | (go_at_call 59; (with_reducible refine (HMB.out).mono ?_); rintro e w5 ⟨A6, k6, c6, rfl, hk6, hkc6, ho6, hr6, hb6⟩; have HO6 := Lib.hid ho6; have HB6 := Lib.hid hb6; have HK6 := Lib.hid hk6; have hs6 := hb6.size; clear ho6 hr6 hb6 hk6) | (at_builtin; refine wpList_pushR RowT.nu rfl (.tmp 66) (.tmp 67) rfl wr.heap.size (.slice A6 k6 c6) (nat2 (memV (nw0 ks is mm))) w5 (1 : Int) _ rfl (by simp [Act.eval]) HO6.out (by simp [Act.eval]) (by have := HML.out; rw [nat2_len]; omega) hs6 ?_; intro v7 w7 ho7 hg7 hat7; obtain ⟨A7, q7, hv7, _, _, hr7⟩ := ho7.read (fun _ => rfl); have hl7 : (nat2 (memV (nw0 ks is mm)) ++ [(1 : Int)]).length = (memV (nw0 ks is mm)).length + 1 := (by rw [List.length_append, nat2_len]; rfl); rw [hl7] at hv7; obtain ⟨q8, hq8⟩ : ∃ q8, q8 = (memV (nw0 ks is mm)).length + 1 := ⟨_, rfl⟩; rw [← hq8] at hv7; have HQ8 := Lib.hid hq8; clear hq8; subst hv7; have HO7 := Lib.hid hr7; have HB7 := Lib.hid (HB6.out.trans (grown_below hg7 hs6 (fun j e => (HO6.out.lt j e).1))); clear ho7 hg7 hat7 hl7 hr7))
                obtain ⟨L, hL⟩ : ∃ L, L = memV (nw0 ks is mm) ++ [1] := ⟨_, rfl⟩
                have HLD : Hid (0 :: L = ordV ks mm (selV is)) := Lib.hid (by rw [hL, nw0_mem]; rfl)
                have HLL : Hid (L.length = q8) := Lib.hid (by rw [hL, HQ8.out, List.length_append]; rfl)
                have hq9 : q8 ≤ 101 := by have h1 := HQ8.out; have h2 := HML.out; omega
                have HL7 : Hid (RdR nrow 1 w7 wr.heap.size A7 (nat2 L)) := Lib.hid (by rw [hL, show nat2 (memV (nw0 ks is mm) ++ [1]) = nat2 (memV (nw0 ks is mm)) ++ [(1 : Int)] by simp [nat2]]; exact HO7.out)
                have HND : Hid ((0 :: L).Nodup) := Lib.hid (by rw [HLD.out]; exact (ord_asc HOK.out (selV is)).imp (fun h e => by rw [e] at h; exact Nat.lt_irrefl _ h))
                have HLT : Hid (∀ j ∈ (0 :: L), j < i + 2) := Lib.hid (fun j hj => by rw [HLD.out, mem_ord] at hj; have := HK.out; omega)
                have HM7 := Lib.hid (HM0.out.below HB7.out)
                have HC7 := Lib.hid (HB1.out.trans (HB7.out.mono hsz1))
                have HXS := Lib.hid (Nat.lt_of_lt_of_le HX7.out HB7.out.size)
                have hX0 := (HB7.out.cell (p := ⟨X, 0, none⟩) HX7.out).trans x0
                have hX1 := (HB7.out.cell (p := ⟨X, 1, none⟩) HX7.out).trans x1
                have HGL := Lib.hid (HM0.out.cs.lt)
                have HX0 := Lib.hid hX0
                have HX1 := Lib.hid hX1
                clear hL x0 x1 f0 hs6 HO7 HO6 HB6 HMB HK6 hX0 hX1
                go_loopw [11, 70] (fun vb vi wq => ∃ k b : Nat, vb = .int .i64 (b : Int) ∧ vi = .int .i64 (k : Int) ∧ k ≤ q8 ∧ Hid (∃ P, 0 :: L.take k = P ++ [b]) ∧ MemL wq w2.heap.size G3 G2 q3 mm (lkV (nw0 ks is mm) (0 :: L.take k)) ∧ Hid (∀ j, j ≠ G3 → wq.heap[j]? = w7.heap[j]?) ∧ w7.heap.size ≤ wq.heap.size ∧ Below w2.heap.size w2 wq) (fun _ vi _ => q8 - (intOf vi).toNat)
                case atStart => exact ⟨0, 0, rfl, rfl, Nat.zero_le _, Lib.hid ⟨[], rfl⟩, by show MemL _ _ _ _ _ _ (lkV _ [0]); rw [lkV_zero]; exact HM7.out, Lib.hid (fun _ _ => rfl), Nat.le_refl _, HC7.out⟩
                case round =>
                  obtain ⟨k, b, rfl, rfl, hk, HP, hm, HU, hsq, hbq⟩ := hrel
                  have x0 := (World.cell?_of_block (a := ⟨X, 0, none⟩) (HU.out X HXG.out)).trans HX0.out
                  have x1 := (World.cell?_of_block (a := ⟨X, 1, none⟩) (HU.out X HXG.out)).trans HX1.out
                  have hf := hm.fz.1
                  have HM := Lib.hid hm
                  have HBQ := Lib.hid hbq
                  by_cases hlt : k < q8
                  · have hkL : k < L.length := by rw [HLL.out]; exact hlt
                    obtain ⟨x, hx⟩ : ∃ x, L[k]'hkL = x := ⟨_, rfl⟩
                    obtain ⟨b7, o7, e7, hb7, hb8, t7⟩ := num_at HL7.out (i := k) (by rw [nat2_len]; exact hkL)
                    subst e7
                    have hnx : (nat2 L)[k]'(by rw [nat2_len]; exact hkL) = (x : Int) := by rw [← hx]; simp [nat2]
                    rw [hnx] at t7
                    have u7 := (World.cell?_of_block (a := ⟨b7, o7 + k, none⟩) (HU.out b7 (by have := HGL.out; omega))).trans t7
                    have hxm : x ∈ 0 :: L := by rw [← hx]; exact List.mem_cons_of_mem _ (List.getElem_mem _)
                    have hx2 : x < i + 2 := HLT.out x hxm
                    have HTK : Hid (0 :: L.take (k + 1) = (0 :: L.take k) ++ [x]) := Lib.hid (by rw [← hx, List.take_succ_eq_append_getElem hkL]; rfl)
                    have hb2 : b < i + 2 := by
                      obtain ⟨P, hP⟩ := HP.out
                      refine HLT.out b ?_
                      have : b ∈ 0 :: L.take k := by rw [hP]; simp
                      rcases List.mem_cons.1 this with q | q
                      · rw [q]; exact List.mem_cons_self
                      · exact List.mem_cons_of_mem _ (List.mem_of_mem_take q)
                    have hbx : b ≠ x := by
                      obtain ⟨P, hP⟩ := HP.out
                      have h1 : (0 :: L.take (k + 1)).Nodup := by
                        have : (0 :: L.take (k + 1)) = (0 :: L).take (k + 1 + 1) := rfl
                        rw [this]
                        exact List.Nodup.sublist (List.take_sublist _ _) HND.out
                      rw [HTK.out, hP] at h1
                      exact fun e => (List.nodup_append.1 h1).2.2 b (by simp) x (by simp) e
                    have hlb : b < (lkV (nw0 ks is mm) (0 :: L.take k)).cs.length := by rw [lkV_len, nw0_len, HK.out]; exact hb2
                    have hlx : x < (lkV (nw0 ks is mm) (0 :: L.take k)).cs.length := by rw [lkV_len, nw0_len, HK.out]; exact hx2
                    obtain ⟨-, -, g2, -, -⟩ := hm.cell hlb
                    obtain ⟨-, g1, -, -, -⟩ := hm.cell hlx
                    have k0 : (0 : Int) ≤ (k : Int) := by omega
                    have k1 : (k : Int) < (q8 : Int) := by omega
                    have bb0 : (0 : Int) ≤ (b : Int) := by omega
                    have bb1 : (b : Int) < ((i + 2 : Nat) : Int) := by omega
                    have xx0 : (0 : Int) ≤ (x : Int) := by omega
                    have xx1 : (x : Int) < ((i + 2 : Nat) : Int) := by omega
                    have hne : ¬ (b * 5 + 2 = x * 5 + 1) := by omega
                    have hne2 : ¬ (x * 5 + 1 = b * 5 + 2) := by omega
                    have HMX := Lib.hid ((hm.setC hlb 2 (by decide) (.int .i64 (x : Int)) { (lkV (nw0 ks is mm) (0 :: L.take k)).at_ b with right := (x : Int) } (row_right _ _)))
                    have HLX := Lib.hid hlx
                    have HNM : Hid (lkV (nw0 ks is mm) (0 :: L.take (k + 1)) = ((lkV (nw0 ks is mm) (0 :: L.take k)).setC b { (lkV (nw0 ks is mm) (0 :: L.take k)).at_ b with right := (x : Int) }).setC x { ((lkV (nw0 ks is mm) (0 :: L.take k)).setC b { (lkV (nw0 ks is mm) (0 :: L.take k)).at_ b with right := (x : Int) }).at_ x with left := (b : Int) }) := Lib.hid (by
                      obtain ⟨P, hP⟩ := HP.out
                      rw [HTK.out, hP]
                      refine lkV_next ?_ (by rw [nw0_len, HK.out]; exact hb2) (by rw [nw0_len, HK.out]; exact hx2)
                      have : (0 :: L.take (k + 1)) = (0 :: L).take (k + 1 + 1) := rfl
                      rw [← hP, ← HTK.out, this]
                      exact List.Nodup.sublist (List.take_sublist _ _) HND.out)
                    clear hm hbq hx hnx hxm t7 hbx hkL
                    go_upto_region 19 with fail
                    go_region
                    have HMZ := (HMX.out.setC (i := x) (by rw [Ls.len_setC]; exact HLX.out) 1 (by decide) (.int .i64 (b : Int)) { ((lkV (nw0 ks is mm) (0 :: L.take k)).setC b { (lkV (nw0 ks is mm) (0 :: L.take k)).at_ b with right := (x : Int) }).at_ x with left := (b : Int) } (row_left _ _)).drew
                    rw [← HNM.out] at HMZ
                    have HMZ := Lib.hid HMZ
                    have HBZ := Lib.hid (((HBQ.out.setCell (p := ⟨G3, b * 5 + 2, none⟩) HMX.out.b1 (.int .i64 (x : Int))).setCell (p := ⟨G3, x * 5 + 1, none⟩) HMX.out.b1 (.int .i64 (b : Int))).drew)
                    go_wp2_with fail
                    exact ⟨⟨k + 1, x, rfl, by go_num, hlt, Lib.hid ⟨_, HTK.out⟩, HMZ.out, Lib.hid (fun j hj => by
                      show (((wr.setCell ⟨G3, b * 5 + 2, none⟩ _).setCell ⟨G3, x * 5 + 1, none⟩ _)).heap[j]? = _
                      rw [Below.heap_setCell _ _ _ _ hj, Below.heap_setCell _ _ _ _ hj]
                      exact HU.out j hj), by simpa using hsq, HBZ.out⟩, by simp [intOf]; omega⟩
                  · obtain rfl : k = q8 := by omega
                    have hyq := HY2.out.below HBQ.out
                    have y0 := hyq.cell 0
                    have y1 := hyq.cell 1
                    have z0 := hyq.frozen 0
                    have z1 := hyq.frozen 1
                    have HFN : Hid (MemL wr w2.heap.size G3 G2 q3 mm (newV ks mm (selV is))) := Lib.hid (by
                      have := HM.out
                      rw [← HLL.out, List.take_length, HLD.out, lkV_new] at this
                      exact this)
                    clear hyq hm hbq
                    go_wp2_with fail
                    have h2 := twice0 wr B (.slice (some ⟨G3, 0, none⟩) (i + 2) q3) (.slice (some ⟨G2, 0, none⟩) mm mm) _ _ y0 y1
                    have hbw := ((HB2.out.trans (HBQ.out.mono (by omega))).setCell (p := ⟨B, 0, none⟩) (by simp only; omega) (.slice (some ⟨G3, 0, none⟩) (i + 2) q3)).setCell (p := ⟨B, 1, none⟩) (by simp only; omega) (.slice (some ⟨G2, 0, none⟩) mm mm)
                    refine bodyPost_ret (results_list1 rfl _ _ B rfl h2.1 h2.2) rfl (.inr ⟨HEQ0.out, G3, G2, _, _, rfl, ?_, ?_⟩)
                    · have hf := HFN.out
                      have hbb := HBB.out
                      have h1 := hf.b1
                      have h2 := hf.b2
                      exact ⟨(hf.cs.far (p := ⟨B, 0, none⟩) (by simp only; omega) _).far (p := ⟨B, 1, none⟩) (by simp only; omega) _, (hf.ps.far (p := ⟨B, 0, none⟩) (by simp only; omega) _).far (p := ⟨B, 1, none⟩) (by simp only; omega) _, hf.ne, by omega, by omega⟩
                    · rw [← HBB.out]
                      exact hbw
          · have HD := Lib.hid (HDF.out.mono fun e w' h => h.no q5)
            have HBW := Lib.hid (fun V (q : Below W.heap.size W V) => HY.out.below q)
            have HEQ : Hid (newE ks is m = 5) := Lib.hid (by unfold newE; rw [if_neg q1n.out, if_neg (fun q => q q2), if_neg (fun q => q.elim (fun q => q HLE.out) (fun q => q q4)), if_pos q5])
            have HNE : Hid (newE ks is m ≠ 0) := Lib.hid (by rw [HEQ.out]; decide)
            go_wp2_with (first | (go_at_call 88; with_reducible refine (HP.out).mono ?_; rintro e w' ⟨rfl, rfl⟩) | (go_at_call 89; with_reducible refine (HV.out).mono ?_; rintro e w' ⟨rfl, rfl⟩) | (go_at_call 90; with_reducible refine (HD.out).mono ?_; rintro e w2 ⟨rfl, hb2⟩; have y0 := (HBW.out w2 hb2).cell 0; have y1 := (HBW.out w2 hb2).cell 1; have z0 := (HBW.out w2 hb2).frozen 0; have z1 := (HBW.out w2 hb2).frozen 1; have HB := Lib.hid (HB.out.trans (hb2.mono (by omega)))))
            (try simp only [Exit.inBlock, Exit.then])
            have h2 := twice0 w2 B (.slice none 0 0) (.slice none 0 0) _ _ y0 y1
            refine bodyPost_ret (results_list1 rfl _ _ B rfl h2.1 h2.2) rfl (.inl ⟨HNE.out, ?_, ?_⟩)
            · rw [HEQ.out]; rfl
            · rw [← HBB.out]
              exact (HB.out.setCell (p := ⟨B, 0, none⟩) (by simp only; omega) _).setCell (p := ⟨B, 1, none⟩) (by simp only; omega) _
        · have HV := Lib.hid ((validKeys_any A1 ks kn c1 0 W HK.out HR1.out (by unfold maxLen; omega)).mono fun e w' h => h.no q4)
          have HEQ : Hid (newE ks is m = 1) := Lib.hid (by unfold newE; rw [if_neg q1n.out, if_neg (fun q => q q2), if_pos (.inr q4)])
          have HNE : Hid (newE ks is m ≠ 0) := Lib.hid (by rw [HEQ.out]; decide)
          go_wp2_with (first | (go_at_call 88; with_reducible refine (HP.out).mono ?_; rintro e w' ⟨rfl, rfl⟩) | (go_at_call 89; with_reducible refine (HV.out).mono ?_; rintro e w' ⟨rfl, rfl⟩))
          (try simp only [Exit.inBlock, Exit.then])
          have h2 := twice0 W B (.slice none 0 0) (.slice none 0 0) _ _ y0 y1
          refine bodyPost_ret (results_list1 rfl _ _ B rfl h2.1 h2.2) rfl (.inl ⟨HNE.out, ?_, ?_⟩)
          · rw [HEQ.out]; rfl
          · rw [← HBB.out]
            exact (HB.out.setCell (p := ⟨B, 0, none⟩) (by simp only; omega) _).setCell (p := ⟨B, 1, none⟩) (by simp only; omega) _
      · have q3i : ((kn : Int) != (bn : Int)) = true := by simp; omega
        have q3j : ¬ ((kn : Int) = (bn : Int)) := by omega
        have HEQ : Hid (newE ks is m = 1) := Lib.hid (by unfold newE; rw [if_neg q1n.out, if_neg (fun q => q q2), if_pos (.inl (by rw [HK.out, HI.out]; exact q3))])
        have HNE : Hid (newE ks is m ≠ 0) := Lib.hid (by rw [HEQ.out]; decide)
        go_wp2_with (first | (go_at_call 88; with_reducible refine (HP.out).mono ?_; rintro e w' ⟨rfl, rfl⟩))
        (try simp only [Exit.inBlock, Exit.then])
        have h2 := twice0 W B (.slice none 0 0) (.slice none 0 0) _ _ y0 y1
        refine bodyPost_ret (results_list1 rfl _ _ B rfl h2.1 h2.2) rfl (.inl ⟨HNE.out, ?_, ?_⟩)
        · rw [HEQ.out]; rfl
        · rw [← HBB.out]
          exact (HB.out.setCell (p := ⟨B, 0, none⟩) (by simp only; omega) _).setCell (p := ⟨B, 1, none⟩) (by simp only; omega) _
    · have HP := Lib.hid ((isProcCount_any m W).mono fun e w' h => h.no q2)
      have HEQ : Hid (newE ks is m = 2) := Lib.hid (by unfold newE; rw [if_neg q1n.out, if_pos q2])
      have HNE : Hid (newE ks is m ≠ 0) := Lib.hid (by rw [HEQ.out]; decide)
      go_wp2_with (first | (go_at_call 88; with_reducible refine (HP.out).mono ?_; rintro e w' ⟨rfl, rfl⟩))
      (try simp only [Exit.inBlock, Exit.then])
      have h2 := twice0 W B (.slice none 0 0) (.slice none 0 0) _ _ y0 y1
      refine bodyPost_ret (results_list1 rfl _ _ B rfl h2.1 h2.2) rfl (.inl ⟨HNE.out, ?_, ?_⟩)
      · rw [HEQ.out]; rfl
      · rw [← HBB.out]
        exact (HB.out.setCell (p := ⟨B, 0, none⟩) (by simp only; omega) _).setCell (p := ⟨B, 1, none⟩) (by simp only; omega) _
end Lk
end
section
open Go.RowKit Go.Maps
namespace Lf
open Lk
/-- A cell of what New answers. -/
def nfC (keys : List ByteArray) (m : Nat) (sel : Nat → Bool) (i : Nat) : Ce := ⟨((nwB keys m).at_ i).key, 0, (nxtL (ordV keys m sel) i : Nat), if decide (2 ≤ i) && !sel i then 0 else 1, false⟩
/-- What New answers. -/
def newV (keys : List ByteArray) (m : Nat) (sel : Nat → Bool) : Ls := ⟨(List.range (keys.length + 2)).map (nfC keys m sel), List.replicate m Po.zero⟩
theorem newV_len (keys : List ByteArray) (m : Nat) (sel : Nat → Bool) : (newV keys m sel).cs.length = keys.length + 2 := by simp [newV]
theorem newV_at (keys : List ByteArray) (m : Nat) (sel : Nat → Bool) {i : Nat} (h : i < keys.length + 2) : (newV keys m sel).at_ i = nfC keys m sel i := by
  unfold newV Ls.at_
  simp [List.getD_eq_getElem?_getD, h]
theorem newV_out (keys : List ByteArray) (m : Nat) (sel : Nat → Bool) {i : Nat} (h : ¬ i < keys.length + 2) : (newV keys m sel).at_ i = Ce.zero := by
  unfold newV Ls.at_
  rw [List.getD_eq_getElem?_getD, List.getElem?_eq_none (by simp; omega)]
  rfl
theorem newV_pr (keys : List ByteArray) (m : Nat) (sel : Nat → Bool) (p : Nat) : (newV keys m sel).pr p = Po.zero := nw_pr _ m p
theorem newV_lock (keys : List ByteArray) (m : Nat) (sel : Nat → Bool) {i : Nat} (h : i < keys.length + 2) : ((newV keys m sel).at_ i).lock = 1 ↔ i ∈ ordV keys m sel := by
  rw [newV_at keys m sel h, mem_ord]
  unfold nfC
  simp only
  by_cases h2 : 2 ≤ i
  · cases hs : sel i with
    | true => simp [h2, h]
    | false =>
      simp [h2]
      omega
  · have e : decide (2 ≤ i) = false := decide_eq_false h2
    rw [e]
    simp
    omega
theorem led_new {keys : List ByteArray} {m : Nat} (h : NwOk keys m) (sel : Nat → Bool) : Led (newV keys m sel) := by
  have v := nwB_vld h
  have o := rnk_odr v
  have hn := nwB_len keys m
  have hn2 := newV_len keys m sel
  have ha := ord_asc h sel
  have hz := ord_last keys m sel
  have hml : (newV keys m sel).ps.length = m := by simp [newV]
  have hp := newV_pr keys m sel
  have hol : ∀ i, i ∈ ordV keys m sel → i < keys.length + 2 := fun i q => by
    rcases (mem_ord i).1 q with q | q | q <;> omega
  have hnx : ∀ i, nxtL (ordV keys m sel) i < keys.length + 2 := fun i => by
    by_cases q : i ∈ ordV keys m sel
    · by_cases e : i = 1
      · subst e; rw [nxt_last ha hz]; omega
      · exact hol _ (nxt_in ha hz q e).1
    · rw [nxt_out q]; omega
  have hk : ∀ i, ((newV keys m sel).at_ i).key = ((nwB keys m).at_ i).key := fun i => by
    by_cases q : i < keys.length + 2
    · rw [newV_at keys m sel q]; rfl
    · rw [newV_out keys m sel q]
      unfold Ls.at_
      rw [List.getD_eq_getElem?_getD, List.getElem?_eq_none (by omega)]
      rfl
  have hlk : ∀ i, i < keys.length + 2 → ((newV keys m sel).at_ i).lock = 0 ∨ ((newV keys m sel).at_ i).lock = 1 := fun i q => by
    rw [newV_at keys m sel q]
    unfold nfC
    dsimp only
    split
    · exact .inl rfl
    · exact .inr rfl
  have vb : Vld (bas (newV keys m sel)) := vld_cells (l' := bas (newV keys m sel)) v (by rw [hn]; exact hn2) (by
      show (List.replicate m Po.zero).map rel = List.replicate m Po.zero
      rw [List.map_replicate]
      rfl) hk
    (fun i hi => by
      show 0 ≤ ((newV keys m sel).at_ i).left ∧ ((newV keys m sel).at_ i).left < _
      rw [newV_at keys m sel (by omega)]; exact ⟨Int.le_refl _, by show (0 : Int) < _; omega⟩)
    (fun i hi => by
      show 0 ≤ ((newV keys m sel).at_ i).right ∧ ((newV keys m sel).at_ i).right < _
      rw [newV_at keys m sel (by omega)]; have := hnx i; exact ⟨by show (0 : Int) ≤ (nxtL _ i : Nat); omega, by show ((nxtL _ i : Nat) : Int) < _; omega⟩)
    (fun i hi => by
      show 0 ≤ ((newV keys m sel).at_ i).lock ∧ ((newV keys m sel).at_ i).lock ≤ _
      have := hlk i (by omega)
      have h1 := h.m1
      have h2 : (nwB keys m).ps.length = m := by simp [nwB]
      omega)
  have hv : Vlf (newV keys m sel) := ⟨vb, fun i hi => by rw [newV_at keys m sel (by omega)]; rfl, fun i hi => hlk i (by omega), fun p _ => by rw [hp]; exact .inl rfl⟩
  have hr : rnk (newV keys m sel) = rnk (nwB keys m) := funext fun i => rnk_keys hk (by rw [hn, hn2]) i
  have hR : ∀ i, ((toSt (newV keys m sel)).c i).right = nxtL (ordV keys m sel) i := fun i => by
    show ((newV keys m sel).at_ i).right.toNat = _
    by_cases q : i < keys.length + 2
    · rw [newV_at keys m sel q]; rfl
    · rw [newV_out keys m sel q, nxt_out (fun k => q (hol i k))]
      rfl
  have hG : ∀ i, ((toSt (newV keys m sel)).c i).gone = false := fun i => by
    show ((newV keys m sel).at_ i).gone = _
    by_cases q : i < keys.length + 2
    · rw [newV_at keys m sel q]; rfl
    · rw [newV_out keys m sel q]; rfl
  have hU : ∀ i, i < keys.length + 2 → (((toSt (newV keys m sel)).c i).us = true ↔ i ∈ ordV keys m sel) := fun i q => by
    rw [← newV_lock keys m sel q]
    show decide (((newV keys m sel).at_ i).lock = 1) = true ↔ _
    exact decide_eq_true_iff
  have hP : ∀ p, act ((toSt (newV keys m sel)).p p) = false := fun p => by
    show act (toPr ((newV keys m sel).pr p)) = false
    rw [hp]; rfl
  have hnext : ∀ i, i ∈ ordV keys m sel → i ≠ 1 → ((toSt (newV keys m sel)).c i).right ∈ ordV keys m sel ∧ rnk (nwB keys m) i < rnk (nwB keys m) ((toSt (newV keys m sel)).c i).right ∧ ∀ d, d ∈ ordV keys m sel → rnk (nwB keys m) i < rnk (nwB keys m) d → rnk (nwB keys m) ((toSt (newV keys m sel)).c i).right ≤ rnk (nwB keys m) d := fun i hi h1 => by
    rw [hR]
    obtain ⟨a1, a2, a3, -⟩ := nxt_in ha hz hi h1
    exact ⟨a1, a2, a3⟩
  refine ⟨hv, fun i => i ∈ ordV keys m sel, fun i => i ∈ ordV keys m sel, ?_⟩
  rw [hr, hn2, hml]
  refine ⟨⟨hol, fun i hi h1 => ⟨(hnext i hi h1).1, (hnext i hi h1).2.1⟩, (mem_ord 0).2 (.inl rfl), (mem_ord 1).2 (.inr (.inl rfl)), fun _ => id, fun i hi h1 => ⟨(hnext i hi h1).1, (hnext i hi h1).2.2⟩, hG 0, hG 1, fun _ a _ => a, fun i _ q => ?_, fun i hi => (hU i (hol i hi)).2 hi⟩, fun i hi q nq => absurd ((hU i hi).1 q) nq, fun p _ q _ ap => ?_, fun p _ ap => ?_⟩
  · rw [hG] at q; cases q
  · rw [hP] at ap; cases ap
  · rw [hP] at ap; cases ap
/-- A list that New returns, or its error. -/
def NewP (ks : List ByteArray) (is : List Bool) (m : Int) (kn : Nat) (w : World) (e : Ending) (w' : World) : Prop :=
  (newE ks is m ≠ 0 ∧ e = .returned (.tuple #[zeroL, .int .i64 (newE ks is m)]) ∧ Below w.heap.size w w') ∨
  (newE ks is m = 0 ∧ ∃ G1 G2 d1 d2, e = .returned (.tuple #[.agg #[.slice (some ⟨G1, 0, none⟩) (kn + 2) d1, .slice (some ⟨G2, 0, none⟩) m.toNat d2], .int .i64 0]) ∧ RdL w' w.heap.size (some ⟨G1, 0, none⟩) (some ⟨G2, 0, none⟩) (newV ks m.toNat (selV is)) ∧ Below w.heap.size w w')
/-- The cells as the loop goes on. -/
def nfA (ks : List ByteArray) (m : Nat) (sel : Nat → Bool) (k i : Nat) : Ce := if i < k then nfC ks m sel i else ⟨((nwB ks m).at_ i).key, (prvL (ordV ks m sel) i : Nat), (nxtL (ordV ks m sel) i : Nat), 0, decide (2 ≤ i) && !sel i⟩
theorem nfA_zero (ks : List ByteArray) (m : Nat) (sel : Nat → Bool) : (Lk.newV ks m sel).cs = (List.range (ks.length + 2)).map (nfA ks m sel 0) := rfl
theorem nfA_all (ks : List ByteArray) (m : Nat) (sel : Nat → Bool) : (List.range (ks.length + 2)).map (nfA ks m sel (ks.length + 2)) = (newV ks m sel).cs := map_range_congr fun i hi => by
  unfold nfA
  rw [if_pos hi]
theorem nfA_next {ks : List ByteArray} {m : Nat} {sel : Nat → Bool} {k n : Nat} {y : Ce} (hy : y = nfC ks m sel k) : (List.range n).map (fun i => if i = k then y else nfA ks m sel k i) = (List.range n).map (nfA ks m sel (k + 1)) := map_range_congr fun i _ => by
  unfold nfA
  by_cases e : i = k
  · subst e; rw [if_pos rfl, if_pos (by omega), hy]
  · rw [if_neg e]
    by_cases q : i < k
    · rw [if_pos q, if_pos (by omega)]
    · rw [if_neg q, if_neg (by omega)]
theorem putF_putF {n k : Nat} {f : Nat → Ce} {y z : Ce} : (List.range n).map (fun i => if i = k then z else if i = k then y else f i) = (List.range n).map (fun i => if i = k then z else f i) := map_range_congr fun i _ => by
  split
  · rfl
  · rfl
set_option maxRecDepth 100000 in
set_option maxHeartbeats 6400000 in
theorem new_any (A1 A2 : Option Addr) (ks : List ByteArray) (is : List Bool) (kn bn c1 c2 : Nat) (m : Int) (w : World) (hk : ks.length = kn) (hi : is.length = bn) (h1 : RdR trow 1 w 0 A1 ks) (h2 : RdR brow 1 w 0 A2 is) (hk2 : kn ≤ 9223372036854775807) (hb2 : bn ≤ 9223372036854775807) :
    Calls Tryz.prog 72 #[.slice A1 kn c1, .slice A2 bn c2, .int .i64 m] w (NewP ks is m kn w) := by
  have hb := (Below.refl w.heap.size w).alloc (Nat.le_refl _) (.cells #[.slice none 0 0, .slice none 0 0] 28)
  have HB := Lib.hid hb
  have HY := Lib.hid (Has.new w 28 #[.slice none 0 0, .slice none 0 0])
  have hsz : (w.alloc (.cells #[.slice none 0 0, .slice none 0 0] 28)).heap.size = w.heap.size + 1 := World.size_alloc _ _
  have HNM := Lib.hid (newM_any A1 A2 ks is kn bn c1 c2 m _ hk hi (RdR.below h1 hb) (RdR.below h2 hb) hk2 hb2)
  have HK := Lib.hid hk
  clear hb h1 h2 hi hk
  go_enter Tryz.func72, Tryz.ntmps72
  go_upto_region 1 with fail
  generalize w.alloc (.cells #[.slice none 0 0, .slice none 0 0] 28) = W at *
  obtain ⟨B, hB⟩ : ∃ B, B = w.heap.size := ⟨_, rfl⟩
  have HBB := Lib.hid hB
  rw [← hB] at HB HY hsz ⊢
  clear hB
  go_wp2_with fail
  refine (HNM.out).mono ?_
  intro e w1 h
  clear HNM
  rcases h with ⟨h0, rfl, hb1⟩ | ⟨h0, G1, G2, d1, d2, rfl, hm, hb1⟩
  · have HE := Lib.hid h0
    have HY1 := Lib.hid ((HY.out.below hb1).below ((Below.refl w1.heap.size w1).alloc (Nat.le_refl _) (.cells #[.slice none 0 0, .slice none 0 0] 28)))
    have HX1 := Lib.hid (Has.new w1 28 #[.slice none 0 0, .slice none 0 0])
    have HB1 := Lib.hid ((HB.out.trans (hb1.mono (by omega))).trans (((Below.refl w1.heap.size w1).alloc (Nat.le_refl _) (.cells #[.slice none 0 0, .slice none 0 0] 28)).mono (by have := hb1.size; omega)))
    obtain ⟨E, hE⟩ : ∃ E, E = newE ks is m := ⟨_, rfl⟩
    have HEE := Lib.hid hE
    have hs1 : B + 1 ≤ w1.heap.size := by have := hb1.size; omega
    rw [← hE]
    clear h0 hE hb1 HY HB
    unfold zeroL
    go_upto_region 2 with fail
    generalize w1.alloc (.cells #[.slice none 0 0, .slice none 0 0] 28) = V at *
    obtain ⟨C, hC⟩ : ∃ C, C = w1.heap.size := ⟨_, rfl⟩
    rw [← hC] at HX1 hs1 ⊢
    clear hC
    have x0 := HX1.out.cell 0
    have x1 := HX1.out.cell 1
    have y0 := HY1.out.cell 0
    have y1 := HY1.out.cell 1
    have z0 := HY1.out.frozen 0
    have z1 := HY1.out.frozen 1
    go_wp2_with fail
    go_loopw [22] (fun vi wr => vi = .int .i64 0 ∧ V = wr) (fun _ _ => 0)
    case atStart => exact ⟨rfl, rfl⟩
    case round =>
      obtain ⟨rfl, rfl⟩ := hrel
      go_wp2_with fail
      (try simp only [Exit.inBlock, Exit.then])
      have h2 := twice0 V B (.slice none 0 0) (.slice none 0 0) _ _ y0 y1
      refine bodyPost_ret (results_list1 rfl _ _ B rfl h2.1 h2.2) rfl (.inl ⟨HE.out, by rw [← HEE.out]; rfl, ?_⟩)
      rw [← HBB.out]
      exact (HB1.out.setCell (p := ⟨B, 0, none⟩) (Nat.le_refl _) _).setCell (p := ⟨B, 1, none⟩) (Nat.le_refl _) _
  · have HE := Lib.hid h0
    have hz : 1 ≤ m ∧ m ≤ 8 := by
      unfold newE at h0
      by_cases q1 : ks.length > 64
      · rw [if_pos q1] at h0; cases h0
      · rw [if_neg q1] at h0
        by_cases q2 : 1 ≤ m ∧ m ≤ 8
        · exact q2
        · rw [if_pos q2] at h0; cases h0
    have k64 : kn ≤ 64 := by
      unfold newE at h0
      by_cases q1 : ks.length > 64
      · rw [if_pos q1] at h0; cases h0
      · rw [← HK.out]; omega
    obtain ⟨mm, rfl, hmm⟩ : ∃ mm : Nat, m = (mm : Int) ∧ mm ≤ 8 := ⟨m.toNat, by omega, by omega⟩
    rw [Int.toNat_natCast] at hm ⊢
    have hB1 := hb1
    have hbn := (Below.refl w1.heap.size w1).alloc (Nat.le_refl _) (.cells #[.slice (some ⟨G1, 0, none⟩) (kn + 2) d1, .slice (some ⟨G2, 0, none⟩) mm d2] 28)
    have HY1 := Lib.hid ((HY.out.below hb1).below hbn)
    have HX1 := Lib.hid (Has.new w1 28 #[.slice (some ⟨G1, 0, none⟩) (kn + 2) d1, .slice (some ⟨G2, 0, none⟩) mm d2])
    have HB1 := Lib.hid ((HB.out.trans (hb1.mono (by omega))).trans (hbn.mono (by have := hb1.size; omega)))
    have HM1 := Lib.hid (hm.below hbn)
    have hg1 : G1 < w1.heap.size := hm.cs.lt
    have hg2 : G2 < w1.heap.size := hm.ps.lt
    have hg3 : B + 1 ≤ G1 := by have := hm.b1; omega
    have hg4 : B + 1 ≤ G2 := by have := hm.b2; omega
    have hgn := hm.ne
    have hs1 : B + 1 ≤ w1.heap.size := by have := hb1.size; omega
    clear h0 hb1 HY HB hm hbn hB1 hz
    go_upto_region 2 with fail
    generalize w1.alloc (.cells #[.slice (some ⟨G1, 0, none⟩) (kn + 2) d1, .slice (some ⟨G2, 0, none⟩) mm d2] 28) = V at *
    obtain ⟨C, hC⟩ : ∃ C, C = w1.heap.size := ⟨_, rfl⟩
    rw [← hC] at HX1 hg1 hg2 hs1 ⊢
    clear hC
    have x0 := HX1.out.cell 0
    have x1 := HX1.out.cell 1
    have HMC : Hid (MutR Ce.row 5 66 V G1 d1 ((List.range (kn + 2)).map (nfA ks mm (selV is) 0))) := Lib.hid (by
      have := HM1.out.cs
      rw [nfA_zero, HK.out] at this
      exact this)
    go_wp2_with fail
    go_loopw [22] (fun vi wr => ∃ i : Nat, vi = .int .i64 (i : Int) ∧ i ≤ kn + 2 ∧ MutR Ce.row 5 66 wr G1 d1 ((List.range (kn + 2)).map (nfA ks mm (selV is) i)) ∧ Hid (∀ j, j ≠ G1 → wr.heap[j]? = V.heap[j]?) ∧ Below (B + 1) V wr) (fun vi _ => kn + 2 - (intOf vi).toNat)
    case atStart => exact ⟨0, rfl, by omega, HMC.out, Lib.hid (fun _ _ => rfl), (Below.refl _ _)⟩
    case round =>
      obtain ⟨i, rfl, hi, hm, HU, hbv⟩ := hrel
      have HM := Lib.hid hm
      have HBV := Lib.hid hbv
      have HXW : Hid (Has wr C 28 #[.slice (some ⟨G1, 0, none⟩) (kn + 2) d1, .slice (some ⟨G2, 0, none⟩) mm d2]) := Lib.hid ((HU.out C (by omega)).trans HX1.out)
      have x0 := HXW.out.cell 0
      have x1 := HXW.out.cell 1
      have hX1 : ¬ C = G1 := by omega
      clear hbv
      by_cases hlt : i < kn + 2
      · have hf := hm.frozen
        have i0 : (0 : Int) ≤ (i : Int) := by omega
        have i1 : (i : Int) < ((kn + 2 : Nat) : Int) := by omega
        have i2 : (i : Int) < (kn : Int) + 2 := by omega
        have hfi : nfA ks mm (selV is) i i = ⟨((nwB ks mm).at_ i).key, (prvL (ordV ks mm (selV is)) i : Nat), (nxtL (ordV ks mm (selV is)) i : Nat), 0, decide (2 ≤ i) && !selV is i⟩ := by unfold nfA; rw [if_neg (by omega)]
        obtain ⟨g0, g1, g2, g3, g4⟩ := MutR.cellF (f := nfA ks mm (selV is) i) hm hlt
        rw [hfi] at g0 g1 g2 g3 g4
        have HP1 := Lib.hid (MutR.putF (f := nfA ks mm (selV is) i) hm hlt (j := 1) (by decide) (.int .i64 0) { nfA ks mm (selV is) i i with left := 0 } rfl)
        have HP2 := Lib.hid (MutR.putF (f := fun k => if k = i then { nfA ks mm (selV is) i i with left := 0 } else nfA ks mm (selV is) i k) HP1.out hlt (j := 3) (by decide) (.int .i64 1) { nfA ks mm (selV is) i i with left := 0, lock := 1 } (by rw [if_pos rfl]; rfl))
        rw [putF_putF] at HP2
        cases hgo : (decide (2 ≤ i) && !selV is i) with
        | true =>
          have HP3 := Lib.hid (MutR.putF (f := fun k => if k = i then { nfA ks mm (selV is) i i with left := 0, lock := 1 } else nfA ks mm (selV is) i k) HP2.out hlt (j := 4) (by decide) (.bool false) { nfA ks mm (selV is) i i with left := 0, lock := 1, gone := false } (by rw [if_pos rfl]; rfl))
          rw [putF_putF] at HP3
          have HP4 := Lib.hid (MutR.putF (f := fun k => if k = i then { nfA ks mm (selV is) i i with left := 0, lock := 1, gone := false } else nfA ks mm (selV is) i k) HP3.out hlt (j := 3) (by decide) (.int .i64 0) { nfA ks mm (selV is) i i with left := 0, lock := 0, gone := false } (by rw [if_pos rfl]; rfl))
          rw [putF_putF, nfA_next (by unfold nfC; rw [hfi, hgo]; rfl)] at HP4
          rw [hgo] at g4
          clear hm hgo hfi HP1 HP2 HP3
          go_wp2_with fail
          refine ⟨⟨i + 1, by go_num, by omega, HP4.out, Lib.hid (fun j hj => ?_), (((HBV.out.setCell (p := ⟨G1, i * 5 + 1, none⟩) hg3 _).setCell (p := ⟨G1, i * 5 + 3, none⟩) hg3 _).setCell (p := ⟨G1, i * 5 + 4, none⟩) hg3 _).setCell (p := ⟨G1, i * 5 + 3, none⟩) hg3 _⟩, by simp [intOf]; omega⟩
          rw [Below.heap_setCell _ _ _ _ hj, Below.heap_setCell _ _ _ _ hj, Below.heap_setCell _ _ _ _ hj, Below.heap_setCell _ _ _ _ hj]
          exact HU.out j hj
        | false =>
          rw [nfA_next (by unfold nfC; rw [hfi, hgo]; rfl)] at HP2
          rw [hgo] at g4
          clear hm hgo hfi HP1
          go_wp2_with fail
          refine ⟨⟨i + 1, by go_num, by omega, HP2.out, Lib.hid (fun j hj => ?_), (HBV.out.setCell (p := ⟨G1, i * 5 + 1, none⟩) hg3 _).setCell (p := ⟨G1, i * 5 + 3, none⟩) hg3 _⟩, by simp [intOf]; omega⟩
          rw [Below.heap_setCell _ _ _ _ hj, Below.heap_setCell _ _ _ _ hj]
          exact HU.out j hj
      · obtain rfl : i = kn + 2 := by omega
        have hyw : Has wr B 28 #[.slice none 0 0, .slice none 0 0] := (HU.out B (by omega)).trans HY1.out
        have y0 := hyw.cell 0
        have y1 := hyw.cell 1
        have z0 := hyw.frozen 0
        have z1 := hyw.frozen 1
        have HMW : Hid (MutR Ce.row 5 66 wr G1 d1 (newV ks mm (selV is)).cs) := Lib.hid (by
          have := hm
          rw [← HK.out, nfA_all] at this
          exact this)
        have HPW : Hid (MutR Po.row 7 63 wr G2 d2 (newV ks mm (selV is)).ps) := Lib.hid (HM1.out.ps.keep (HU.out G2 (fun e => hgn e.symm)))
        clear hm hyw HM
        have h3 : ¬ ((kn + 2 : Nat) : Int) < ((kn + 2 : Nat) : Int) := by omega
        have h4 : ¬ ((kn : Int) + 2) < ((kn : Int) + 2) := by omega
        go_wp2_with fail
        (try simp only [Exit.inBlock, Exit.then])
        have h2 := twice0 wr B (.slice (some ⟨G1, 0, none⟩) (kn + 2) d1) (.slice (some ⟨G2, 0, none⟩) mm d2) _ _ y0 y1
        have hbb := HBB.out
        refine bodyPost_ret (results_list1 rfl _ _ B rfl h2.1 h2.2) rfl (.inr ⟨HE.out, G1, G2, _, _, rfl, ⟨MutR.rd ((HMW.out.far (p := ⟨B, 0, none⟩) (by simp only; omega) _).far (p := ⟨B, 1, none⟩) (by simp only; omega) _) (by omega), MutR.rd ((HPW.out.far (p := ⟨B, 0, none⟩) (by simp only; omega) _).far (p := ⟨B, 1, none⟩) (by simp only; omega) _) (by omega)⟩, ?_⟩)
        rw [← HBB.out]
        exact ((HB1.out.trans (HBV.out.mono (by omega))).setCell (p := ⟨B, 0, none⟩) (Nat.le_refl _) _).setCell (p := ⟨B, 1, none⟩) (Nat.le_refl _) _
end Lf
end
end Go.Proofs.YtmhbloefmknikaaGreatDoor
