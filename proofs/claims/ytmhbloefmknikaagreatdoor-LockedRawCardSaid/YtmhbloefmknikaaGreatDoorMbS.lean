/-
  agrees of the law of chapter 11: a list's functions beside the reference's, for any list. Conditions: the list can be read; no list is long.
-/
import Derived.Test.YtmhbloefmknikaaGreatDoorLaH
import Derived.Test.YtmhbloefmknikaaGreatDoorMbN
import Derived.Test.YtmhbloefmknikaaGreatDoorMbP
import Derived.Test.YtmhbloefmknikaaGreatDoorMbR
import Derived.Test.YtmhbloefmknikaaGreatDoorMaU
import Derived.Deep.RegionHeld3
namespace Go.Proofs.YtmhbloefmknikaaGreatDoor
open Go.RowKit Go.Maps
namespace Lk
/-- A call's answer: a list that can be read, and a word beside it. -/
def AnsP (l' : Ls) (N M : Nat) (b : Value) (w : World) (e : Ending) (w' : World) : Prop := ∃ P1 P2 d1 d2, e = .returned (.tuple #[.agg #[.slice P1 N d1, .slice P2 M d2], b]) ∧ RdL w' w.heap.size P1 P2 l' ∧ Below w.heap.size w w'
theorem rdl_nil (w : World) (lo : Nat) : RdL w lo none none ⟨[], []⟩ := ⟨fun q => absurd rfl q, fun q => absurd rfl q⟩
theorem stq_ans {l : Ls} {p : Int} {n m : Nat} (hn : l.cs.length = n) (hm : l.ps.length = m) : ∃ (l' : Ls) (N M : Nat) (b : Bool), l'.cs.length = N ∧ l'.ps.length = M ∧ N ≤ n ∧ M ≤ m ∧ ∀ w e w', StqP l p n m w e w' → AnsP l' N M (.bool b) w e w' := by
  by_cases v : Vld l
  · refine ⟨(stpO l p).getD l, n, m, (stpO l p).isSome, (getD_len v p).1.trans hn, (getD_len v p).2.trans hm, Nat.le_refl _, Nat.le_refl _, fun w e w' h => ?_⟩
    rcases h with h | ⟨-, G1, G2, d1, d2, rfl, hr, hb⟩
    · exact absurd v h.1
    · exact ⟨_, _, d1, d2, rfl, hr, hb⟩
  · refine ⟨⟨[], []⟩, 0, 0, false, rfl, rfl, Nat.zero_le _, Nat.zero_le _, fun w e w' h => ?_⟩
    rcases h with ⟨-, rfl, hb⟩ | h
    · exact ⟨none, none, 0, 0, rfl, rdl_nil _ _, hb⟩
    · exact absurd h.1 v
theorem sta_ans {l : Ls} {p kd c : Int} {n m : Nat} (hn : l.cs.length = n) (hm : l.ps.length = m) : ∃ (l' : Ls) (N M : Nat) (E : Int), l'.cs.length = N ∧ l'.ps.length = M ∧ N ≤ n ∧ M ≤ m ∧ ∀ w e w', StaP l p kd c n m w e w' → AnsP l' N M (.int .i64 E) w e w' := by
  by_cases v : staE l p kd c = 0
  · refine ⟨begV l p.toNat kd c, n, m, 0, (beg_len l _ _ _).1.trans hn, (beg_len l _ _ _).2.trans hm, Nat.le_refl _, Nat.le_refl _, fun w e w' h => ?_⟩
    rcases h with h | ⟨-, G1, G2, d1, d2, rfl, hr, hb⟩
    · exact absurd v h.1
    · exact ⟨_, _, d1, d2, rfl, hr, hb⟩
  · refine ⟨⟨[], []⟩, 0, 0, staE l p kd c, rfl, rfl, Nat.zero_le _, Nat.zero_le _, fun w e w' h => ?_⟩
    rcases h with ⟨-, rfl, hb⟩ | h
    · exact ⟨none, none, 0, 0, rfl, rdl_nil _ _, hb⟩
    · exact absurd h.1 v
theorem BoolI.is {p : Prop} {w w' : World} {e : Ending} (h : BoolI p w e w') {c : Bool} (hc : c = true ↔ p) : e = .returned (.bool c) ∧ Below w.heap.size w w' := by
  obtain ⟨b, h1, h2, h3⟩ := h
  have : b = c := by
    cases b <;> cases c <;> simp_all
  rw [this] at h1
  exact ⟨h1, h3⟩
theorem same_ans {l' : Ls} {N M : Nat} (hn : l'.cs.length = N) (hm : l'.ps.length = M) (hN : N ≤ 1000000) (hM : M ≤ 1000000) (P1 P2 Q1 Q2 : Option Addr) (d1 d2 e1 e2 lo1 lo2 : Nat) (w : World) (h1 : RdL w lo1 P1 P2 l') (h2 : RdL w lo2 Q1 Q2 l') :
    Calls Tryz.prog 16 #[.agg #[.slice P1 N d1, .slice P2 M d2], .agg #[.slice Q1 N e1, .slice Q2 M e2]] w (Quiet (.bool true) w) := rsame_self P1 P2 Q1 Q2 l' N M d1 d2 e1 e2 lo1 lo2 w hn hm h1 h2 hN hM
set_option maxRecDepth 100000 in
set_option maxHeartbeats 12800000 in
theorem agrees_any (A1 A2 : Option Addr) (l : Ls) (p kd c : Int) (n m c1 c2 : Nat) (w : World) (hn : l.cs.length = n) (hm : l.ps.length = m) (h : RdL w 0 A1 A2 l) (n9 : n ≤ 1000000) (m9 : m ≤ 1000000) :
    Calls Tryz.prog 28 #[.agg #[.slice A1 n c1, .slice A2 m c2], .int .i64 p, .int .i64 kd, .int .i64 c] w (Quiet (.bool true) w) := by
  have hb := (Below.refl w.heap.size w).alloc (Nat.le_refl _) (.cells #[.slice A1 n c1, .slice A2 m c2] 28)
  have HB := Lib.hid hb
  have HX0 := Lib.hid (Has.new w 28 #[.slice A1 n c1, .slice A2 m c2])
  have HL := Lib.hid (h.below hb)
  have HN := Lib.hid hn
  have HM := Lib.hid hm
  obtain ⟨lx, NX, MX, bx, nx, mx, gx, kx, HSX⟩ := stq_ans (p := p) hn hm
  obtain ⟨ly, NY, MY, E, ny, my, gy, ky, HSY⟩ := sta_ans (p := p) (kd := kd) (c := c) hn hm
  have HSX := Lib.hid HSX
  have HSY := Lib.hid HSY
  have HIX := Lib.hid (And.intro nx mx)
  have HIY := Lib.hid (And.intro ny my)
  clear hb h hn hm nx mx ny my
  go_enter Tryz.func28, Tryz.ntmps28
  go_upto_region 1 with fail
  have hW : (w.alloc (.cells #[.slice A1 n c1, .slice A2 m c2] 28)).heap.size = w.heap.size + 1 := World.size_alloc _ _
  generalize w.alloc (.cells #[.slice A1 n c1, .slice A2 m c2] 28) = W at *
  obtain ⟨B, hB⟩ : ∃ B, B = w.heap.size := ⟨_, rfl⟩
  have HBB := Lib.hid hB
  rw [← hB] at HB HX0 hW ⊢
  clear hB
  have HR := Lib.hid (fun (U : World) (k : Below W.heap.size W U) => HL.out.below k)
  have HK1 := Lib.hid (fun (U : World) (k : Below W.heap.size W U) => (stepL_any A1 A2 l p n m c1 c2 U HN.out HM.out (HR.out U k)).mono fun e w' q => HSX.out _ _ _ q)
  have HK2 := Lib.hid (fun (U : World) (k : Below W.heap.size W U) => (rstepL_any A1 A2 l p n m c1 c2 U HN.out HM.out (HR.out U k) n9 m9).mono fun e w' q => HSX.out _ _ _ q)
  have HK3 := Lib.hid (fun (U : World) (k : Below W.heap.size W U) => (start_any A1 A2 l p kd c n m c1 c2 U HN.out HM.out (HR.out U k)).mono fun e w' q => HSY.out _ _ _ q)
  have HK4 := Lib.hid (fun (U : World) (k : Below W.heap.size W U) => (rstart_any A1 A2 l p kd c n m c1 c2 U HN.out HM.out (HR.out U k) n9 m9).mono fun e w' q => HSY.out _ _ _ q)
  have HV0 : Hid (Below W.heap.size W W) := Lib.hid (Below.refl _ _)
  have x0 := HX0.out.cell 0
  have x1 := HX0.out.cell 1
  go_wp2_with fail
  refine (HK1.out _ HV0.out).mono ?_
  rintro e w1 ⟨P1, Q1, f1, g1, rfl, hr1, hb1⟩
  have hal1 := (Below.refl w1.heap.size w1).alloc (Nat.le_refl _) (.cells #[.slice P1 NX f1, .slice Q1 MX g1] 28)
  have HX1N := Lib.hid (Has.new w1 28 #[.slice P1 NX f1, .slice Q1 MX g1])
  have HR11 := Lib.hid (hr1.below hal1)
  have HV1 := Lib.hid (HV0.out.trans ((hb1.trans (hal1.mono hb1.size)).mono HV0.out.size))
  have HX01 := Lib.hid (HX0.out.below (hb1.trans (hal1.mono hb1.size)))
  clear hal1 hr1 hb1 x0 x1
  go_upto_region 2 with fail
  generalize w1.alloc (.cells #[.slice P1 NX f1, .slice Q1 MX g1] 28) = V1 at *
  have x0 := HX01.out.cell 0
  have x1 := HX01.out.cell 1
  go_wp2_with fail
  refine (HK2.out _ HV1.out).mono ?_
  rintro e w2 ⟨P2, Q2, f2, g2, rfl, hr2, hb2⟩
  have hal2 := (Below.refl w2.heap.size w2).alloc (Nat.le_refl _) (.cells #[.slice P2 NX f2, .slice Q2 MX g2] 28)
  have HX2N := Lib.hid (Has.new w2 28 #[.slice P2 NX f2, .slice Q2 MX g2])
  have HR22 := Lib.hid (hr2.below hal2)
  have HV2 := Lib.hid (HV1.out.trans ((hb2.trans (hal2.mono hb2.size)).mono HV1.out.size))
  have HX02 := Lib.hid (HX01.out.below (hb2.trans (hal2.mono hb2.size)))
  have HX12 := Lib.hid (HX1N.out.below (hb2.trans (hal2.mono hb2.size)))
  have HR12 := Lib.hid (HR11.out.below (hb2.trans (hal2.mono hb2.size)))
  clear hal2 hr2 hb2 x0 x1
  go_upto_region 3 with fail
  generalize w2.alloc (.cells #[.slice P2 NX f2, .slice Q2 MX g2] 28) = V2 at *
  have x0 := HX02.out.cell 0
  have x1 := HX02.out.cell 1
  go_wp2_with fail
  refine (HK3.out _ HV2.out).mono ?_
  rintro e w3 ⟨P3, Q3, f3, g3, rfl, hr3, hb3⟩
  have hal3 := (Below.refl w3.heap.size w3).alloc (Nat.le_refl _) (.cells #[.slice P3 NY f3, .slice Q3 MY g3] 28)
  have HX3N := Lib.hid (Has.new w3 28 #[.slice P3 NY f3, .slice Q3 MY g3])
  have HR33 := Lib.hid (hr3.below hal3)
  have HV3 := Lib.hid (HV2.out.trans ((hb3.trans (hal3.mono hb3.size)).mono HV2.out.size))
  have HX03 := Lib.hid (HX02.out.below (hb3.trans (hal3.mono hb3.size)))
  have HX13 := Lib.hid (HX12.out.below (hb3.trans (hal3.mono hb3.size)))
  have HR13 := Lib.hid (HR12.out.below (hb3.trans (hal3.mono hb3.size)))
  have HX23 := Lib.hid (HX2N.out.below (hb3.trans (hal3.mono hb3.size)))
  have HR23 := Lib.hid (HR22.out.below (hb3.trans (hal3.mono hb3.size)))
  clear hal3 hr3 hb3 x0 x1
  go_upto_region 4 with fail
  generalize w3.alloc (.cells #[.slice P3 NY f3, .slice Q3 MY g3] 28) = V3 at *
  have x0 := HX03.out.cell 0
  have x1 := HX03.out.cell 1
  go_wp2_with fail
  refine (HK4.out _ HV3.out).mono ?_
  rintro e w4 ⟨P4, Q4, f4, g4, rfl, hr4, hb4⟩
  have hal4 := (Below.refl w4.heap.size w4).alloc (Nat.le_refl _) (.cells #[.slice P4 NY f4, .slice Q4 MY g4] 28)
  have HX4N := Lib.hid (Has.new w4 28 #[.slice P4 NY f4, .slice Q4 MY g4])
  have HR44 := Lib.hid (hr4.below hal4)
  have HV4 := Lib.hid (HV3.out.trans ((hb4.trans (hal4.mono hb4.size)).mono HV3.out.size))
  have HX04 := Lib.hid (HX03.out.below (hb4.trans (hal4.mono hb4.size)))
  have HX14 := Lib.hid (HX13.out.below (hb4.trans (hal4.mono hb4.size)))
  have HR14 := Lib.hid (HR13.out.below (hb4.trans (hal4.mono hb4.size)))
  have HX24 := Lib.hid (HX23.out.below (hb4.trans (hal4.mono hb4.size)))
  have HR24 := Lib.hid (HR23.out.below (hb4.trans (hal4.mono hb4.size)))
  have HX34 := Lib.hid (HX3N.out.below (hb4.trans (hal4.mono hb4.size)))
  have HR34 := Lib.hid (HR33.out.below (hb4.trans (hal4.mono hb4.size)))
  clear hal4 hr4 hb4 x0 x1
  go_upto_region 5 with fail
  generalize w4.alloc (.cells #[.slice P4 NY f4, .slice Q4 MY g4] 28) = V4 at *
  have x0 := HX04.out.cell 0
  have x1 := HX04.out.cell 1
  obtain ⟨L, hL⟩ : ∃ L : List Int, L = if vldB l then nat2 (memV l) else [] := ⟨_, rfl⟩
  obtain ⟨N0, hN0⟩ : ∃ N0, N0 = L.length := ⟨_, rfl⟩
  obtain ⟨bv, hbv⟩ : ∃ bv : Int, bv = if vldB l then (bndV l : Int) else 0 := ⟨_, rfl⟩
  obtain ⟨vb, hvb⟩ : ∃ vb : Bool, vb = vldB l := ⟨_, rfl⟩
  obtain ⟨cb, hcb⟩ : ∃ cb : Bool, cb = chkB l := ⟨_, rfl⟩
  have HLN : Hid (L.length = N0) := Lib.hid hN0.symm
  have HNB : Hid (N0 ≤ 1000000) := Lib.hid (by
    rw [hN0, hL]
    split
    · rw [nat2_len]
      have h1 := memV_len l
      have h2 := HN.out
      omega
    · simp)
  have HRV := Lib.hid (fun (U : World) (k : Below V4.heap.size V4 U) => HR.out U (HV4.out.trans (k.mono HV4.out.size)))
  have HVP := Lib.hid (fun (U : World) (k : Below V4.heap.size V4 U) => (valid_any A1 A2 l n m c1 c2 U HN.out HM.out (HRV.out U k)).mono fun e w' q => q.is (vldB_as l))
  have HVR := Lib.hid (fun (U : World) (k : Below V4.heap.size V4 U) => (rvalid_any A1 A2 l n m c1 c2 U HN.out HM.out (HRV.out U k) n9 m9).mono fun e w' q => q.is (vldB_as l))
  have HM1 := Lib.hid (fun (U : World) (k : Below V4.heap.size V4 U) => same_ans HIX.out.1 HIX.out.2 (by omega) (by omega) P1 Q1 P2 Q2 f1 g1 f2 g2 _ _ U (HR14.out.below k) (HR24.out.below k))
  have HM2 := Lib.hid (fun (U : World) (k : Below V4.heap.size V4 U) => same_ans HIY.out.1 HIY.out.2 (by omega) (by omega) P3 Q3 P4 Q4 f3 g3 f4 g4 _ _ U (HR34.out.below k) (HR44.out.below k))
  have HMP := Lib.hid (fun (U : World) (k : Below V4.heap.size V4 U) => Members_any A1 A2 l n m c1 c2 U HN.out HM.out (HRV.out U k))
  have HMR := Lib.hid (fun (U : World) (k : Below V4.heap.size V4 U) => rmem_any A1 A2 l n m c1 c2 U HN.out HM.out (HRV.out U k) n9 m9)
  have HCP := Lib.hid (fun (U : World) (k : Below V4.heap.size V4 U) => (check_any A1 A2 l n m c1 c2 U HN.out HM.out (HRV.out U k)).mono fun e w' q => q.is Iff.rfl)
  have HCR := Lib.hid (fun (U : World) (k : Below V4.heap.size V4 U) => (rcheckL_any A1 A2 l n m c1 c2 U HN.out HM.out (HRV.out U k) n9 m9).mono fun e w' q => q.is Iff.rfl)
  have HBP := Lib.hid (fun (U : World) (k : Below V4.heap.size V4 U) => bound_any A1 A2 l n m c1 c2 U HN.out HM.out (HRV.out U k))
  have HBR := Lib.hid (fun (U : World) (k : Below V4.heap.size V4 U) => rbound_any A1 A2 l n m c1 c2 U HN.out HM.out (HRV.out U k) n9 m9)
  simp only [← hL] at HMP HMR
  simp only [← hbv] at HBP HBR
  simp only [← hvb] at HVP HVR
  simp only [← hcb] at HCP HCR
  clear hL hN0 hbv hvb hcb HK1 HK2 HK3 HK4 x0 x1
  have HSS := Lib.hid (fun (U : World) (k : Below V4.heap.size V4 U) => (⟨(HX04.out.below k).cell 0, (HX04.out.below k).cell 1, (HX14.out.below k).cell 0, (HX14.out.below k).cell 1, (HX24.out.below k).cell 0, (HX24.out.below k).cell 1, (HX34.out.below k).cell 0, (HX34.out.below k).cell 1, (HX4N.out.below k).cell 0, (HX4N.out.below k).cell 1, k⟩ : U.cell? ⟨B, 0, none⟩ = some (.slice A1 n c1) ∧ U.cell? ⟨B, 1, none⟩ = some (.slice A2 m c2) ∧ U.cell? ⟨w1.heap.size, 0, none⟩ = some (.slice P1 NX f1) ∧ U.cell? ⟨w1.heap.size, 1, none⟩ = some (.slice Q1 MX g1) ∧ U.cell? ⟨w2.heap.size, 0, none⟩ = some (.slice P2 NX f2) ∧ U.cell? ⟨w2.heap.size, 1, none⟩ = some (.slice Q2 MX g2) ∧ U.cell? ⟨w3.heap.size, 0, none⟩ = some (.slice P3 NY f3) ∧ U.cell? ⟨w3.heap.size, 1, none⟩ = some (.slice Q3 MY g3) ∧ U.cell? ⟨w4.heap.size, 0, none⟩ = some (.slice P4 NY f4) ∧ U.cell? ⟨w4.heap.size, 1, none⟩ = some (.slice Q4 MY g4) ∧ Below V4.heap.size V4 U))
  have hbw0 : Below V4.heap.size V4 V4.drew := (Below.refl _ _).drew
  have hS0 := HSS.out _ hbw0
  have s1 : (vb == vb) = true := by simp
  have s2 : (cb == cb) = true := by simp
  have s3 : (bv == bv) = true := by simp
  have s4 : (bx == bx) = true := by simp
  have s5 : (E == E) = true := by simp
  go_region_held3 (fun U => U.cell? ⟨B, 0, none⟩ = some (.slice A1 n c1) ∧ U.cell? ⟨B, 1, none⟩ = some (.slice A2 m c2) ∧ U.cell? ⟨w1.heap.size, 0, none⟩ = some (.slice P1 NX f1) ∧ U.cell? ⟨w1.heap.size, 1, none⟩ = some (.slice Q1 MX g1) ∧ U.cell? ⟨w2.heap.size, 0, none⟩ = some (.slice P2 NX f2) ∧ U.cell? ⟨w2.heap.size, 1, none⟩ = some (.slice Q2 MX g2) ∧ U.cell? ⟨w3.heap.size, 0, none⟩ = some (.slice P3 NY f3) ∧ U.cell? ⟨w3.heap.size, 1, none⟩ = some (.slice Q3 MY g3) ∧ U.cell? ⟨w4.heap.size, 0, none⟩ = some (.slice P4 NY f4) ∧ U.cell? ⟨w4.heap.size, 1, none⟩ = some (.slice Q4 MY g4) ∧ Below V4.heap.size V4 U) (first | with_reducible exact hS27 | with_reducible exact hS26 | with_reducible exact hS25 | with_reducible exact hS24 | with_reducible exact hS23 | with_reducible exact hS22 | with_reducible exact hS21 | with_reducible exact hS20 | with_reducible exact hS19 | with_reducible exact hS11 | with_reducible exact hS10 | with_reducible exact hS0 | with_reducible assumption) (first | (go_at_call 49; (with_reducible refine (HVP.out _ (show Below V4.heap.size V4 _ by with_reducible assumption)).mono ?_); rintro e w10 ⟨rfl, hb10⟩; have hbw10 : Below V4.heap.size V4 w10 := Below.trans (show Below V4.heap.size V4 _ by with_reducible assumption) (hb10.mono (Below.size (show Below V4.heap.size V4 _ by with_reducible assumption))); have hS10 := HSS.out _ hbw10) | (go_at_call 55; (with_reducible refine (HVR.out _ (show Below V4.heap.size V4 _ by with_reducible assumption)).mono ?_); rintro e w11 ⟨rfl, hb11⟩; have hbw11 : Below V4.heap.size V4 w11 := Below.trans (show Below V4.heap.size V4 _ by with_reducible assumption) (hb11.mono (Below.size (show Below V4.heap.size V4 _ by with_reducible assumption))); have hS11 := HSS.out _ hbw11) | (go_at_call 16; (with_reducible refine (HM1.out _ (show Below V4.heap.size V4 _ by with_reducible assumption)).mono ?_); rintro e w20 ⟨rfl, hb20⟩; have hbw20 : Below V4.heap.size V4 w20 := Below.trans (show Below V4.heap.size V4 _ by with_reducible assumption) (hb20.mono (Below.size (show Below V4.heap.size V4 _ by with_reducible assumption))); have hS20 := HSS.out _ hbw20) | (go_at_call 16; (with_reducible refine (HM2.out _ (show Below V4.heap.size V4 _ by with_reducible assumption)).mono ?_); rintro e w19 ⟨rfl, hb19⟩; have hbw19 : Below V4.heap.size V4 w19 := Below.trans (show Below V4.heap.size V4 _ by with_reducible assumption) (hb19.mono (Below.size (show Below V4.heap.size V4 _ by with_reducible assumption))); have hS19 := HSS.out _ hbw19) | (go_at_call 20; (with_reducible refine (HMP.out _ (show Below V4.heap.size V4 _ by with_reducible assumption)).mono ?_); rintro e w21 ⟨A21, k21, d21, rfl, hk21, -, -, hr21, hb21⟩; have hbw21 : Below V4.heap.size V4 w21 := Below.trans (show Below V4.heap.size V4 _ by with_reducible assumption) (hb21.mono (Below.size (show Below V4.heap.size V4 _ by with_reducible assumption))); have hS21 := HSS.out _ hbw21; rw [HLN.out] at hk21; subst hk21; have HRP := Lib.hid hr21; (try replace HRR := Lib.hid (RdR.below HRR.out hb21)); clear hr21) | (go_at_call 21; (with_reducible refine (HMR.out _ (show Below V4.heap.size V4 _ by with_reducible assumption)).mono ?_); rintro e w22 ⟨A22, k22, d22, rfl, hk22, -, -, hr22, hb22⟩; have hbw22 : Below V4.heap.size V4 w22 := Below.trans (show Below V4.heap.size V4 _ by with_reducible assumption) (hb22.mono (Below.size (show Below V4.heap.size V4 _ by with_reducible assumption))); have hS22 := HSS.out _ hbw22; rw [HLN.out] at hk22; subst hk22; have HRR := Lib.hid hr22; (try replace HRP := Lib.hid (RdR.below HRP.out hb22)); clear hr22) | (go_at_call 19; refine (rsameInts_self _ _ L N0 _ _ _ _ _ HLN.out HRP.out HRR.out HNB.out).mono ?_; rintro e w23 ⟨rfl, hb23⟩; have hbw23 : Below V4.heap.size V4 w23 := Below.trans (show Below V4.heap.size V4 _ by with_reducible assumption) (hb23.mono (Below.size (show Below V4.heap.size V4 _ by with_reducible assumption))); have hS23 := HSS.out _ hbw23) | (go_at_call 22; (with_reducible refine (HCP.out _ (show Below V4.heap.size V4 _ by with_reducible assumption)).mono ?_); rintro e w24 ⟨rfl, hb24⟩; have hbw24 : Below V4.heap.size V4 w24 := Below.trans (show Below V4.heap.size V4 _ by with_reducible assumption) (hb24.mono (Below.size (show Below V4.heap.size V4 _ by with_reducible assumption))); have hS24 := HSS.out _ hbw24) | (go_at_call 23; (with_reducible refine (HCR.out _ (show Below V4.heap.size V4 _ by with_reducible assumption)).mono ?_); rintro e w25 ⟨rfl, hb25⟩; have hbw25 : Below V4.heap.size V4 w25 := Below.trans (show Below V4.heap.size V4 _ by with_reducible assumption) (hb25.mono (Below.size (show Below V4.heap.size V4 _ by with_reducible assumption))); have hS25 := HSS.out _ hbw25) | (go_at_call 24; (with_reducible refine (HBP.out _ (show Below V4.heap.size V4 _ by with_reducible assumption)).mono ?_); rintro e w26 ⟨rfl, hb26⟩; have hbw26 : Below V4.heap.size V4 w26 := Below.trans (show Below V4.heap.size V4 _ by with_reducible assumption) (hb26.mono (Below.size (show Below V4.heap.size V4 _ by with_reducible assumption))); have hS26 := HSS.out _ hbw26) | (go_at_call 25; (with_reducible refine (HBR.out _ (show Below V4.heap.size V4 _ by with_reducible assumption)).mono ?_); rintro e w27 ⟨rfl, hb27⟩; have hbw27 : Below V4.heap.size V4 w27 := Below.trans (show Below V4.heap.size V4 _ by with_reducible assumption) (hb27.mono (Below.size (show Below V4.heap.size V4 _ by with_reducible assumption))); have hS27 := HSS.out _ hbw27))
  all_goals go_wp2_with fail
  all_goals go_ret
  all_goals exact ⟨rfl, (by rw [← HBB.out]; exact HB.out.trans ((HV4.out.trans (Below.mono (by first | exact hbw27 | exact hbw26) HV4.out.size)).mono (by have := HB.out.size; have := HBB.out; omega)))⟩
end Lk
end Go.Proofs.YtmhbloefmknikaaGreatDoor
