/-
  The reference's kind of a defect. Condition: the nodes can be read and are a roster.
-/
import Derived.Test.YteepijefbdbhoaaGreatDoorLpC
import Derived.Test.YteepijefbdbhoaaGreatDoorLmJ
namespace Go.Proofs.YteepijefbdbhoaaGreatDoor
open Go.RowKit

set_option maxRecDepth 100000 in
set_option maxHeartbeats 1600000 in
theorem rkind_any (A : Option Addr) (l : List Nd) (c : Nat) (x : Nd) (hv t side : Int) (w : World) (hl : Nds w w.heap.size A l) (hc : chkV l = 0) (hxw : x.wide) (hs : side = 0 ∨ side = 1) :
    Calls Tryz.prog 61 #[.slice A l.length c, x.val, .int .i64 hv, .int .i64 t, .int .i64 side] w fun e w' => e = .returned (.int .i64 (kndV l x hv t side)) ∧ Below w.heap.size w w' := by
  have hln : l.length ≤ 64 := (chkV_zero.1 hc).1
  have hb1 := (Below.refl w.heap.size w).alloc (Nat.le_refl _) (.cells #[.int .i64 x.id, .string x.key, .int .u32 (x.word : Int)] 59)
  have HX := Lib.hid (Has.new w 59 #[.int .i64 x.id, .string x.key, .int .u32 (x.word : Int)])
  have HB1 := Lib.hid hb1
  have HFD := Lib.hid (rfind_any A l c hv (w.alloc (.cells #[.int .i64 x.id, .string x.key, .int .u32 (x.word : Int)] 59)) ((hl.below hb1).more hb1.size) (by omega))
  have HK0 : Hid (hv = 0 → kndV l x hv t side = 4) := Lib.hid fun e => by unfold kndV; rw [if_pos e]
  have HK1 : Hid (hv ≠ 0 → ¬ plc l hv < l.length → kndV l x hv t side = 1) := Lib.hid fun e1 e2 => by unfold kndV; rw [if_neg e1, if_neg e2]
  have HK2 : Hid (hv ≠ 0 → plc l hv < l.length → kndV l x hv t side = if besB x (fndV l hv) side = false then 2 else if t ≤ (cm x.word (fndV l hv).word : Int) then 5 else 3) := Lib.hid fun e1 e2 => knd_side e1 e2 hs
  have HYW : Hid (plc l hv < l.length → (fndV l hv).word < 4294967296) := Lib.hid fun h => ((wide_of hc _ (ndF_yes (chkV_zero.1 hc).2.2 h).2)).2
  have hp0 : plc l 0 < l.length → False := plc_zero hc
  unfold FndP at HFD
  generalize kndV l x hv t side = Z at *
  obtain ⟨xi, xk, xw⟩ := x
  simp only at HX HB1 HFD HK2
  have hxw2 : xw < 4294967296 := hxw.2
  have HZP : Hid (∀ (p : Prop) [Decidable p], p → decide p = true) := Lib.hid fun p _ h => decide_eq_true h
  clear hb1 hl hc hxw
  show Calls Tryz.prog 61 #[.slice A l.length c, .agg #[.int .i64 xi, .string xk, .int .u32 (xw : Int)], .int .i64 hv, .int .i64 t, .int .i64 side] w _
  go_enter Tryz.func61, Tryz.ntmps61
  go_upto_region 1 with fail
  generalize w.alloc (.cells #[.int .i64 xi, .string xk, .int .u32 (xw : Int)] 59) = WA at *
  by_cases hp : plc l hv < l.length
  · have hn0 : hv ≠ 0 := by
      rintro rfl
      exact hp0 hp
    have hz : (hv == 0) = false := by simpa using hn0
    have HZ := Lib.hid (HK2.out hn0 hp)
    have hyw := HYW.out hp
    rw [decide_eq_true hp] at HFD
    generalize fndV l hv = y at *
    obtain ⟨yi, yk, yw⟩ := y
    simp only [Nd.val] at HFD
    simp only at hyw HZ
    clear hn0 hp HK0 HK1 HK2 HYW hp0
    go_wp2_with fail
    refine (HFD.out).mono ?_
    rintro e WB ⟨rfl, hbB⟩
    have hbY := (Below.refl WB.heap.size WB).alloc (Nat.le_refl _) (.cells #[.int .i64 yi, .string yk, .int .u32 (yw : Int)] 59)
    have HY := Lib.hid (Has.new WB 59 #[.int .i64 yi, .string yk, .int .u32 (yw : Int)])
    have HB3 := Lib.hid (HB1.out.trans ((hbB.trans (hbY.mono hbB.size)).mono HB1.out.size))
    have HX3 := Lib.hid ((HX.out.below hbB).below hbY)
    clear hbY hbB HX HB1 HFD
    go_upto_region 2 with fail
    generalize WB.alloc (.cells #[.int .i64 yi, .string yk, .int .u32 (yw : Int)] 59) = WC at *
    have x1 := HX3.out.cell 1
    have x2 := HX3.out.cell 2
    have y1 := HY.out.cell 1
    have y2 := HY.out.cell 2
    have HSM := Lib.hid (rsame_any xw yw t WC hxw2 hyw)
    have hl2 := gtr_kl yk xk
    rcases hs with rfl | rfl
    · have HZ2 : Hid (Z = if kl yk xk = false then 2 else if t ≤ (cm xw yw : Int) then 5 else 3) := Lib.hid (by rw [HZ.out]; rfl)
      clear HZ hl2
      generalize hk : kl yk xk = K at *
      have hl3 : Op.bytesLess yk.toList xk.toList = K := hk
      have e01 : ((0 : Int) == 1) = false := rfl
      have e00 : ((0 : Int) == 0) = true := rfl
      clear hk HY HX3
      cases K
      · have HZ3 : Hid (Z = 2) := Lib.hid (by rw [HZ2.out]; rfl)
        clear HSM HZ2
        go_wp2_with fail
        go_ret
        exact ⟨ret_int HZ3.out.symm, HB3.out⟩
      · have HZ3 : Hid (Z = if t ≤ (cm xw yw : Int) then 5 else 3) := Lib.hid (by rw [HZ2.out]; rfl)
        clear HZ2
        go_wp2_with fail
        refine (HSM.out).mono ?_
        rintro e w6 ⟨rfl, rfl⟩
        by_cases hcm : t ≤ (cm xw yw : Int)
        · rw [if_pos hcm] at HZ3
          rw [decide_eq_true hcm]
          clear hcm
          go_wp2_with fail
          go_ret
          exact ⟨ret_int HZ3.out.symm, HB3.out⟩
        · rw [if_neg hcm] at HZ3
          rw [decide_eq_false hcm]
          clear hcm
          go_wp2_with fail
          go_ret
          exact ⟨ret_int HZ3.out.symm, HB3.out⟩
    · have HZ2 : Hid (Z = if kl xk yk = false then 2 else if t ≤ (cm xw yw : Int) then 5 else 3) := Lib.hid (by rw [HZ.out]; rfl)
      clear HZ
      generalize hk : kl xk yk = K at *
      have hl3 : (Op.bytesLess yk.toList xk.toList || yk.toList == xk.toList) = !K := by rw [← hl2]; simp
      have e01 : ((1 : Int) == 1) = true := rfl
      have e00 : ((1 : Int) == 0) = false := rfl
      clear hk HY HX3 hl2
      cases K
      · have HZ3 : Hid (Z = 2) := Lib.hid (by rw [HZ2.out]; rfl)
        simp only [Bool.not_false] at hl3
        clear HSM HZ2
        go_wp2_with fail
        go_ret
        exact ⟨ret_int HZ3.out.symm, HB3.out⟩
      · have HZ3 : Hid (Z = if t ≤ (cm xw yw : Int) then 5 else 3) := Lib.hid (by rw [HZ2.out]; rfl)
        simp only [Bool.not_true] at hl3
        clear HZ2
        go_wp2_with fail
        refine (HSM.out).mono ?_
        rintro e w6 ⟨rfl, rfl⟩
        by_cases hcm : t ≤ (cm xw yw : Int)
        · rw [if_pos hcm] at HZ3
          rw [decide_eq_true hcm]
          clear hcm
          go_wp2_with fail
          go_ret
          exact ⟨ret_int HZ3.out.symm, HB3.out⟩
        · rw [if_neg hcm] at HZ3
          rw [decide_eq_false hcm]
          clear hcm
          go_wp2_with fail
          go_ret
          exact ⟨ret_int HZ3.out.symm, HB3.out⟩
  · rw [decide_eq_false hp] at HFD
    generalize fndV l hv = y at *
    obtain ⟨yi, yk, yw⟩ := y
    simp only [Nd.val] at HFD
    by_cases hn0 : hv = 0
    · have hz : (hv == 0) = true := by simpa using hn0
      have HZ := Lib.hid (HK0.out hn0)
      clear hn0 hp HK0 HK1 HK2 HYW hp0
      go_wp2_with fail
      refine (HFD.out).mono ?_
      rintro e WB ⟨rfl, hbB⟩
      have hbY := (Below.refl WB.heap.size WB).alloc (Nat.le_refl _) (.cells #[.int .i64 yi, .string yk, .int .u32 (yw : Int)] 59)
      have HB3 := Lib.hid (HB1.out.trans ((hbB.trans (hbY.mono hbB.size)).mono HB1.out.size))
      clear hbB hbY
      go_wp2_with fail
      go_ret
      exact ⟨ret_int HZ.out.symm, HB3.out⟩
    · have hz : (hv == 0) = false := by simpa using hn0
      have HZ := Lib.hid (HK1.out hn0 hp)
      clear hn0 hp HK0 HK1 HK2 HYW hp0
      go_wp2_with fail
      refine (HFD.out).mono ?_
      rintro e WB ⟨rfl, hbB⟩
      have hbY := (Below.refl WB.heap.size WB).alloc (Nat.le_refl _) (.cells #[.int .i64 yi, .string yk, .int .u32 (yw : Int)] 59)
      have HB3 := Lib.hid (HB1.out.trans ((hbB.trans (hbY.mono hbB.size)).mono HB1.out.size))
      clear hbB hbY
      go_wp2_with fail
      go_ret
      exact ⟨ret_int HZ.out.symm, HB3.out⟩
end Go.Proofs.YteepijefbdbhoaaGreatDoor
