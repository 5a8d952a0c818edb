/-
  The walk of WordBits: from whatever numbers it answers true and only makes memory. Conditions: the first argument reads as a slice of ints; the library's table of trailing zeros is as its initialiser lays it.
-/
import Derived.Test.YtlnmpiigmedgkaaDoorKdG
import Derived.Test.YtlnmpiigmedgkaaDoorKdT
namespace Go.Proofs.YtlnmpiigmedgkaaDoor
open Go.RowKit

set_option maxRecDepth 100000 in
set_option maxHeartbeats 6400000 in
theorem bits_walk (A : Option Addr) (n0 cp a b : Nat) (i : Int) (w : World) (hnc : n0 ≤ cp) (hc : cp ≤ maxLen) (hN : Nums w w.heap.size A n0) (ha : a < 4294967296) (hb : b < 4294967296) (hT : Deb w) :
    Calls Tryd.prog 10 #[.slice A n0 cp, .int .u32 (a : Int), .int .u32 (b : Int), .int .i64 i] w (LawP w) := by
  go_enter Tryd.func10, Tryd.ntmps10
  go_wp2_with fail
  refine (new_any A n0 cp _ hnc hc hN).mono ?_
  rintro e w1 ⟨g, hg1, rfl, hTp, hb1⟩
  have hA : At w [] g w1 := ⟨(Inv.nil w).below hb1, hTp⟩
  have hne : 2 ≠ g := by have := hT.lt; omega
  have d1 := hT.below hb1
  clear hb1 hTp hT hN hnc hc
  go_wp2_with fail
  go_loopw [10] (fun i wr => ∃ k : Nat, k ≤ 5 ∧ i = .int .i64 (k : Int) ∧ At w [] g wr ∧ Deb wr) (fun i _ => 5 - (intOf i).toNat)
  case atStart => exact ⟨0, by omega, rfl, hA, d1⟩
  case round =>
    clear hA d1
    obtain ⟨k, hk, rfl, hA, dT⟩ := hrel
    by_cases hlt : k < 5
    · go_wp2_with fail
      refine (word_any g _ hA.2).mono ?_
      rintro e w3 ⟨x, hx, rfl, hst⟩
      replace dT := dT.step hne hst
      replace hA := hA.step hst hg1 (fun _ h => by cases h)
      clear hst
      go_wp2_with fail
      refine (word_any g _ hA.2).mono ?_
      rintro e w4 ⟨y, hy, rfl, hst⟩
      replace dT := dT.step hne hst
      replace hA := hA.step hst hg1 (fun _ h => by cases h)
      clear hst
      go_wp2_with fail
      refine (next_any g _ _ hA.2 (by omega)).mono ?_
      rintro e w5 ⟨r, r0, r1, rfl, hst⟩
      replace dT := dT.step hne hst
      replace hA := hA.step hst hg1 (fun _ h => by cases h)
      clear hst
      have hx' : x < 4294967296 := by omega
      have hy' : y < 4294967296 := by omega
      by_cases h4 : k = 4
      · subst h4
        have VX := Lib.hid (valid_any4 a w5 ha)
        have RVX := Lib.hid (rvalid_any4 a w5 ha)
        have BX := Lib.hid (bit_any a i w5 ha)
        have RBX := Lib.hid (rbit_any a i w5 ha)
        have CXY := Lib.hid (common_any a b w5 ha hb dT)
        have RCXY := Lib.hid (rcommon_any a b w5 ha hb)
        have SXY := Lib.hid (same_any a b i w5 ha hb dT)
        have RSXY := Lib.hid (rsame_any a b i w5 ha hb)
        have kk1 : ((cm a b : Int) == (cm a b : Int)) = true := by simp
        generalize decide (i ≤ (cm a b : Int)) = bS at SXY RSXY
        generalize (cm a b : Int) = zC at CXY RCXY
        generalize wbit a i = zB at BX RBX
        generalize decide (a < 65536) = bV at VX RVX
        clear kk1
        have DT := Lib.hid dT
        clear hx' hy' dT
        go_wp2_with fail
        refine ((VX).out).mono ?_
        rintro e w7 ⟨rfl, rfl⟩
        go_wp2_with fail
        refine ((RVX).out).mono ?_
        rintro e w7 ⟨rfl, rfl⟩
        go_wp2_with fail
        refine ((BX).out).mono ?_
        rintro e w7 ⟨rfl, rfl⟩
        go_wp2_with fail
        refine ((RBX).out).mono ?_
        rintro e w7 ⟨rfl, rfl⟩
        go_wp2_with fail
        refine ((CXY).out).mono ?_
        rintro e w7 ⟨rfl, rfl⟩
        go_wp2_with fail
        refine ((RCXY).out).mono ?_
        rintro e w7 ⟨rfl, rfl⟩
        go_wp2_with fail
        refine ((SXY).out).mono ?_
        rintro e w7 ⟨rfl, rfl⟩
        go_wp2_with fail
        refine ((RSXY).out).mono ?_
        rintro e w7 ⟨rfl, rfl⟩
        go_wp2_with fail
        exact ⟨⟨5, by omega, by rfl, hA, DT.out⟩, by simp [intOf]⟩
      · have h4' : ((k : Int) == 4) = false := by simp; omega
        have VX := Lib.hid (valid_any4 x w5 hx')
        have RVX := Lib.hid (rvalid_any4 x w5 hx')
        have BX := Lib.hid (bit_any x (r - 2) w5 hx')
        have RBX := Lib.hid (rbit_any x (r - 2) w5 hx')
        have CXY := Lib.hid (common_any x y w5 hx' hy' dT)
        have RCXY := Lib.hid (rcommon_any x y w5 hx' hy')
        have SXY := Lib.hid (same_any x y (r - 2) w5 hx' hy' dT)
        have RSXY := Lib.hid (rsame_any x y (r - 2) w5 hx' hy')
        have kk1 : ((cm x y : Int) == (cm x y : Int)) = true := by simp
        generalize decide ((r - 2) ≤ (cm x y : Int)) = bS at SXY RSXY
        generalize (cm x y : Int) = zC at CXY RCXY
        generalize wbit x (r - 2) = zB at BX RBX
        generalize decide (x < 65536) = bV at VX RVX
        clear kk1
        have DT := Lib.hid dT
        clear hx' hy' dT h4
        go_wp2_with fail
        refine ((VX).out).mono ?_
        rintro e w7 ⟨rfl, rfl⟩
        go_wp2_with fail
        refine ((RVX).out).mono ?_
        rintro e w7 ⟨rfl, rfl⟩
        go_wp2_with fail
        refine ((BX).out).mono ?_
        rintro e w7 ⟨rfl, rfl⟩
        go_wp2_with fail
        refine ((RBX).out).mono ?_
        rintro e w7 ⟨rfl, rfl⟩
        go_wp2_with fail
        refine ((CXY).out).mono ?_
        rintro e w7 ⟨rfl, rfl⟩
        go_wp2_with fail
        refine ((RCXY).out).mono ?_
        rintro e w7 ⟨rfl, rfl⟩
        go_wp2_with fail
        refine ((SXY).out).mono ?_
        rintro e w7 ⟨rfl, rfl⟩
        go_wp2_with fail
        refine ((RSXY).out).mono ?_
        rintro e w7 ⟨rfl, rfl⟩
        go_wp2_with fail
        exact ⟨⟨k + 1, hlt, by go_num, hA, DT.out⟩, by simp [intOf]; omega⟩
    · have SN := Lib.hid (sane4_any wr dT)
      go_wp2_with fail
      refine (SN.out).mono ?_
      rintro e w6 ⟨rfl, hbl⟩
      go_wp2_with fail
      go_ret
      exact ⟨rfl, (hA.below hbl).1.1⟩
end Go.Proofs.YtlnmpiigmedgkaaDoor
