/-
  The walk of WordDraws: for all seeds and numbers it answers true and only makes memory. Condition: the library's table of trailing zeros is as its initialiser lays it.
-/
import Derived.Test.YtlnmpiigmedgkaaDoorKdG
namespace Go.Proofs.YtlnmpiigmedgkaaDoor
open Go.RowKit

theorem drW_nat (s n : Int) : ∃ z : Nat, z < 65536 ∧ drW s n = (z : Int) := by
  have := drW_bd s n
  exact ⟨(drW s n).toNat, by omega, by omega⟩
set_option maxRecDepth 100000 in
set_option maxHeartbeats 3200000 in
theorem draws_walk (s : Nat) (n : Int) (w : World) (hT : Deb w) :
    Calls Tryd.prog 11 #[.int .u64 (s : Int), .int .i64 n] w (LawP w) := by
  go_enter Tryd.func11, Tryd.ntmps11
  go_wp2_with fail
  refine (mod_any n 1000 w (by omega) (by omega)).mono ?_
  rintro e w' ⟨rfl, rfl⟩
  generalize n % 1000 = n2
  have hB := (Inv.nil w).add 3 #[Value.int .i64 n, Value.int .i64 n2, Value.int .i64 (-1), Value.int .i64 0]
  have dT := hT.below hB.1
  clear hT
  go_wp2_with fail
  generalize hBB : w.heap.size = B at hB
  go_loopw [12] (fun i wr => ∃ k : Nat, k ≤ 4 ∧ i = .int .i64 (k : Int) ∧ Inv w [(B, 3, #[Value.int .i64 n, Value.int .i64 n2, Value.int .i64 (-1), Value.int .i64 0])] wr ∧ Deb wr) (fun i _ => 4 - (intOf i).toNat)
  case atStart => exact ⟨0, by omega, rfl, hB, dT⟩
  case round =>
    clear hB dT
    obtain ⟨k, hk, rfl, hB, dT⟩ := hrel
    obtain ⟨cB, -⟩ := hB.hd
    by_cases hlt : k < 4
    · obtain ⟨m, hm⟩ : ∃ m : Int, #[Value.int .i64 n, Value.int .i64 n2, Value.int .i64 (-1), Value.int .i64 0][k]? = some (.int .i64 m) := by
        match k, hlt with
        | 0, _ | 1, _ | 2, _ | 3, _ => exact ⟨_, rfl⟩
      replace hm := (cB k).trans hm
      simp only at hm
      clear cB
      obtain ⟨z, hz, hz2⟩ := drW_nat s m
      have D1 := Lib.hid (draw_any s m wr)
      have D2 := Lib.hid (rdraw_any s m wr)
      rw [hz2] at D1 D2
      have V := Lib.hid (valid_any4 z wr (by omega))
      rw [show decide (z < 65536) = true by simpa using hz] at V
      have DT := Lib.hid dT
      clear hz2 dT
      subst hBB
      go_wp2_with fail
      refine (D1.out).mono ?_
      rintro e w7 ⟨rfl, rfl⟩
      go_wp2_with fail
      refine (D2.out).mono ?_
      rintro e w7 ⟨rfl, rfl⟩
      go_wp2_with fail
      refine (D1.out).mono ?_
      rintro e w7 ⟨rfl, rfl⟩
      go_wp2_with fail
      refine (V.out).mono ?_
      rintro e w7 ⟨rfl, rfl⟩
      go_wp2_with fail
      exact ⟨⟨k + 1, hlt, by go_num, hB, DT.out⟩, by simp [intOf]; omega⟩
    · have SN := Lib.hid (sane4_any wr dT)
      go_wp2_with fail
      refine (SN.out).mono ?_
      rintro e w6 ⟨rfl, hbl⟩
      go_wp2_with fail
      go_ret
      exact ⟨rfl, (hB.below hbl).1⟩
end Go.Proofs.YtlnmpiigmedgkaaDoor
