/-
  The walk of WordEquivalence: for all words and every level it answers true and only makes memory. Condition: the library's table of trailing zeros is as its initialiser lays it.
-/
import Derived.Test.YtlnmpiigmedgkaaDoorKdG
namespace Go.Proofs.YtlnmpiigmedgkaaDoor
open Go.RowKit

set_option maxRecDepth 100000 in
set_option maxHeartbeats 6400000 in
theorem eq_p1 (a b c x y z : Nat) (level h : Int) (w : World) (hh : level % 17 = h) (h1 : 0 < h) (h2 : h ≤ 16) (tri : min x y ≤ z)
    (SAA : Hid (Calls Tryd.prog 55 #[.int .u32 (a : Int), .int .u32 (a : Int), .int .i64 h] w fun e w' => e = .returned (.bool true) ∧ w = w'))
    (SAB : Hid (Calls Tryd.prog 55 #[.int .u32 (a : Int), .int .u32 (b : Int), .int .i64 h] w fun e w' => e = .returned (.bool true) ∧ w = w'))
    (SBA : Hid (Calls Tryd.prog 55 #[.int .u32 (b : Int), .int .u32 (a : Int), .int .i64 h] w fun e w' => e = .returned (.bool true) ∧ w = w'))
    (SBC : Hid (Calls Tryd.prog 55 #[.int .u32 (b : Int), .int .u32 (c : Int), .int .i64 h] w fun e w' => e = .returned (.bool true) ∧ w = w'))
    (SAC : Hid (Calls Tryd.prog 55 #[.int .u32 (a : Int), .int .u32 (c : Int), .int .i64 h] w fun e w' => e = .returned (.bool true) ∧ w = w'))
    (SAB1 : Hid (Calls Tryd.prog 55 #[.int .u32 (a : Int), .int .u32 (b : Int), .int .i64 (h - 1)] w fun e w' => e = .returned (.bool true) ∧ w = w'))
    (CAB : Hid (Calls Tryd.prog 53 #[.int .u32 (a : Int), .int .u32 (b : Int)] w fun e w' => e = .returned (.int .i64 (x : Int)) ∧ w = w')) (CBA : Hid (Calls Tryd.prog 53 #[.int .u32 (b : Int), .int .u32 (a : Int)] w fun e w' => e = .returned (.int .i64 (x : Int)) ∧ w = w')) (CAC : Hid (Calls Tryd.prog 53 #[.int .u32 (a : Int), .int .u32 (c : Int)] w fun e w' => e = .returned (.int .i64 (z : Int)) ∧ w = w')) (CBC : Hid (Calls Tryd.prog 53 #[.int .u32 (b : Int), .int .u32 (c : Int)] w fun e w' => e = .returned (.int .i64 (y : Int)) ∧ w = w')) (SN : Hid (Calls Tryd.prog 57 #[] w (LawP w))) :
    Calls Tryd.prog 13 #[.int .u32 (a : Int), .int .u32 (b : Int), .int .u32 (c : Int), .int .i64 level] w (LawP w) := by
  have t1 : (h == 0) = false := by simp; omega
  have M := Lib.hid ((mod_any level 17 w (by omega) (by omega)).mono fun e w' k => (⟨by rw [k.1, hh], k.2⟩ : e = .returned (.int .i64 h) ∧ w = w'))
  clear hh
  go_enter Tryd.func13, Tryd.ntmps13
  go_wp2_with fail
  refine (M.out).mono ?_
  rintro e w' ⟨rfl, rfl⟩
  clear M
  go_wp2_with fail
  refine (SAA.out).mono ?_
  rintro e w' ⟨rfl, rfl⟩
  go_wp2_with fail
  refine (SAB.out).mono ?_
  rintro e w' ⟨rfl, rfl⟩
  go_wp2_with fail
  refine (SBA.out).mono ?_
  rintro e w' ⟨rfl, rfl⟩
  go_wp2_with fail
  refine (SAB.out).mono ?_
  rintro e w' ⟨rfl, rfl⟩
  go_wp2_with fail
  refine (SBC.out).mono ?_
  rintro e w' ⟨rfl, rfl⟩
  go_wp2_with fail
  refine (SAC.out).mono ?_
  rintro e w' ⟨rfl, rfl⟩
  go_wp2_with fail
  refine (SAB.out).mono ?_
  rintro e w' ⟨rfl, rfl⟩
  go_wp2_with fail
  refine (SAB1.out).mono ?_
  rintro e w' ⟨rfl, rfl⟩
  go_wp2_with fail
  refine (CAB.out).mono ?_
  rintro e w' ⟨rfl, rfl⟩
  go_wp2_with fail
  refine (CBA.out).mono ?_
  rintro e w' ⟨rfl, rfl⟩
  go_wp2_with fail
  refine (CAC.out).mono ?_
  rintro e w' ⟨rfl, rfl⟩
  go_wp2_with fail
  refine (CAB.out).mono ?_
  rintro e w' ⟨rfl, rfl⟩
  go_wp2_with fail
  refine (CBC.out).mono ?_
  rintro e w' ⟨rfl, rfl⟩
  go_wp2_with fail
  all_goals
    first
    | (exfalso; omega)
    | (refine (SN.out).mono ?_
       rintro e w' ⟨rfl, hbl⟩
       go_wp2_with fail
       go_ret
       exact ⟨rfl, hbl⟩)
set_option maxRecDepth 100000 in
set_option maxHeartbeats 6400000 in
theorem eq_p2 (a b c x y z : Nat) (level h : Int) (w : World) (hh : level % 17 = h) (h1 : 0 < h) (h2 : h ≤ 16) (tri : min x y ≤ z)
    (SAA : Hid (Calls Tryd.prog 55 #[.int .u32 (a : Int), .int .u32 (a : Int), .int .i64 h] w fun e w' => e = .returned (.bool true) ∧ w = w'))
    (SAB : Hid (Calls Tryd.prog 55 #[.int .u32 (a : Int), .int .u32 (b : Int), .int .i64 h] w fun e w' => e = .returned (.bool true) ∧ w = w'))
    (SBA : Hid (Calls Tryd.prog 55 #[.int .u32 (b : Int), .int .u32 (a : Int), .int .i64 h] w fun e w' => e = .returned (.bool true) ∧ w = w'))
    (SBC : Hid (Calls Tryd.prog 55 #[.int .u32 (b : Int), .int .u32 (c : Int), .int .i64 h] w fun e w' => e = .returned (.bool false) ∧ w = w'))
    (SAB1 : Hid (Calls Tryd.prog 55 #[.int .u32 (a : Int), .int .u32 (b : Int), .int .i64 (h - 1)] w fun e w' => e = .returned (.bool true) ∧ w = w'))
    (CAB : Hid (Calls Tryd.prog 53 #[.int .u32 (a : Int), .int .u32 (b : Int)] w fun e w' => e = .returned (.int .i64 (x : Int)) ∧ w = w')) (CBA : Hid (Calls Tryd.prog 53 #[.int .u32 (b : Int), .int .u32 (a : Int)] w fun e w' => e = .returned (.int .i64 (x : Int)) ∧ w = w')) (CAC : Hid (Calls Tryd.prog 53 #[.int .u32 (a : Int), .int .u32 (c : Int)] w fun e w' => e = .returned (.int .i64 (z : Int)) ∧ w = w')) (CBC : Hid (Calls Tryd.prog 53 #[.int .u32 (b : Int), .int .u32 (c : Int)] w fun e w' => e = .returned (.int .i64 (y : Int)) ∧ w = w')) (SN : Hid (Calls Tryd.prog 57 #[] w (LawP w))) :
    Calls Tryd.prog 13 #[.int .u32 (a : Int), .int .u32 (b : Int), .int .u32 (c : Int), .int .i64 level] w (LawP w) := by
  have t1 : (h == 0) = false := by simp; omega
  have M := Lib.hid ((mod_any level 17 w (by omega) (by omega)).mono fun e w' k => (⟨by rw [k.1, hh], k.2⟩ : e = .returned (.int .i64 h) ∧ w = w'))
  clear hh
  go_enter Tryd.func13, Tryd.ntmps13
  go_wp2_with fail
  refine (M.out).mono ?_
  rintro e w' ⟨rfl, rfl⟩
  clear M
  go_wp2_with fail
  refine (SAA.out).mono ?_
  rintro e w' ⟨rfl, rfl⟩
  go_wp2_with fail
  refine (SAB.out).mono ?_
  rintro e w' ⟨rfl, rfl⟩
  go_wp2_with fail
  refine (SBA.out).mono ?_
  rintro e w' ⟨rfl, rfl⟩
  go_wp2_with fail
  refine (SAB.out).mono ?_
  rintro e w' ⟨rfl, rfl⟩
  go_wp2_with fail
  refine (SBC.out).mono ?_
  rintro e w' ⟨rfl, rfl⟩
  go_wp2_with fail
  refine (SAB.out).mono ?_
  rintro e w' ⟨rfl, rfl⟩
  go_wp2_with fail
  refine (SAB1.out).mono ?_
  rintro e w' ⟨rfl, rfl⟩
  go_wp2_with fail
  refine (CAB.out).mono ?_
  rintro e w' ⟨rfl, rfl⟩
  go_wp2_with fail
  refine (CBA.out).mono ?_
  rintro e w' ⟨rfl, rfl⟩
  go_wp2_with fail
  refine (CAC.out).mono ?_
  rintro e w' ⟨rfl, rfl⟩
  go_wp2_with fail
  refine (CAB.out).mono ?_
  rintro e w' ⟨rfl, rfl⟩
  go_wp2_with fail
  refine (CBC.out).mono ?_
  rintro e w' ⟨rfl, rfl⟩
  go_wp2_with fail
  all_goals
    first
    | (exfalso; omega)
    | (refine (SN.out).mono ?_
       rintro e w' ⟨rfl, hbl⟩
       go_wp2_with fail
       go_ret
       exact ⟨rfl, hbl⟩)
set_option maxRecDepth 100000 in
set_option maxHeartbeats 6400000 in
theorem eq_p3 (a b c x y z : Nat) (level h : Int) (w : World) (hh : level % 17 = h) (h1 : 0 < h) (_h2 : h ≤ 16) (tri : min x y ≤ z)
    (SAA : Hid (Calls Tryd.prog 55 #[.int .u32 (a : Int), .int .u32 (a : Int), .int .i64 h] w fun e w' => e = .returned (.bool true) ∧ w = w'))
    (SAB : Hid (Calls Tryd.prog 55 #[.int .u32 (a : Int), .int .u32 (b : Int), .int .i64 h] w fun e w' => e = .returned (.bool false) ∧ w = w'))
    (SBA : Hid (Calls Tryd.prog 55 #[.int .u32 (b : Int), .int .u32 (a : Int), .int .i64 h] w fun e w' => e = .returned (.bool false) ∧ w = w'))
    (CAB : Hid (Calls Tryd.prog 53 #[.int .u32 (a : Int), .int .u32 (b : Int)] w fun e w' => e = .returned (.int .i64 (x : Int)) ∧ w = w')) (CBA : Hid (Calls Tryd.prog 53 #[.int .u32 (b : Int), .int .u32 (a : Int)] w fun e w' => e = .returned (.int .i64 (x : Int)) ∧ w = w')) (CAC : Hid (Calls Tryd.prog 53 #[.int .u32 (a : Int), .int .u32 (c : Int)] w fun e w' => e = .returned (.int .i64 (z : Int)) ∧ w = w')) (CBC : Hid (Calls Tryd.prog 53 #[.int .u32 (b : Int), .int .u32 (c : Int)] w fun e w' => e = .returned (.int .i64 (y : Int)) ∧ w = w')) (SN : Hid (Calls Tryd.prog 57 #[] w (LawP w))) :
    Calls Tryd.prog 13 #[.int .u32 (a : Int), .int .u32 (b : Int), .int .u32 (c : Int), .int .i64 level] w (LawP w) := by
  have t1 : (h == 0) = false := by simp; omega
  have M := Lib.hid ((mod_any level 17 w (by omega) (by omega)).mono fun e w' k => (⟨by rw [k.1, hh], k.2⟩ : e = .returned (.int .i64 h) ∧ w = w'))
  clear hh
  go_enter Tryd.func13, Tryd.ntmps13
  go_wp2_with fail
  refine (M.out).mono ?_
  rintro e w' ⟨rfl, rfl⟩
  clear M
  go_wp2_with fail
  refine (SAA.out).mono ?_
  rintro e w' ⟨rfl, rfl⟩
  go_wp2_with fail
  refine (SAB.out).mono ?_
  rintro e w' ⟨rfl, rfl⟩
  go_wp2_with fail
  refine (SBA.out).mono ?_
  rintro e w' ⟨rfl, rfl⟩
  go_wp2_with fail
  refine (SAB.out).mono ?_
  rintro e w' ⟨rfl, rfl⟩
  go_wp2_with fail
  refine (SAB.out).mono ?_
  rintro e w' ⟨rfl, rfl⟩
  go_wp2_with fail
  refine (CAB.out).mono ?_
  rintro e w' ⟨rfl, rfl⟩
  go_wp2_with fail
  refine (CBA.out).mono ?_
  rintro e w' ⟨rfl, rfl⟩
  go_wp2_with fail
  refine (CAC.out).mono ?_
  rintro e w' ⟨rfl, rfl⟩
  go_wp2_with fail
  refine (CAB.out).mono ?_
  rintro e w' ⟨rfl, rfl⟩
  go_wp2_with fail
  refine (CBC.out).mono ?_
  rintro e w' ⟨rfl, rfl⟩
  go_wp2_with fail
  all_goals
    first
    | (exfalso; omega)
    | (refine (SN.out).mono ?_
       rintro e w' ⟨rfl, hbl⟩
       go_wp2_with fail
       go_ret
       exact ⟨rfl, hbl⟩)
set_option maxRecDepth 100000 in
set_option maxHeartbeats 6400000 in
theorem eq_p0 (a b c x y z : Nat) (level : Int) (w : World) (hh : level % 17 = 0)  (tri : min x y ≤ z)
    (SAA : Hid (Calls Tryd.prog 55 #[.int .u32 (a : Int), .int .u32 (a : Int), .int .i64 0] w fun e w' => e = .returned (.bool true) ∧ w = w'))
    (SAB : Hid (Calls Tryd.prog 55 #[.int .u32 (a : Int), .int .u32 (b : Int), .int .i64 0] w fun e w' => e = .returned (.bool true) ∧ w = w'))
    (SBA : Hid (Calls Tryd.prog 55 #[.int .u32 (b : Int), .int .u32 (a : Int), .int .i64 0] w fun e w' => e = .returned (.bool true) ∧ w = w'))
    (SBC : Hid (Calls Tryd.prog 55 #[.int .u32 (b : Int), .int .u32 (c : Int), .int .i64 0] w fun e w' => e = .returned (.bool true) ∧ w = w'))
    (SAC : Hid (Calls Tryd.prog 55 #[.int .u32 (a : Int), .int .u32 (c : Int), .int .i64 0] w fun e w' => e = .returned (.bool true) ∧ w = w'))
    (CAB : Hid (Calls Tryd.prog 53 #[.int .u32 (a : Int), .int .u32 (b : Int)] w fun e w' => e = .returned (.int .i64 (x : Int)) ∧ w = w')) (CBA : Hid (Calls Tryd.prog 53 #[.int .u32 (b : Int), .int .u32 (a : Int)] w fun e w' => e = .returned (.int .i64 (x : Int)) ∧ w = w')) (CAC : Hid (Calls Tryd.prog 53 #[.int .u32 (a : Int), .int .u32 (c : Int)] w fun e w' => e = .returned (.int .i64 (z : Int)) ∧ w = w')) (CBC : Hid (Calls Tryd.prog 53 #[.int .u32 (b : Int), .int .u32 (c : Int)] w fun e w' => e = .returned (.int .i64 (y : Int)) ∧ w = w')) (SN : Hid (Calls Tryd.prog 57 #[] w (LawP w))) :
    Calls Tryd.prog 13 #[.int .u32 (a : Int), .int .u32 (b : Int), .int .u32 (c : Int), .int .i64 level] w (LawP w) := by
  have M := Lib.hid ((mod_any level 17 w (by omega) (by omega)).mono fun e w' k => (⟨by rw [k.1, hh], k.2⟩ : e = .returned (.int .i64 0) ∧ w = w'))
  clear hh
  go_enter Tryd.func13, Tryd.ntmps13
  go_wp2_with fail
  refine (M.out).mono ?_
  rintro e w' ⟨rfl, rfl⟩
  clear M
  go_wp2_with fail
  refine (SAA.out).mono ?_
  rintro e w' ⟨rfl, rfl⟩
  go_wp2_with fail
  refine (SAB.out).mono ?_
  rintro e w' ⟨rfl, rfl⟩
  go_wp2_with fail
  refine (SBA.out).mono ?_
  rintro e w' ⟨rfl, rfl⟩
  go_wp2_with fail
  refine (SAB.out).mono ?_
  rintro e w' ⟨rfl, rfl⟩
  go_wp2_with fail
  refine (SBC.out).mono ?_
  rintro e w' ⟨rfl, rfl⟩
  go_wp2_with fail
  refine (SAC.out).mono ?_
  rintro e w' ⟨rfl, rfl⟩
  go_wp2_with fail
  refine (CAB.out).mono ?_
  rintro e w' ⟨rfl, rfl⟩
  go_wp2_with fail
  refine (CBA.out).mono ?_
  rintro e w' ⟨rfl, rfl⟩
  go_wp2_with fail
  refine (CAC.out).mono ?_
  rintro e w' ⟨rfl, rfl⟩
  go_wp2_with fail
  refine (CAB.out).mono ?_
  rintro e w' ⟨rfl, rfl⟩
  go_wp2_with fail
  refine (CBC.out).mono ?_
  rintro e w' ⟨rfl, rfl⟩
  go_wp2_with fail
  all_goals
    first
    | (exfalso; omega)
    | (refine (SN.out).mono ?_
       rintro e w' ⟨rfl, hbl⟩
       go_wp2_with fail
       go_ret
       exact ⟨rfl, hbl⟩)
theorem equivalence_walk (a b c : Nat) (level : Int) (w : World) (ha : a < 4294967296) (hb : b < 4294967296) (hc : c < 4294967296) (hT : Deb w) :
    Calls Tryd.prog 13 #[.int .u32 (a : Int), .int .u32 (b : Int), .int .u32 (c : Int), .int .i64 level] w (LawP w) := by
  have h0 : 0 ≤ level % 17 := by omega
  have h1 : level % 17 ≤ 16 := by omega
  obtain ⟨h, hh⟩ : ∃ h, level % 17 = h := ⟨_, rfl⟩
  rw [hh] at h0 h1
  have SAA := same_any a a h w ha ha hT
  have SAB := same_any a b h w ha hb hT
  have SBA := same_any b a h w hb ha hT
  have SBC := same_any b c h w hb hc hT
  have SAC := same_any a c h w ha hc hT
  have SAB1 := same_any a b (h - 1) w ha hb hT
  have CAB := common_any a b w ha hb hT
  have CBA := common_any b a w hb ha hT
  have CAC := common_any a c w ha hc hT
  have CBC := common_any b c w hb hc hT
  have SN := sane4_any w hT
  rw [cm_self] at SAA
  rw [cm_comm b a] at SBA CBA
  have tri := cm_tri ha hb hc
  generalize cm a b = x at *
  generalize cm b c = y at *
  generalize cm a c = z at *
  rw [show decide (h ≤ ((16 : Nat) : Int)) = true by simp; omega] at SAA
  rcases Int.lt_or_eq_of_le h0 with h0' | rfl
  · by_cases hx : h ≤ (x : Int)
    · rw [show decide (h ≤ (x : Int)) = true by simpa using hx] at SAB SBA
      rw [show decide (h - 1 ≤ (x : Int)) = true by simp; omega] at SAB1
      by_cases hy : h ≤ (y : Int)
      · rw [show decide (h ≤ (y : Int)) = true by simpa using hy] at SBC
        rw [show decide (h ≤ (z : Int)) = true by simp; omega] at SAC
        exact eq_p1 a b c x y z level h w hh h0' h1 tri (Lib.hid SAA) (Lib.hid SAB) (Lib.hid SBA) (Lib.hid SBC) (Lib.hid SAC) (Lib.hid SAB1) (Lib.hid CAB) (Lib.hid CBA) (Lib.hid CAC) (Lib.hid CBC) (Lib.hid SN)
      · rw [show decide (h ≤ (y : Int)) = false by simpa using hy] at SBC
        exact eq_p2 a b c x y z level h w hh h0' h1 tri (Lib.hid SAA) (Lib.hid SAB) (Lib.hid SBA) (Lib.hid SBC) (Lib.hid SAB1) (Lib.hid CAB) (Lib.hid CBA) (Lib.hid CAC) (Lib.hid CBC) (Lib.hid SN)
    · rw [show decide (h ≤ (x : Int)) = false by simpa using hx] at SAB SBA
      exact eq_p3 a b c x y z level h w hh h0' h1 tri (Lib.hid SAA) (Lib.hid SAB) (Lib.hid SBA) (Lib.hid CAB) (Lib.hid CBA) (Lib.hid CAC) (Lib.hid CBC) (Lib.hid SN)
  · rw [show decide (0 ≤ (x : Int)) = true by simp] at SAB SBA
    rw [show decide (0 ≤ (y : Int)) = true by simp] at SBC
    rw [show decide (0 ≤ (z : Int)) = true by simp] at SAC
    exact eq_p0 a b c x y z level w hh tri (Lib.hid SAA) (Lib.hid SAB) (Lib.hid SBA) (Lib.hid SBC) (Lib.hid SAC) (Lib.hid CAB) (Lib.hid CBA) (Lib.hid CAC) (Lib.hid CBC) (Lib.hid SN)
end Go.Proofs.YtlnmpiigmedgkaaDoor
