/-
  field of the reference of chapter 2: the field at the beginning of some bytes. Condition: the bytes can be read; the column is valid.
-/
import Derived.Test.YtlnmpiigmedgkaaDoorKrC
import Derived.Test.YtlnmpiigmedgkaaDoorKcG
namespace Go.Proofs.YtlnmpiigmedgkaaDoor
open Go.RowKit

/-- A field at the beginning of bytes, however long its text is. -/
def mkX : Option (List UInt8 × Nat) → Option (Fd × Nat)
  | some (t, n) => some (⟨2, 0, ⟨t.toArray⟩⟩, n)
  | none => none
def decX0 (l : List UInt8) : Option (Fd × Nat) := mkX (decT 1 [] (l.drop 1))
def decF0 (kind : Int) : List UInt8 → Option (Fd × Nat)
  | [] => none
  | c :: r => if c = 1 then some (Fd.zero, 1)
    else if c = 2 ∧ kind = 1 then decI (c :: r)
    else if c = 3 ∧ kind = 2 then decX0 (c :: r)
    else none
theorem decF0_at (kind : Int) (c : UInt8) (r : List UInt8) : decF0 kind (c :: r) = if c = 1 then some (Fd.zero, 1) else if c = 2 ∧ kind = 1 then decI (c :: r) else if c = 3 ∧ kind = 2 then decX0 (c :: r) else none := rfl
/-- decFd is decF0 with the text's length looked at. -/
theorem decFd_lim (kind : Int) (l : List UInt8) : decFd kind l = match decF0 kind l with
    | some (f, n) => if f.text.size ≤ 16 then some (f, n) else none
    | none => none := by
  cases l with
  | nil => rfl
  | cons c r =>
    rw [decFd_cons, decF0_at]
    by_cases h1 : c = 1
    · rw [if_pos h1, if_pos h1]; rfl
    · rw [if_neg h1, if_neg h1]
      by_cases h2 : c = 2 ∧ kind = 1
      · rw [if_pos h2, if_pos h2]
        unfold decI
        split <;> rfl
      · rw [if_neg h2, if_neg h2]
        by_cases h3 : c = 3 ∧ kind = 2
        · rw [if_pos h3, if_pos h3]
          unfold decX decX0
          cases decT 1 [] ((c :: r).drop 1) with
          | none => rfl
          | some p => rfl
        · rw [if_neg h3, if_neg h3]

set_option maxRecDepth 100000 in
set_option maxHeartbeats 3200000 in
theorem rfield_none (yk : Int) (yd : Bool) (A : Option Addr) (x : UInt8) (r : List UInt8) (c : Nat) (w : World) (hl : Bys w w.heap.size A (x :: r)) (hn : (x :: r).length ≤ 1000000000) (h1 : ((x.toNat : Int) == 1) = false) (h2 : ((x.toNat : Int) == 2) = false ∨ (yk == 1) = false ∨ ((x.toNat : Int) == 2) = true ∧ (yk == 1) = true ∧ (x :: r).length < 9) (h3 : ((x.toNat : Int) == 3) = false ∨ (yk == 2) = false) :
    Calls Tryd.prog 77 #[.agg #[.int .i64 yk, .bool yd], .slice A (x :: r).length c] w (FdP none w) := by
  obtain ⟨b, o, rfl, hb, hcell⟩ := hl (by simp)
  have hbA := ((Below.refl w.heap.size w).alloc (Nat.le_refl _) (.cells #[.int .i64 yk, .bool yd] 33)).alloc (by simp) (.cells #[.int .i64 0, .int .i64 0, .string ⟨#[]⟩] 98)
  have hC0 : Has ((w.alloc (.cells #[.int .i64 yk, .bool yd] 33)).alloc (.cells #[.int .i64 0, .int .i64 0, .string ⟨#[]⟩] 98)) w.heap.size 33 #[.int .i64 yk, .bool yd] := (Has.new w 33 #[.int .i64 yk, .bool yd]).alloc _
  have hP0 : Has ((w.alloc (.cells #[.int .i64 yk, .bool yd] 33)).alloc (.cells #[.int .i64 0, .int .i64 0, .string ⟨#[]⟩] 98)) (w.heap.size + 1) 98 #[.int .i64 0, .int .i64 0, .string ⟨#[]⟩] := by
    have h := Has.new (w.alloc (.cells #[.int .i64 yk, .bool yd] 33)) 98 #[.int .i64 0, .int .i64 0, .string ⟨#[]⟩]
    rw [World.size_alloc] at h
    exact h
  have hsz : ((w.alloc (.cells #[.int .i64 yk, .bool yd] 33)).alloc (.cells #[.int .i64 0, .int .i64 0, .string ⟨#[]⟩] 98)).heap.size = w.heap.size + 2 := by rw [World.size_alloc, World.size_alloc]
  have hx0 : ((w.alloc (.cells #[.int .i64 yk, .bool yd] 33)).alloc (.cells #[.int .i64 0, .int .i64 0, .string ⟨#[]⟩] 98)).cell? ⟨b, o, none⟩ = some (.int .u8 (x.toNat : Int)) := (hbA.cell (p := ⟨b, o, none⟩) hb).trans (hcell 0 (by simp))
  have q0 := hC0.cell 0
  have p0 : ((w.alloc (.cells #[.int .i64 yk, .bool yd] 33)).alloc (.cells #[.int .i64 0, .int .i64 0, .string ⟨#[]⟩] 98)).cell? ⟨w.heap.size + 1, 0, none⟩ = some (.int .i64 0) := hP0.cell 0
  have p1 : ((w.alloc (.cells #[.int .i64 yk, .bool yd] 33)).alloc (.cells #[.int .i64 0, .int .i64 0, .string ⟨#[]⟩] 98)).cell? ⟨w.heap.size + 1, 1, none⟩ = some (.int .i64 0) := hP0.cell 1
  have p2 : ((w.alloc (.cells #[.int .i64 yk, .bool yd] 33)).alloc (.cells #[.int .i64 0, .int .i64 0, .string ⟨#[]⟩] 98)).cell? ⟨w.heap.size + 1, 2, none⟩ = some (.string ⟨#[]⟩) := hP0.cell 2
  have pf : ∀ o, ((w.alloc (.cells #[.int .i64 yk, .bool yd] 33)).alloc (.cells #[.int .i64 0, .int .i64 0, .string ⟨#[]⟩] 98)).frozen? ⟨w.heap.size + 1, o, none⟩ = false := fun o => hP0.frozen o
  have hln : 1 ≤ (x :: r).length := by simp
  obtain ⟨n, hn2⟩ : ∃ n, n = (x :: r).length := ⟨_, rfl⟩
  rw [← hn2] at hn hln ⊢
  have HN := Lib.hid hn2
  have hne : ((n : Int) == 0) = false := by rw [beq_eq_false_iff_ne]; omega
  have i0 : (0 : Int) < (n : Int) := by omega
  clear hn2
  clear hl hcell
  have hlt : ((x.toNat : Int) == 2) = true ∧ (yk == 1) = true ∧ (x :: r).length < 9 → decide ((9 : Int) ≤ (n : Int)) = false ∧ ¬ ((9 : Int) ≤ (n : Int)) := fun h => by
    have := HN.out
    have h4 : ¬ ((9 : Int) ≤ (n : Int)) := by omega
    exact ⟨decide_eq_false h4, h4⟩
  have HLT := Lib.hid hlt
  clear hlt
  cases e2 : ((x.toNat : Int) == 2) <;> cases e3 : ((x.toNat : Int) == 3) <;> cases k1 : (yk == 1) <;> cases k2 : (yk == 2)
  all_goals first
    | (exfalso; rw [e2, k1] at h2; simp at h2; done)
    | (exfalso; rw [e3, k2] at h3; simp at h3; done)
    | (exfalso; rw [beq_iff_eq] at e2 e3; omega)
    | (exfalso; rw [beq_iff_eq] at k1 k2; omega)
    | skip
  all_goals
    rw [e2, k1] at h2 HLT
    rw [e3, k2] at h3
    try simp only [Bool.true_eq_false, Bool.false_eq_true, false_or, or_false, true_and, false_and, and_self, or_self] at h2 h3
    have hk := HLT.out
    first
    | (have hk9 := hk ⟨rfl, rfl, h2⟩
       obtain ⟨g1, g2⟩ := hk9
       clear hk HLT h2 h3
       go_enter Tryd.func77, Tryd.ntmps77
       go_wp2_with fail
       refine bodyPost_ret (v := .tuple #[.agg #[.int .i64 0, .int .i64 0, .string ⟨#[]⟩], .int .i64 0]) (by simp [results, Tryd.results77, go_sem, *]) rfl ⟨rfl, ((Below.refl _ _).alloc (Nat.le_refl _) _).alloc (by simp) _⟩)
    | (clear hk HLT h2 h3
       go_enter Tryd.func77, Tryd.ntmps77
       go_wp2_with fail
       refine bodyPost_ret (v := .tuple #[.agg #[.int .i64 0, .int .i64 0, .string ⟨#[]⟩], .int .i64 0]) (by simp [results, Tryd.results77, go_sem, *]) rfl ⟨rfl, ((Below.refl _ _).alloc (Nat.le_refl _) _).alloc (by simp) _⟩)

set_option maxRecDepth 100000 in
set_option maxHeartbeats 3200000 in
theorem rfield_null (yk : Int) (yd : Bool) (A : Option Addr) (x : UInt8) (r : List UInt8) (c : Nat) (w : World) (hl : Bys w w.heap.size A (x :: r)) (hn : (x :: r).length ≤ 1000000000) (h1 : ((x.toNat : Int) == 1) = true) :
    Calls Tryd.prog 77 #[.agg #[.int .i64 yk, .bool yd], .slice A (x :: r).length c] w (FdP (some (Fd.zero, 1)) w) := by
  obtain ⟨b, o, rfl, hb, hcell⟩ := hl (by simp)
  have hbA := ((Below.refl w.heap.size w).alloc (Nat.le_refl _) (.cells #[.int .i64 yk, .bool yd] 33)).alloc (by simp) (.cells #[.int .i64 0, .int .i64 0, .string ⟨#[]⟩] 98)
  have hC0 : Has ((w.alloc (.cells #[.int .i64 yk, .bool yd] 33)).alloc (.cells #[.int .i64 0, .int .i64 0, .string ⟨#[]⟩] 98)) w.heap.size 33 #[.int .i64 yk, .bool yd] := (Has.new w 33 #[.int .i64 yk, .bool yd]).alloc _
  have hP0 : Has ((w.alloc (.cells #[.int .i64 yk, .bool yd] 33)).alloc (.cells #[.int .i64 0, .int .i64 0, .string ⟨#[]⟩] 98)) (w.heap.size + 1) 98 #[.int .i64 0, .int .i64 0, .string ⟨#[]⟩] := by
    have h := Has.new (w.alloc (.cells #[.int .i64 yk, .bool yd] 33)) 98 #[.int .i64 0, .int .i64 0, .string ⟨#[]⟩]
    rw [World.size_alloc] at h
    exact h
  have hsz : ((w.alloc (.cells #[.int .i64 yk, .bool yd] 33)).alloc (.cells #[.int .i64 0, .int .i64 0, .string ⟨#[]⟩] 98)).heap.size = w.heap.size + 2 := by rw [World.size_alloc, World.size_alloc]
  have hx0 : ((w.alloc (.cells #[.int .i64 yk, .bool yd] 33)).alloc (.cells #[.int .i64 0, .int .i64 0, .string ⟨#[]⟩] 98)).cell? ⟨b, o, none⟩ = some (.int .u8 (x.toNat : Int)) := (hbA.cell (p := ⟨b, o, none⟩) hb).trans (hcell 0 (by simp))
  have q0 := hC0.cell 0
  have p0 : ((w.alloc (.cells #[.int .i64 yk, .bool yd] 33)).alloc (.cells #[.int .i64 0, .int .i64 0, .string ⟨#[]⟩] 98)).cell? ⟨w.heap.size + 1, 0, none⟩ = some (.int .i64 0) := hP0.cell 0
  have p1 : ((w.alloc (.cells #[.int .i64 yk, .bool yd] 33)).alloc (.cells #[.int .i64 0, .int .i64 0, .string ⟨#[]⟩] 98)).cell? ⟨w.heap.size + 1, 1, none⟩ = some (.int .i64 0) := hP0.cell 1
  have p2 : ((w.alloc (.cells #[.int .i64 yk, .bool yd] 33)).alloc (.cells #[.int .i64 0, .int .i64 0, .string ⟨#[]⟩] 98)).cell? ⟨w.heap.size + 1, 2, none⟩ = some (.string ⟨#[]⟩) := hP0.cell 2
  have pf : ∀ o, ((w.alloc (.cells #[.int .i64 yk, .bool yd] 33)).alloc (.cells #[.int .i64 0, .int .i64 0, .string ⟨#[]⟩] 98)).frozen? ⟨w.heap.size + 1, o, none⟩ = false := fun o => hP0.frozen o
  have hln : 1 ≤ (x :: r).length := by simp
  obtain ⟨n, hn2⟩ : ∃ n, n = (x :: r).length := ⟨_, rfl⟩
  rw [← hn2] at hn hln ⊢
  have HN := Lib.hid hn2
  have hne : ((n : Int) == 0) = false := by rw [beq_eq_false_iff_ne]; omega
  have i0 : (0 : Int) < (n : Int) := by omega
  clear hn2
  clear hl hcell
  go_enter Tryd.func77, Tryd.ntmps77
  go_wp2_with fail
  refine bodyPost_ret (v := .tuple #[.agg #[.int .i64 0, .int .i64 0, .string ⟨#[]⟩], .int .i64 1]) (by simp [results, Tryd.results77, go_sem, *]) rfl ⟨rfl, ((Below.refl _ _).alloc (Nat.le_refl _) _).alloc (by simp) _⟩

set_option maxRecDepth 100000 in
set_option maxHeartbeats 3200000 in
theorem rfield_int (yd : Bool) (A : Option Addr) (x : UInt8) (r : List UInt8) (c : Nat) (w : World) (hl : Bys w w.heap.size A (x :: r)) (hn : (x :: r).length ≤ 1000000000) (h1 : ((x.toNat : Int) == 1) = false) (h2 : ((x.toNat : Int) == 2) = true) (h9 : 9 ≤ (x :: r).length) :
    Calls Tryd.prog 77 #[.agg #[.int .i64 1, .bool yd], .slice A (x :: r).length c] w (FdP (some (⟨1, (val8 (((x :: r).drop 1).take 8) : Int) - 9223372036854775808, ⟨#[]⟩⟩, 9)) w) := by
  have hm9 : (((x :: r).drop 1).take 8).length = 8 := by simp at h9 ⊢; omega
  obtain ⟨m8, hm8⟩ : ∃ m8, m8 = ((x :: r).drop 1).take 8 := ⟨_, rfl⟩
  rw [← hm8] at hm9 ⊢
  obtain ⟨b, o, rfl, hb, hcell⟩ := hl (by simp)
  have hbA := ((Below.refl w.heap.size w).alloc (Nat.le_refl _) (.cells #[.int .i64 1, .bool yd] 33)).alloc (by simp) (.cells #[.int .i64 0, .int .i64 0, .string ⟨#[]⟩] 98)
  have hC0 : Has ((w.alloc (.cells #[.int .i64 1, .bool yd] 33)).alloc (.cells #[.int .i64 0, .int .i64 0, .string ⟨#[]⟩] 98)) w.heap.size 33 #[.int .i64 1, .bool yd] := (Has.new w 33 #[.int .i64 1, .bool yd]).alloc _
  have hP0 : Has ((w.alloc (.cells #[.int .i64 1, .bool yd] 33)).alloc (.cells #[.int .i64 0, .int .i64 0, .string ⟨#[]⟩] 98)) (w.heap.size + 1) 98 #[.int .i64 0, .int .i64 0, .string ⟨#[]⟩] := by
    have h := Has.new (w.alloc (.cells #[.int .i64 1, .bool yd] 33)) 98 #[.int .i64 0, .int .i64 0, .string ⟨#[]⟩]
    rw [World.size_alloc] at h
    exact h
  have hsz : ((w.alloc (.cells #[.int .i64 1, .bool yd] 33)).alloc (.cells #[.int .i64 0, .int .i64 0, .string ⟨#[]⟩] 98)).heap.size = w.heap.size + 2 := by rw [World.size_alloc, World.size_alloc]
  have hx0 : ((w.alloc (.cells #[.int .i64 1, .bool yd] 33)).alloc (.cells #[.int .i64 0, .int .i64 0, .string ⟨#[]⟩] 98)).cell? ⟨b, o, none⟩ = some (.int .u8 (x.toNat : Int)) := (hbA.cell (p := ⟨b, o, none⟩) hb).trans (hcell 0 (by simp))
  have q0 := hC0.cell 0
  have p0 : ((w.alloc (.cells #[.int .i64 1, .bool yd] 33)).alloc (.cells #[.int .i64 0, .int .i64 0, .string ⟨#[]⟩] 98)).cell? ⟨w.heap.size + 1, 0, none⟩ = some (.int .i64 0) := hP0.cell 0
  have p1 : ((w.alloc (.cells #[.int .i64 1, .bool yd] 33)).alloc (.cells #[.int .i64 0, .int .i64 0, .string ⟨#[]⟩] 98)).cell? ⟨w.heap.size + 1, 1, none⟩ = some (.int .i64 0) := hP0.cell 1
  have p2 : ((w.alloc (.cells #[.int .i64 1, .bool yd] 33)).alloc (.cells #[.int .i64 0, .int .i64 0, .string ⟨#[]⟩] 98)).cell? ⟨w.heap.size + 1, 2, none⟩ = some (.string ⟨#[]⟩) := hP0.cell 2
  have pf : ∀ o, ((w.alloc (.cells #[.int .i64 1, .bool yd] 33)).alloc (.cells #[.int .i64 0, .int .i64 0, .string ⟨#[]⟩] 98)).frozen? ⟨w.heap.size + 1, o, none⟩ = false := fun o => hP0.frozen o
  have hln : 1 ≤ (x :: r).length := by simp
  obtain ⟨n, hn2⟩ : ∃ n, n = (x :: r).length := ⟨_, rfl⟩
  rw [← hn2] at hn hln ⊢
  have HN := Lib.hid hn2
  have hne : ((n : Int) == 0) = false := by rw [beq_eq_false_iff_ne]; omega
  have i0 : (0 : Int) < (n : Int) := by omega
  clear hn2
  have hcell' : ∀ i (hi : i < 8), ((w.alloc (.cells #[.int .i64 1, .bool yd] 33)).alloc (.cells #[.int .i64 0, .int .i64 0, .string ⟨#[]⟩] 98)).cell? ⟨b, o + (i + 1), none⟩ = some (.int .u8 ((m8[i]'(by omega)).toNat : Int)) := fun i hi => by
    refine (hbA.cell (p := ⟨b, o + (i + 1), none⟩) hb).trans ?_
    rw [hcell (i + 1) (by have := HN.out; omega)]
    congr 3
    simp [hm8]
  have i1 : (9 : Int) ≤ (n : Int) := by have := HN.out; omega
  have HCA := Lib.hid hcell'
  clear hl hcell hcell' hm8 h9
  go_enter Tryd.func77, Tryd.ntmps77
  go_wp2_with fail
  go_loop [6, 7] (fun u i => ∃ k m : Nat, k ≤ 8 ∧ i = .int .i64 ((k + 1 : Nat) : Int) ∧ u = .int .u64 (m : Int) ∧ Hid (m = val8 (m8.take k))) (fun _ i => 9 - (intOf i).toNat)
  case atStart => exact ⟨0, 0, by omega, rfl, rfl, Lib.hid rfl⟩
  case round =>
    obtain ⟨k, m, hk, rfl, rfl, HM⟩ := hrel
    by_cases hlt : k < 8
    · have hx := HCA.out k hlt
      have hxs : val8 (m8.take (k + 1)) = m * 256 + (m8[k]'(by omega)).toNat := by
        rw [List.take_succ_eq_append_getElem (by omega), val8_snoc, HM.out]
      have hx8 := (m8[k]'(by omega)).toNat_lt
      obtain ⟨z, hxy⟩ : ∃ z : Nat, z = (m8[k]'(by omega)).toNat := ⟨_, rfl⟩
      rw [← hxy] at hx hx8 hxs
      have hm : m < 72057594037927936 := by
        have h1 := val8_lt (m8.take k)
        rw [← HM.out, List.length_take] at h1
        have h2 : 256 ^ (min k m8.length) ≤ 256 ^ 7 := Nat.pow_le_pow_right (by omega) (by omega)
        omega
      have ho := or_step hm hx8
      have HN2 := Lib.hid hxs
      have i3 : ((k + 1 : Nat) : Int) < 9 := by omega
      have i4 : (0 : Int) ≤ ((k + 1 : Nat) : Int) := by omega
      have i5 : ((k + 1 : Nat) : Int) < (n : Int) := by omega
      clear hxs hxy HM p0 p1 p2 pf
      go_wp2_with fail
      exact ⟨⟨k + 1, m * 256 + z, hlt, by go_num, by go_num, Lib.hid HN2.out.symm⟩, by simp [intOf]; omega⟩
    · have hk8 : k = 8 := by omega
      subst hk8
      have hm : m < 18446744073709551616 := by
        have h1 := val8_lt (m8.take 8)
        rw [← HM.out, List.length_take] at h1
        have h2 : 256 ^ (min 8 m8.length) ≤ 256 ^ 8 := Nat.pow_le_pow_right (by omega) (by omega)
        omega
      have ho := xor_back hm
      have HN2 : Hid (m = val8 m8) := Lib.hid (by rw [HM.out, List.take_of_length_le (by omega)])
      clear HM
      go_wp2_with fail
      rw [← HN2.out]
      refine bodyPost_ret (v := .tuple #[.agg #[.int .i64 1, .int .i64 ((m : Int) - 9223372036854775808), .string ⟨#[]⟩], .int .i64 9]) (by simp [results, Tryd.results77, go_sem, *]) rfl ⟨rfl, ((Below.refl _ _).alloc (Nat.le_refl _) _).alloc (by simp) _⟩

set_option maxRecDepth 100000 in
set_option maxHeartbeats 3200000 in
theorem rfield_text (yd : Bool) (A : Option Addr) (x : UInt8) (r : List UInt8) (c : Nat) (w : World) (hl : Bys w w.heap.size A (x :: r)) (hn : (x :: r).length ≤ 1000000000) (h1 : ((x.toNat : Int) == 1) = false) (h2 : ((x.toNat : Int) == 2) = false) (h3 : ((x.toNat : Int) == 3) = true) :
    Calls Tryd.prog 77 #[.agg #[.int .i64 2, .bool yd], .slice A (x :: r).length c] w (FdP (decX0 (x :: r)) w) := by
  obtain ⟨i0', hi0, hz0, hz1, hz2⟩ := info_parts infoByte
  obtain ⟨T, hT⟩ : ∃ T, T = decT 1 [] ((x :: r).drop 1) := ⟨_, rfl⟩
  have HT := Lib.hid hT
  have hR : decX0 (x :: r) = mkX T := by rw [hT]; rfl
  clear hT
  generalize decX0 (x :: r) = R at *
  have HR := Lib.hid hR
  clear hR
  obtain ⟨b, o, rfl, hb, hcell⟩ := hl (by simp)
  have hbA := ((Below.refl w.heap.size w).alloc (Nat.le_refl _) (.cells #[.int .i64 2, .bool yd] 33)).alloc (by simp) (.cells #[.int .i64 0, .int .i64 0, .string ⟨#[]⟩] 98)
  have hC0 : Has ((w.alloc (.cells #[.int .i64 2, .bool yd] 33)).alloc (.cells #[.int .i64 0, .int .i64 0, .string ⟨#[]⟩] 98)) w.heap.size 33 #[.int .i64 2, .bool yd] := (Has.new w 33 #[.int .i64 2, .bool yd]).alloc _
  have hP0 : Has ((w.alloc (.cells #[.int .i64 2, .bool yd] 33)).alloc (.cells #[.int .i64 0, .int .i64 0, .string ⟨#[]⟩] 98)) (w.heap.size + 1) 98 #[.int .i64 0, .int .i64 0, .string ⟨#[]⟩] := by
    have h := Has.new (w.alloc (.cells #[.int .i64 2, .bool yd] 33)) 98 #[.int .i64 0, .int .i64 0, .string ⟨#[]⟩]
    rw [World.size_alloc] at h
    exact h
  have hsz : ((w.alloc (.cells #[.int .i64 2, .bool yd] 33)).alloc (.cells #[.int .i64 0, .int .i64 0, .string ⟨#[]⟩] 98)).heap.size = w.heap.size + 2 := by rw [World.size_alloc, World.size_alloc]
  have hx0 : ((w.alloc (.cells #[.int .i64 2, .bool yd] 33)).alloc (.cells #[.int .i64 0, .int .i64 0, .string ⟨#[]⟩] 98)).cell? ⟨b, o, none⟩ = some (.int .u8 (x.toNat : Int)) := (hbA.cell (p := ⟨b, o, none⟩) hb).trans (hcell 0 (by simp))
  have q0 := hC0.cell 0
  have p0 : ((w.alloc (.cells #[.int .i64 2, .bool yd] 33)).alloc (.cells #[.int .i64 0, .int .i64 0, .string ⟨#[]⟩] 98)).cell? ⟨w.heap.size + 1, 0, none⟩ = some (.int .i64 0) := hP0.cell 0
  have p1 : ((w.alloc (.cells #[.int .i64 2, .bool yd] 33)).alloc (.cells #[.int .i64 0, .int .i64 0, .string ⟨#[]⟩] 98)).cell? ⟨w.heap.size + 1, 1, none⟩ = some (.int .i64 0) := hP0.cell 1
  have p2 : ((w.alloc (.cells #[.int .i64 2, .bool yd] 33)).alloc (.cells #[.int .i64 0, .int .i64 0, .string ⟨#[]⟩] 98)).cell? ⟨w.heap.size + 1, 2, none⟩ = some (.string ⟨#[]⟩) := hP0.cell 2
  have pf : ∀ o, ((w.alloc (.cells #[.int .i64 2, .bool yd] 33)).alloc (.cells #[.int .i64 0, .int .i64 0, .string ⟨#[]⟩] 98)).frozen? ⟨w.heap.size + 1, o, none⟩ = false := fun o => hP0.frozen o
  have hln : 1 ≤ (x :: r).length := by simp
  obtain ⟨n, hn2⟩ : ∃ n, n = (x :: r).length := ⟨_, rfl⟩
  rw [← hn2] at hn hln ⊢
  have HN := Lib.hid hn2
  have hne : ((n : Int) == 0) = false := by rw [beq_eq_false_iff_ne]; omega
  have i0 : (0 : Int) < (n : Int) := by omega
  clear hn2
  have hcellF : ∀ i (hi : i < (x :: r).length), w.cell? ⟨b, o + i, none⟩ = some (.int .u8 (((x :: r)[i]).toNat : Int)) := hcell
  obtain ⟨l, hle⟩ : ∃ l, l = x :: r := ⟨_, rfl⟩
  have HNL : Hid (n = l.length) := Lib.hid (by rw [hle]; exact HN.out)
  have hcl : ∀ i (hi : i < l.length), w.cell? ⟨b, o + i, none⟩ = some (.int .u8 ((l[i]).toNat : Int)) := by subst hle; exact hcellF
  have HT2 : Hid (T = decT 1 [] (l.drop 1)) := Lib.hid (by rw [hle]; exact HT.out)
  have HCL := Lib.hid hcl
  clear hl hcell hcellF hcl hle HN HT
  go_enter Tryd.func77, Tryd.ntmps77
  go_wp2_with fail
  have hbR := Below.refl (w.heap.size + 2) ((w.alloc (.cells #[.int .i64 2, .bool yd] 33)).alloc (.cells #[.int .i64 0, .int .i64 0, .string ⟨#[]⟩] 98))
  generalize hWa : ((w.alloc (.cells #[.int .i64 2, .bool yd] 33)).alloc (.cells #[.int .i64 0, .int .i64 0, .string ⟨#[]⟩] 98)) = wa at *
  clear hWa
  go_loopw [8, 9] (fun s i wr => ∃ (A1 : Option Addr) (c1 k : Nat) (t : List UInt8), s = .slice A1 t.length c1 ∧ 1 ≤ k ∧ k ≤ n + 1 ∧ i = .int .i64 (k : Int) ∧ OwnB wr (w.heap.size + 2) (.slice A1 t.length c1) t ∧ Below (w.heap.size + 2) wa wr ∧ t.length ≤ k ∧ Hid (decT k t (l.drop k) = T)) (fun _ i _ => n + 1 - (intOf i).toNat)
  case atStart => exact ⟨none, 0, 1, [], rfl, by omega, by omega, rfl, OwnB.nil _ _, hbR, by simp, Lib.hid HT2.out.symm⟩
  case round =>
    obtain ⟨A1, c1, k, t, rfl, hk1, hk, rfl, ho1, hB, htk, HD⟩ := hrel
    have hbs : w.heap.size + 2 ≤ wr.heap.size := by have := hB.size; omega
    have hP : Has wr (w.heap.size + 1) 98 #[.int .i64 0, .int .i64 0, .string ⟨#[]⟩] := (hB.block _ (Nat.lt_succ_self _)).trans hP0
    have hBw : Below w.heap.size w wr := hbA.trans (hB.mono (by omega))
    clear p0 p1 p2 pf hx0 q0
    have p0 : wr.cell? ⟨w.heap.size + 1, 0, none⟩ = some (.int .i64 0) := hP.cell 0
    have p1 : wr.cell? ⟨w.heap.size + 1, 1, none⟩ = some (.int .i64 0) := hP.cell 1
    have p2 : wr.cell? ⟨w.heap.size + 1, 2, none⟩ = some (.string ⟨#[]⟩) := hP.cell 2
    have pf : ∀ o, wr.frozen? ⟨w.heap.size + 1, o, none⟩ = false := fun o => hP.frozen o
    have ht9 : t.length ≤ 1000000001 := by omega
    by_cases hlt : k + 1 < n
    · have j1 : (k : Int) + 1 < (n : Int) := by omega
      have j2 : (k : Int) < (n : Int) := by omega
      have hll : k + 1 < l.length := by rw [← HNL.out]; exact hlt
      have hx := (hBw.cell (p := ⟨b, o + k, none⟩) hb).trans (HCL.out k (by omega))
      have hy := (hBw.cell (p := ⟨b, o + (k + 1), none⟩) hb).trans (HCL.out (k + 1) hll)
      have hd := HD.out
      rw [List.drop_eq_getElem_cons (show k < l.length by omega), List.drop_eq_getElem_cons hll] at hd
      have hdy : l.drop (k + 1) = l[k + 1] :: l.drop (k + 1 + 1) := List.drop_eq_getElem_cons hll
      generalize l[k] = z at *
      generalize l[k + 1] = y at *
      have hx8 := z.toNat_lt
      have hy8 := y.toNat_lt
      unfold decT at hd
      have HDY := Lib.hid hdy
      clear hdy HD hll
      by_cases hz0' : z = 0
      · have t0 : ((z.toNat : Int) != 0) = false := by
          have := (u8_int z 0 (by omega)).2 hz0'
          simpa using this
        rw [if_neg (fun h => h hz0')] at hd
        by_cases hy1 : y = 1
        · have t2 : ((y.toNat : Int) == 1) = true := (u8_int y 1 (by omega)).2 hy1
          rw [if_neg (by rw [hy1]; decide), if_pos hy1] at hd
          have HN2 := Lib.hid hd
          obtain ⟨A3, c3, e3, -, -, hby⟩ := ho1.read
          injection e3 with e3 _ e4
          subst e3 e4
          have hcv := run_str (P := Tryd.prog) wr _ A1 t c1 hby 58 9 Tryd.underlying58 Tryd.underlying5 Tryd.underlying9
          obtain ⟨q, hq⟩ : ∃ q : ByteArray, q = ⟨t.toArray⟩ := ⟨_, rfl⟩
          rw [← hq] at hcv
          have HX : Hid (R = some (⟨2, 0, q⟩, k + 2)) := Lib.hid (by rw [HR.out, ← HN2.out, hq]; rfl)
          clear hd hz0' hy1 hq hby
          go_wp2_with fail
          refine bodyPost_ret (v := .tuple #[.agg #[.int .i64 2, .int .i64 0, .string q], .int .i64 (k + 2 : Int)]) (by simp [results, Tryd.results77, go_sem, *]) rfl ⟨by rw [HX.out]; rfl, ((hBw.setCell (p := ⟨w.heap.size + 1, 0, none⟩) (Nat.le_succ _) _).setCell (p := ⟨w.heap.size + 1, 1, none⟩) (Nat.le_succ _) _).setCell (p := ⟨w.heap.size + 1, 2, none⟩) (Nat.le_succ _) _⟩
        · have t2 : ((y.toNat : Int) == 1) = false := by rw [← Bool.not_eq_true]; exact fun h => hy1 ((u8_int y 1 (by omega)).1 h)
          by_cases hy255 : y = 255
          · have t1 : ((y.toNat : Int) != 255) = false := by
              have := (u8_int y 255 (by omega)).2 hy255
              simpa using this
            rw [if_pos hy255] at hd
            have HN2 := Lib.hid hd
            clear hd hz0' hy255 hy1
            go_wp2_with (at_builtin; refine wpList_push1 rfl _ _ 58 rfl (w.heap.size + 2) i0' Tryd.underlying58 hi0 hz0 hz1 hz2 (.slice A1 t.length c1) t wr 0 _ rfl rfl ho1 rfl (by omega) hbs ?_; intro v2 w2 ho2 hp2)
            have hB2 := hB.trans (hp2.below ho1 hbs)
            obtain ⟨A2, c2, rfl, -, -, -⟩ := ho2.read
            exact ⟨⟨A2, c2, k + 2, t ++ [0], rfl, by omega, by omega, by go_num, ho2, hB2, by simp; omega, Lib.hid HN2.out⟩, by simp [intOf]; omega⟩
          · have t1 : ((y.toNat : Int) != 255) = true := by
              have h9 : ((y.toNat : Int) == 255) = false := by rw [← Bool.not_eq_true]; exact fun h => hy255 ((u8_int y 255 (by omega)).1 h)
              simpa using h9
            rw [if_neg hy255, if_neg hy1] at hd
            have HX : Hid (R = none) := Lib.hid (by rw [HR.out, ← hd]; rfl)
            clear hd hz0' hy255 hy1
            go_wp2_with fail
            refine bodyPost_ret (v := .tuple #[.agg #[.int .i64 0, .int .i64 0, .string ⟨#[]⟩], .int .i64 0]) (by simp [results, Tryd.results77, go_sem, *]) rfl ⟨by rw [HX.out]; rfl, ((hBw.setCell (p := ⟨w.heap.size + 1, 0, none⟩) (Nat.le_succ _) _).setCell (p := ⟨w.heap.size + 1, 1, none⟩) (Nat.le_succ _) _).setCell (p := ⟨w.heap.size + 1, 2, none⟩) (Nat.le_succ _) _⟩
      · have t0 : ((z.toNat : Int) != 0) = true := by
          have h9 : ((z.toNat : Int) == 0) = false := by rw [← Bool.not_eq_true]; exact fun h => hz0' ((u8_int z 0 (by omega)).1 h)
          simpa using h9
        rw [if_pos hz0'] at hd
        have HN2 := Lib.hid hd
        clear hd hz0'
        go_wp2_with (at_builtin; refine wpList_push1 rfl _ _ 58 rfl (w.heap.size + 2) i0' Tryd.underlying58 hi0 hz0 hz1 hz2 (.slice A1 t.length c1) t wr z _ rfl rfl ho1 rfl (by omega) hbs ?_; intro v2 w2 ho2 hp2)
        have hB2 := hB.trans (hp2.below ho1 hbs)
        obtain ⟨A2, c2, rfl, -, -, -⟩ := ho2.read
        exact ⟨⟨A2, c2, k + 1, t ++ [z], rfl, by omega, by omega, by go_num, ho2, hB2, by simp; omega, Lib.hid (by rw [HDY.out]; exact HN2.out)⟩, by simp [intOf]; omega⟩
    · have hnone : T = none := by
        rw [← HD.out]
        have : (l.drop k).length ≤ 1 := by have := HNL.out; simp; omega
        generalize l.drop k = l3 at this
        match l3, this with
        | [], _ => rfl
        | [_], _ => rfl
      have HX : Hid (R = none) := Lib.hid (by rw [HR.out, hnone]; rfl)
      have j1 : ¬ ((k : Int) + 1 < (n : Int)) := by omega
      clear hnone
      go_wp2_with fail
      refine bodyPost_ret (v := .tuple #[.agg #[.int .i64 0, .int .i64 0, .string ⟨#[]⟩], .int .i64 0]) (by simp [results, Tryd.results77, go_sem, *]) rfl ⟨by rw [HX.out]; rfl, ((hBw.setCell (p := ⟨w.heap.size + 1, 0, none⟩) (Nat.le_succ _) _).setCell (p := ⟨w.heap.size + 1, 1, none⟩) (Nat.le_succ _) _).setCell (p := ⟨w.heap.size + 1, 2, none⟩) (Nat.le_succ _) _⟩

theorem rfield_any (y : Col) (A : Option Addr) (l : List UInt8) (c : Nat) (w : World) (hl : Bys w w.heap.size A l) (hn : l.length ≤ 1000000000) (hy : y.ok = true) :
    Calls Tryd.prog 77 #[.agg #[.int .i64 y.kind, .bool y.desc], .slice A l.length c] w (FdP (decF0 y.kind l) w) := by
  obtain ⟨yk, yd⟩ := y
  have hyk : yk = 1 ∨ yk = 2 := by simp [Col.ok] at hy; exact hy
  cases l with
  | nil =>
    go_enter Tryd.func77, Tryd.ntmps77
    go_wp2_with fail
    refine bodyPost_ret (v := .tuple #[.agg #[.int .i64 0, .int .i64 0, .string ⟨#[]⟩], .int .i64 0]) (by simp [results, Tryd.results77, go_sem, *]) rfl ⟨rfl, ((Below.refl _ _).alloc (Nat.le_refl _) _).alloc (by simp) _⟩
  | cons x r =>
    simp only
    rw [decF0_at]
    by_cases h1 : x = 1
    · rw [if_pos h1]
      exact rfield_null yk yd A x r c w hl hn ((u8_int x 1 (by omega)).2 h1)
    · have g1 : ((x.toNat : Int) == 1) = false := by rw [← Bool.not_eq_true]; exact fun h => h1 ((u8_int x 1 (by omega)).1 h)
      rw [if_neg h1]
      by_cases h2 : x = 2
      · have g2 : ((x.toNat : Int) == 2) = true := (u8_int x 2 (by omega)).2 h2
        have g3 : ((x.toNat : Int) == 3) = false := by
          rw [beq_iff_eq] at g2
          rw [beq_eq_false_iff_ne]; omega
        rcases hyk with rfl | rfl
        · rw [if_pos ⟨h2, rfl⟩]
          by_cases h9 : 9 ≤ (x :: r).length
          · rw [show decI (x :: r) = some (⟨1, (val8 (((x :: r).drop 1).take 8) : Int) - 9223372036854775808, ⟨#[]⟩⟩, 9) from if_pos h9]
            exact rfield_int yd A x r c w hl hn g1 g2 h9
          · rw [show decI (x :: r) = none from if_neg h9]
            exact rfield_none 1 yd A x r c w hl hn g1 (.inr (.inr ⟨g2, rfl, by omega⟩)) (.inl g3)
        · rw [if_neg (fun h => absurd h.2 (by decide)), if_neg (fun h => absurd (h2.symm.trans h.1) (by decide))]
          exact rfield_none 2 yd A x r c w hl hn g1 (.inr (.inl rfl)) (.inl g3)
      · have g2 : ((x.toNat : Int) == 2) = false := by rw [← Bool.not_eq_true]; exact fun h => h2 ((u8_int x 2 (by omega)).1 h)
        rw [if_neg (fun h => h2 h.1)]
        by_cases h3 : x = 3
        · have g3 : ((x.toNat : Int) == 3) = true := (u8_int x 3 (by omega)).2 h3
          rcases hyk with rfl | rfl
          · rw [if_neg (fun h => absurd h.2 (by decide))]
            exact rfield_none 1 yd A x r c w hl hn g1 (.inl g2) (.inr rfl)
          · rw [if_pos ⟨h3, rfl⟩]
            exact rfield_text yd A x r c w hl hn g1 g2 g3
        · have g3 : ((x.toNat : Int) == 3) = false := by rw [← Bool.not_eq_true]; exact fun h => h3 ((u8_int x 3 (by omega)).1 h)
          rw [if_neg (fun h => h3 h.1)]
          exact rfield_none yk yd A x r c w hl hn g1 (.inl g2) (.inl g3)
end Go.Proofs.YtlnmpiigmedgkaaDoor
