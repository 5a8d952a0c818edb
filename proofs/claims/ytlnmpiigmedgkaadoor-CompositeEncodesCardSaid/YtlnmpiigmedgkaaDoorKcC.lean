/-
  The calls of package composite that append encodings of fields: in a row of the call's own, the field's bytes behind what was there. Conditions: the row is the call's own; at most 1,000,000 bytes.
-/
import Derived.Test.YtlnmpiigmedgkaaDoorKcA
import Derived.Test.YtlnmpiigmedgkaaDoorKbA
import Derived.Test.YtlnmpiigmedgkaaDoorKbP
namespace Go.Proofs.YtlnmpiigmedgkaaDoor
open Go.RowKit

/-- A row of the call's own that goes on from v. -/
def PutP (base : Nat) (v : Value) (l : List UInt8) (w : World) (e : Ending) (w' : World) : Prop := ∃ v', e = .returned v' ∧ OwnB w' base v' l ∧ Push w v w' v'
theorem putP_mk {base : Nat} {v v' : Value} {l : List UInt8} {w w' : World} (h : OwnB w' base v' l) (k : Push w v w' v') : PutP base v l w (.returned v') w' := ⟨v', rfl, h, k⟩

theorem xor_sign (a : Nat) (ha : a < 18446744073709551616) : a ^^^ 9223372036854775808 = (a + 9223372036854775808) % 18446744073709551616 := by
  have h1 : (a ^^^ 9223372036854775808) % 9223372036854775808 = a % 9223372036854775808 := by
    have := Nat.xor_mod_two_pow (a := a) (b := 9223372036854775808) (n := 63)
    rw [show (2 : Nat) ^ 63 = 9223372036854775808 from rfl, show 9223372036854775808 % 9223372036854775808 = 0 from rfl, Nat.xor_zero] at this
    exact this
  have h2 : (a ^^^ 9223372036854775808) / 9223372036854775808 = (a / 9223372036854775808) ^^^ 1 := by
    have := Nat.xor_div_two_pow (a := a) (b := 9223372036854775808) (n := 63)
    rw [show (2 : Nat) ^ 63 = 9223372036854775808 from rfl, show 9223372036854775808 / 9223372036854775808 = 1 from rfl] at this
    exact this
  have h3 : a / 9223372036854775808 = 0 ∨ a / 9223372036854775808 = 1 := by omega
  rcases h3 with h3 | h3
  · rw [h3, show 0 ^^^ 1 = 1 from rfl] at h2
    omega
  · rw [h3, show 1 ^^^ 1 = 0 from rfl] at h2
    omega
theorem sign_bits (n : Int) (h1 : -9223372036854775808 ≤ n) (h2 : n ≤ 9223372036854775807) : bits .xor .u64 (IntKind.u64.wrap n) 9223372036854775808 = ((n + 9223372036854775808).toNat : Int) := by
  have e : IntKind.u64.wrap n = (((n % 18446744073709551616).toNat : Nat) : Int) := by rw [IntKind.wrap_u64]; omega
  have hk := bits_xor_u64_nat (n % 18446744073709551616).toNat 9223372036854775808 (by omega) (by omega)
  rw [xor_sign _ (by omega)] at hk
  rw [e]
  refine hk.trans ?_
  omega
theorem two_new (w : World) (a b : UInt8) : Bys (w.alloc (.cells #[.int .u8 (a.toNat : Int), .int .u8 (b.toNat : Int)] 5)) (w.heap.size + 1) (some ⟨w.heap.size, 0, none⟩) [a, b] := fun _ => by
  refine ⟨_, 0, rfl, Nat.lt_succ_self _, fun i hi => ?_⟩
  rw [Nat.zero_add, (Has.new w 5 #[.int .u8 (a.toNat : Int), .int .u8 (b.toNat : Int)]).cell]
  match i, hi with
  | 0, _ | 1, _ => rfl
theorem be8 (m : Nat) : be m 8 = [UInt8.ofNat (m / 72057594037927936 % 256), UInt8.ofNat (m / 281474976710656 % 256), UInt8.ofNat (m / 1099511627776 % 256), UInt8.ofNat (m / 4294967296 % 256), UInt8.ofNat (m / 16777216 % 256), UInt8.ofNat (m / 65536 % 256), UInt8.ofNat (m / 256 % 256), UInt8.ofNat (m % 256)] := by
  simp [be, Nat.div_div_eq_div_mul]

set_option maxRecDepth 100000 in
set_option maxHeartbeats 3200000 in
theorem appendInt_c (base : Nat) (v : Value) (l : List UInt8) (n : Int) (w : World) (ho : OwnB w base v l) (hb : base ≤ w.heap.size) (hl : l.length ≤ 1000000) (h1 : -9223372036854775808 ≤ n) (h2 : n ≤ 9223372036854775807) :
    Calls Tryd.prog 121 #[v, .int .i64 n] w (PutP base v (l ++ encI n) w) := by
  obtain ⟨i0, hi0, hz0, hz1, hz2⟩ := info_parts infoByte
  obtain ⟨m, hm⟩ : ∃ m : Nat, m = (n + 9223372036854775808).toNat := ⟨_, rfl⟩
  have hsb := sign_bits n h1 h2
  rw [← hm] at hsb
  have HE := Lib.hid (show encI n = 2 :: be m 8 by rw [hm]; rfl)
  rw [be8] at HE
  have hm64 : m < 18446744073709551616 := by omega
  clear hm
  go_enter Tryd.func121, Tryd.ntmps121
  go_wp2_with (at_builtin; refine wpList_push1 rfl _ _ 58 rfl base i0 Tryd.underlying58 hi0 hz0 hz1 hz2 v l w 2 _ rfl rfl ho rfl (by omega) hb ?_; intro v1 w1 ho1 hp1)
  go_loopw [0, 13] (fun b i wr => ∃ (v1 : Value) (k : Nat), v1 = b ∧ k ≤ 8 ∧ i = .int .i64 (k : Int) ∧ OwnB wr base v1 (l ++ (2 :: (be m 8).take k)) ∧ Push w v wr v1) (fun _ i _ => 8 - (intOf i).toNat)
  case atStart => exact ⟨v1, 0, rfl, by omega, rfl, by rw [List.take_zero]; exact ho1, hp1⟩
  case round =>
    clear ho1 hp1
    obtain ⟨v1, k, rfl, hk, rfl, ho1, hp1⟩ := hrel
    have hbs := Nat.le_trans hb hp1.1.size
    have hlen : (l ++ (2 :: (be m 8).take k)).length ≤ 1000010 := by simp [be_len]; omega
    have hk' : k = 0 ∨ k = 1 ∨ k = 2 ∨ k = 3 ∨ k = 4 ∨ k = 5 ∨ k = 6 ∨ k = 7 ∨ k = 8 := by omega
    rcases hk' with rfl | rfl | rfl | rfl | rfl | rfl | rfl | rfl | rfl
    · go_wp2_with (at_builtin; refine wpList_push1 rfl _ _ 58 rfl base i0 Tryd.underlying58 hi0 hz0 hz1 hz2 v1 _ wr (UInt8.ofNat (m / 72057594037927936 % 256)) _ (by rw [toNat_ofNat8 (by omega)]; omega) rfl ho1 rfl (by omega) hbs ?_; intro v2 w2 ho2 hp2)
      exact ⟨⟨v2, 1, rfl, by omega, rfl, by have e : l ++ (2 :: (be m 8).take 1) = (l ++ (2 :: (be m 8).take 0)) ++ [UInt8.ofNat (m / 72057594037927936 % 256)] := (by rw [be8]; simp); rw [e]; exact ho2, hp1.trans hp2⟩, by simp [intOf]⟩
    · go_wp2_with (at_builtin; refine wpList_push1 rfl _ _ 58 rfl base i0 Tryd.underlying58 hi0 hz0 hz1 hz2 v1 _ wr (UInt8.ofNat (m / 281474976710656 % 256)) _ (by rw [toNat_ofNat8 (by omega)]; omega) rfl ho1 rfl (by omega) hbs ?_; intro v2 w2 ho2 hp2)
      exact ⟨⟨v2, 2, rfl, by omega, rfl, by have e : l ++ (2 :: (be m 8).take 2) = (l ++ (2 :: (be m 8).take 1)) ++ [UInt8.ofNat (m / 281474976710656 % 256)] := (by rw [be8]; simp); rw [e]; exact ho2, hp1.trans hp2⟩, by simp [intOf]⟩
    · go_wp2_with (at_builtin; refine wpList_push1 rfl _ _ 58 rfl base i0 Tryd.underlying58 hi0 hz0 hz1 hz2 v1 _ wr (UInt8.ofNat (m / 1099511627776 % 256)) _ (by rw [toNat_ofNat8 (by omega)]; omega) rfl ho1 rfl (by omega) hbs ?_; intro v2 w2 ho2 hp2)
      exact ⟨⟨v2, 3, rfl, by omega, rfl, by have e : l ++ (2 :: (be m 8).take 3) = (l ++ (2 :: (be m 8).take 2)) ++ [UInt8.ofNat (m / 1099511627776 % 256)] := (by rw [be8]; simp); rw [e]; exact ho2, hp1.trans hp2⟩, by simp [intOf]⟩
    · go_wp2_with (at_builtin; refine wpList_push1 rfl _ _ 58 rfl base i0 Tryd.underlying58 hi0 hz0 hz1 hz2 v1 _ wr (UInt8.ofNat (m / 4294967296 % 256)) _ (by rw [toNat_ofNat8 (by omega)]; omega) rfl ho1 rfl (by omega) hbs ?_; intro v2 w2 ho2 hp2)
      exact ⟨⟨v2, 4, rfl, by omega, rfl, by have e : l ++ (2 :: (be m 8).take 4) = (l ++ (2 :: (be m 8).take 3)) ++ [UInt8.ofNat (m / 4294967296 % 256)] := (by rw [be8]; simp); rw [e]; exact ho2, hp1.trans hp2⟩, by simp [intOf]⟩
    · go_wp2_with (at_builtin; refine wpList_push1 rfl _ _ 58 rfl base i0 Tryd.underlying58 hi0 hz0 hz1 hz2 v1 _ wr (UInt8.ofNat (m / 16777216 % 256)) _ (by rw [toNat_ofNat8 (by omega)]; omega) rfl ho1 rfl (by omega) hbs ?_; intro v2 w2 ho2 hp2)
      exact ⟨⟨v2, 5, rfl, by omega, rfl, by have e : l ++ (2 :: (be m 8).take 5) = (l ++ (2 :: (be m 8).take 4)) ++ [UInt8.ofNat (m / 16777216 % 256)] := (by rw [be8]; simp); rw [e]; exact ho2, hp1.trans hp2⟩, by simp [intOf]⟩
    · go_wp2_with (at_builtin; refine wpList_push1 rfl _ _ 58 rfl base i0 Tryd.underlying58 hi0 hz0 hz1 hz2 v1 _ wr (UInt8.ofNat (m / 65536 % 256)) _ (by rw [toNat_ofNat8 (by omega)]; omega) rfl ho1 rfl (by omega) hbs ?_; intro v2 w2 ho2 hp2)
      exact ⟨⟨v2, 6, rfl, by omega, rfl, by have e : l ++ (2 :: (be m 8).take 6) = (l ++ (2 :: (be m 8).take 5)) ++ [UInt8.ofNat (m / 65536 % 256)] := (by rw [be8]; simp); rw [e]; exact ho2, hp1.trans hp2⟩, by simp [intOf]⟩
    · go_wp2_with (at_builtin; refine wpList_push1 rfl _ _ 58 rfl base i0 Tryd.underlying58 hi0 hz0 hz1 hz2 v1 _ wr (UInt8.ofNat (m / 256 % 256)) _ (by rw [toNat_ofNat8 (by omega)]; omega) rfl ho1 rfl (by omega) hbs ?_; intro v2 w2 ho2 hp2)
      exact ⟨⟨v2, 7, rfl, by omega, rfl, by have e : l ++ (2 :: (be m 8).take 7) = (l ++ (2 :: (be m 8).take 6)) ++ [UInt8.ofNat (m / 256 % 256)] := (by rw [be8]; simp); rw [e]; exact ho2, hp1.trans hp2⟩, by simp [intOf]⟩
    · go_wp2_with (at_builtin; refine wpList_push1 rfl _ _ 58 rfl base i0 Tryd.underlying58 hi0 hz0 hz1 hz2 v1 _ wr (UInt8.ofNat (m % 256)) _ (by rw [toNat_ofNat8 (by omega)]; omega) rfl ho1 rfl (by omega) hbs ?_; intro v2 w2 ho2 hp2)
      exact ⟨⟨v2, 8, rfl, by omega, rfl, by have e : l ++ (2 :: (be m 8).take 8) = (l ++ (2 :: (be m 8).take 7)) ++ [UInt8.ofNat (m % 256)] := (by rw [be8]; simp); rw [e]; exact ho2, hp1.trans hp2⟩, by simp [intOf]⟩
    · go_wp2_with fail
      go_ret
      have e : (be m 8).take 8 = be m 8 := List.take_of_length_le (by rw [be_len]; omega)
      rw [HE.out, ← be8, ← e]
      exact putP_mk ho1 hp1

set_option maxRecDepth 100000 in
set_option maxHeartbeats 3200000 in
theorem appendText_c (base : Nat) (v : Value) (l : List UInt8) (t : ByteArray) (w : World) (ho : OwnB w base v l) (hb : base ≤ w.heap.size) (hl : l.length ≤ 1000000) (ht : t.size ≤ 1000) :
    Calls Tryd.prog 122 #[v, .string t] w (PutP base v (l ++ encT t.data.toList) w) := by
  obtain ⟨i0, hi0, hz0, hz1, hz2⟩ := info_parts infoByte
  go_enter Tryd.func122, Tryd.ntmps122
  go_wp2_with (at_builtin; refine wpList_push1 rfl _ _ 58 rfl base i0 Tryd.underlying58 hi0 hz0 hz1 hz2 v l w 3 _ rfl rfl ho rfl (by omega) hb ?_; intro v1 w1 ho1 hp1)
  go_loopw [0, 11] (fun b i wr => ∃ (v1 : Value) (k : Nat) (l1 : List UInt8), v1 = b ∧ k ≤ t.size ∧ i = .int .i64 (k : Int) ∧ OwnB wr base v1 l1 ∧ Push w v wr v1 ∧ Hid (l1 = l ++ (3 :: esc (t.data.toList.take k))) ∧ l1.length ≤ 1000001 + 2 * k) (fun _ i _ => t.size - (intOf i).toNat)
  case atStart => exact ⟨v1, 0, _, rfl, by omega, rfl, ho1, hp1, Lib.hid (by simp [esc]), by simp; omega⟩
  case round =>
    clear ho1 hp1
    obtain ⟨v1, k, l1, rfl, hk, rfl, ho1, hp1, HL, hlen⟩ := hrel
    have hbs := Nat.le_trans hb hp1.1.size
    by_cases hlt : k < t.size
    · have hts : t.data.toList.take (k + 1) = t.data.toList.take k ++ [t[k]] := by
        rw [List.take_succ_eq_append_getElem (show k < t.data.toList.length from hlt)]; rfl
      have HT := Lib.hid hts
      have hx := (t[k]).toNat_lt
      have he := esc_append (t.data.toList.take k) [t[k]]
      rw [← hts] at he
      by_cases h0 : t[k] = 0
      · have ht0 : ((t[k].toNat : Int) == 0) = true := by rw [h0]; rfl
        have he1 : esc [t[k]] = [t[k], 255] := by rw [h0]; rfl
        rw [he1] at he
        have HE := Lib.hid he
        clear hts h0 he he1
        go_wp2_with (first | (at_builtin; refine wpList_push1 rfl _ _ 58 rfl base i0 Tryd.underlying58 hi0 hz0 hz1 hz2 v1 l1 wr (t[k]) _ rfl rfl ho1 rfl (by omega) hbs ?_; intro v2 w2 ho2 hp2) | (at_builtin; refine wpList_push1 rfl _ _ 58 rfl base i0 Tryd.underlying58 hi0 hz0 hz1 hz2 v2 _ w2 255 _ rfl rfl ho2 rfl (by rw [List.length_append]; simp; omega) (Nat.le_trans hbs hp2.1.size) ?_; intro v3 w3 ho3 hp3))
        refine ⟨⟨v3, k + 1, _, rfl, hlt, by go_num, ho3, (hp1.trans hp2).trans hp3, Lib.hid (by rw [HE.out, HL.out]; simp), by simp; omega⟩, by simp [intOf]; omega⟩
      · have ht0 : ((t[k].toNat : Int) == 0) = false := by
          simp only [beq_eq_false_iff_ne]
          intro e
          exact h0 (UInt8.toNat_inj.1 (show t[k].toNat = (0 : UInt8).toNat by have : (0 : UInt8).toNat = 0 := rfl; omega))
        have he1 : esc [t[k]] = [t[k]] := by simp [esc, h0]
        rw [he1] at he
        have HE := Lib.hid he
        clear hts h0 he he1
        go_wp2_with (at_builtin; refine wpList_push1 rfl _ _ 58 rfl base i0 Tryd.underlying58 hi0 hz0 hz1 hz2 v1 l1 wr (t[k]) _ rfl rfl ho1 rfl (by omega) hbs ?_; intro v2 w2 ho2 hp2)
        refine ⟨⟨v2, k + 1, _, rfl, hlt, by go_num, ho2, hp1.trans hp2, Lib.hid (by rw [HE.out, HL.out]; simp), by simp; omega⟩, by simp [intOf]; omega⟩
    · have hL2 : l1 = l ++ (3 :: esc t.data.toList) := by rw [HL.out, List.take_of_length_le (show t.data.toList.length ≤ k from by show t.size ≤ k; omega)]
      have HL2 := Lib.hid hL2
      clear hL2 HL
      go_wp2_with (at_builtin; refine wpList_pushL rfl _ _ 58 rfl base i0 Tryd.underlying58 hi0 hz0 hz1 hz2 v1 l1 (wr.heap.size + 1) (some ⟨wr.heap.size, 0, none⟩) [0, 1] 2 rfl (ho1.alloc _) rfl (two_new wr 0 1) (by simp; omega) (by simp; omega) ?_; intro v2 w2 ho2 hp2)
      go_ret
      have e : l ++ encT t.data.toList = l1 ++ [0, 1] := by rw [HL2.out]; simp [encT]
      rw [e]
      exact putP_mk ho2 (hp1.trans (hp2.pre ((Below.refl _ _).alloc (Nat.le_refl _) _)))

set_option maxHeartbeats 1600000 in
theorem appendField_c (base : Nat) (v : Value) (l : List UInt8) (f : Fd) (w : World) (ho : OwnB w base v l) (hb : base ≤ w.heap.size) (hl : l.length ≤ 1000000) (ht : f.text.size ≤ 1000) (hw : f.wide) :
    Calls Tryd.prog 78 #[v, f.val] w (PutP base v (l ++ encF f) w) := by
  obtain ⟨i0, hi0, hz0, hz1, hz2⟩ := info_parts infoByte
  obtain ⟨k, n, t⟩ := f
  obtain ⟨hw1, hw2⟩ := hw
  simp only at ht hw1 hw2
  have hba := (Below.refl w.heap.size w).alloc (Nat.le_refl _) (.cells #[.int .i64 k, .int .i64 n, .string t] 98)
  have hoa := ho.alloc (.cells #[.int .i64 k, .int .i64 n, .string t] 98)
  have hbz : base ≤ (w.alloc (.cells #[.int .i64 k, .int .i64 n, .string t] 98)).heap.size := by simp; omega
  by_cases h1 : k = 1
  · subst h1
    rw [show encF ⟨1, n, t⟩ = encI n from rfl]
    go_enter Tryd.func78, Tryd.ntmps78
    go_wp2_with fail
    refine (appendInt_c base v l n _ hoa hbz hl hw1 hw2).mono ?_
    rintro e w2 ⟨v2, rfl, ho2, hp2⟩
    go_wp2_with fail
    go_ret
    exact putP_mk ho2 (hp2.pre hba)
  · by_cases h2 : k = 2
    · subst h2
      rw [show encF ⟨2, n, t⟩ = encT t.data.toList from rfl]
      go_enter Tryd.func78, Tryd.ntmps78
      go_wp2_with fail
      refine (appendText_c base v l t _ hoa hbz hl ht).mono ?_
      rintro e w2 ⟨v2, rfl, ho2, hp2⟩
      go_wp2_with fail
      go_ret
      exact putP_mk ho2 (hp2.pre hba)
    · have e1 : (k == 1) = false := by simpa using h1
      have e2 : (k == 2) = false := by simpa using h2
      have he : encF ⟨k, n, t⟩ = [1] := by simp [encF, h1, h2]
      rw [he]
      clear h1 h2 he
      go_enter Tryd.func78, Tryd.ntmps78
      go_wp2_with (at_builtin; refine wpList_push1 rfl _ _ 58 rfl base i0 Tryd.underlying58 hi0 hz0 hz1 hz2 v l _ 1 _ rfl rfl hoa (by rw [World.size_alloc]; rfl) (by omega) hbz ?_; intro v2 w2 ho2 hp2)
      go_ret
      exact putP_mk ho2 (hp2.pre hba)
end Go.Proofs.YtlnmpiigmedgkaaDoor
