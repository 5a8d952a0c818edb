/-
  The reference of chapter 2: the bytes of a field. Condition: the field's kind is one of the three.
-/
import Derived.Test.YtlnmpiigmedgkaaDoorKrA
import Derived.Test.YtlnmpiigmedgkaaDoorKcE
namespace Go.Proofs.YtlnmpiigmedgkaaDoor
open Go.RowKit

/-- What bytes gives: a row of the call's own. -/
def BytP (l : List UInt8) (w : World) (e : Ending) (w' : World) : Prop := ∃ v, e = .returned v ∧ OwnB w' w.heap.size v l ∧ Below w.heap.size w w'
theorem bytP_mk {l : List UInt8} {w w' : World} {v : Value} (h : OwnB w' w.heap.size v l) (k : Below w.heap.size w w') : BytP l w (.returned v) w' := ⟨v, rfl, h, k⟩
theorem OwnB.one (w : World) (x : UInt8) : OwnB (w.alloc (.cells #[.int .u8 (x.toNat : Int)] 5)) w.heap.size (.slice (some ⟨w.heap.size, 0, none⟩) 1 1) [x] :=
  ⟨rfl, .inr ⟨w.heap.size, 1, #[.int .u8 (x.toNat : Int)], rfl, Nat.le_refl _, heap_alloc_new w _, Nat.le_refl _, by unfold maxLen; omega, rfl, rfl⟩⟩

set_option maxRecDepth 100000 in
set_option maxHeartbeats 3200000 in
theorem rbytes_any (f : Fd) (w : World) (hk : f.kind = 0 ∨ f.kind = 1 ∨ f.kind = 2) (hw : f.wide) (hts : f.text.size ≤ 1000) :
    Calls Tryd.prog 118 #[.agg #[.int .i64 f.kind, .int .i64 f.num, .string f.text]] w (BytP (encF f) w) := by
  obtain ⟨i0, hi0, hz0, hz1, hz2⟩ := info_parts infoByte
  obtain ⟨fk, n, t⟩ := f
  simp only at hk hts
  obtain ⟨h1, h2⟩ := hw
  simp only at h1 h2
  have hN0 := Has.new w 98 #[.int .i64 fk, .int .i64 n, .string t]
  have hb0 := (Below.refl w.heap.size w).alloc (Nat.le_refl _) (.cells #[.int .i64 fk, .int .i64 n, .string t] 98)
  have hsz : (w.alloc (.cells #[.int .i64 fk, .int .i64 n, .string t] 98)).heap.size = w.heap.size + 1 := World.size_alloc _ _
  rcases hk with rfl | rfl | rfl
  · have e1 : encF ⟨0, n, t⟩ = [1] := rfl
    rw [e1]
    have ho := OwnB.one (w.alloc (.cells #[.int .i64 0, .int .i64 n, .string t] 98)) 1
    have hb1 := hb0.alloc hb0.size (.cells #[.int .u8 1] 5)
    rw [hsz] at ho
    clear hsz e1
    go_enter Tryd.func118, Tryd.ntmps118
    go_wp2_with fail
    go_ret
    exact bytP_mk (ho.less (Nat.le_succ _)) hb1
  · obtain ⟨m, hm⟩ : ∃ m : Nat, m = (n + 9223372036854775808).toNat := ⟨_, rfl⟩
    have hsb := sign_bits n h1 h2
    rw [← hm] at hsb
    have HE := Lib.hid (show encF ⟨1, n, t⟩ = 2 :: be m 8 by rw [hm]; rfl)
    rw [be8] at HE
    have hm64 : m < 18446744073709551616 := by omega
    clear hm
    generalize hW : w.alloc (.cells #[.int .i64 1, .int .i64 n, .string t] 98) = W at *
    have ho := OwnB.one W 2
    have hb1 := (Below.refl W.heap.size W).alloc (Nat.le_refl _) (.cells #[.int .u8 2] 5)
    have HSZ := Lib.hid hsz
    have HW := Lib.hid hW
    subst hW
    have hsz2 := hsz
    clear hsz
    have c0 := hN0.cell 0
    have c1 := hN0.cell 1
    go_enter Tryd.func118, Tryd.ntmps118
    go_wp2_with fail
    rw [hsz2] at ho
    rw [hsz2] at hb1
    go_loopw [4, 5] (fun b i wr => ∃ (v1 : Value) (k : Nat) (j : Int), v1 = b ∧ k ≤ 8 ∧ j + 8 * (k : Int) = 56 ∧ i = .int .i64 j ∧ OwnB wr (w.heap.size + 1) v1 (2 :: (be m 8).take k) ∧ Below (w.heap.size + 1) (w.alloc (.cells #[.int .i64 1, .int .i64 n, .string t] 98)) wr) (fun _ i _ => (intOf i + 8).toNat)
    case atStart => exact ⟨_, 0, 56, rfl, by omega, rfl, rfl, ho, hb1⟩
    case round =>
      clear ho hb1 c0 c1
      obtain ⟨v1, k, j, rfl, hk, hj, rfl, ho1, hp1⟩ := hrel
      have hbs : w.heap.size + 1 ≤ wr.heap.size := by have := hp1.size; omega
      have hlen : (2 :: (be m 8).take k).length ≤ 1000010 := by simp [be_len]; omega
      have hk' : k = 0 ∨ k = 1 ∨ k = 2 ∨ k = 3 ∨ k = 4 ∨ k = 5 ∨ k = 6 ∨ k = 7 ∨ k = 8 := by omega
      rcases hk' with rfl | rfl | rfl | rfl | rfl | rfl | rfl | rfl | rfl
      · obtain rfl : j = 56 := by omega
        clear hj
        go_wp2_with (at_builtin; refine wpList_push1 rfl _ _ 58 rfl (w.heap.size + 1) i0 Tryd.underlying58 hi0 hz0 hz1 hz2 v1 _ wr (UInt8.ofNat (m / 72057594037927936 % 256)) _ (by rw [toNat_ofNat8 (by omega)]; omega) rfl ho1 rfl (by omega) hbs ?_; intro v2 w2 ho2 hp2)
        exact ⟨⟨v2, 1, 48, rfl, by omega, by omega, rfl, by have e : (2 :: (be m 8).take 1) = (2 :: (be m 8).take 0) ++ [UInt8.ofNat (m / 72057594037927936 % 256)] := (by rw [be8]; simp); rw [e]; exact ho2, hp1.trans (hp2.below ho1 hbs)⟩, by simp [intOf]⟩
      · obtain rfl : j = 48 := by omega
        clear hj
        go_wp2_with (at_builtin; refine wpList_push1 rfl _ _ 58 rfl (w.heap.size + 1) i0 Tryd.underlying58 hi0 hz0 hz1 hz2 v1 _ wr (UInt8.ofNat (m / 281474976710656 % 256)) _ (by rw [toNat_ofNat8 (by omega)]; omega) rfl ho1 rfl (by omega) hbs ?_; intro v2 w2 ho2 hp2)
        exact ⟨⟨v2, 2, 40, rfl, by omega, by omega, rfl, by have e : (2 :: (be m 8).take 2) = (2 :: (be m 8).take 1) ++ [UInt8.ofNat (m / 281474976710656 % 256)] := (by rw [be8]; simp); rw [e]; exact ho2, hp1.trans (hp2.below ho1 hbs)⟩, by simp [intOf]⟩
      · obtain rfl : j = 40 := by omega
        clear hj
        go_wp2_with (at_builtin; refine wpList_push1 rfl _ _ 58 rfl (w.heap.size + 1) i0 Tryd.underlying58 hi0 hz0 hz1 hz2 v1 _ wr (UInt8.ofNat (m / 1099511627776 % 256)) _ (by rw [toNat_ofNat8 (by omega)]; omega) rfl ho1 rfl (by omega) hbs ?_; intro v2 w2 ho2 hp2)
        exact ⟨⟨v2, 3, 32, rfl, by omega, by omega, rfl, by have e : (2 :: (be m 8).take 3) = (2 :: (be m 8).take 2) ++ [UInt8.ofNat (m / 1099511627776 % 256)] := (by rw [be8]; simp); rw [e]; exact ho2, hp1.trans (hp2.below ho1 hbs)⟩, by simp [intOf]⟩
      · obtain rfl : j = 32 := by omega
        clear hj
        go_wp2_with (at_builtin; refine wpList_push1 rfl _ _ 58 rfl (w.heap.size + 1) i0 Tryd.underlying58 hi0 hz0 hz1 hz2 v1 _ wr (UInt8.ofNat (m / 4294967296 % 256)) _ (by rw [toNat_ofNat8 (by omega)]; omega) rfl ho1 rfl (by omega) hbs ?_; intro v2 w2 ho2 hp2)
        exact ⟨⟨v2, 4, 24, rfl, by omega, by omega, rfl, by have e : (2 :: (be m 8).take 4) = (2 :: (be m 8).take 3) ++ [UInt8.ofNat (m / 4294967296 % 256)] := (by rw [be8]; simp); rw [e]; exact ho2, hp1.trans (hp2.below ho1 hbs)⟩, by simp [intOf]⟩
      · obtain rfl : j = 24 := by omega
        clear hj
        go_wp2_with (at_builtin; refine wpList_push1 rfl _ _ 58 rfl (w.heap.size + 1) i0 Tryd.underlying58 hi0 hz0 hz1 hz2 v1 _ wr (UInt8.ofNat (m / 16777216 % 256)) _ (by rw [toNat_ofNat8 (by omega)]; omega) rfl ho1 rfl (by omega) hbs ?_; intro v2 w2 ho2 hp2)
        exact ⟨⟨v2, 5, 16, rfl, by omega, by omega, rfl, by have e : (2 :: (be m 8).take 5) = (2 :: (be m 8).take 4) ++ [UInt8.ofNat (m / 16777216 % 256)] := (by rw [be8]; simp); rw [e]; exact ho2, hp1.trans (hp2.below ho1 hbs)⟩, by simp [intOf]⟩
      · obtain rfl : j = 16 := by omega
        clear hj
        go_wp2_with (at_builtin; refine wpList_push1 rfl _ _ 58 rfl (w.heap.size + 1) i0 Tryd.underlying58 hi0 hz0 hz1 hz2 v1 _ wr (UInt8.ofNat (m / 65536 % 256)) _ (by rw [toNat_ofNat8 (by omega)]; omega) rfl ho1 rfl (by omega) hbs ?_; intro v2 w2 ho2 hp2)
        exact ⟨⟨v2, 6, 8, rfl, by omega, by omega, rfl, by have e : (2 :: (be m 8).take 6) = (2 :: (be m 8).take 5) ++ [UInt8.ofNat (m / 65536 % 256)] := (by rw [be8]; simp); rw [e]; exact ho2, hp1.trans (hp2.below ho1 hbs)⟩, by simp [intOf]⟩
      · obtain rfl : j = 8 := by omega
        clear hj
        go_wp2_with (at_builtin; refine wpList_push1 rfl _ _ 58 rfl (w.heap.size + 1) i0 Tryd.underlying58 hi0 hz0 hz1 hz2 v1 _ wr (UInt8.ofNat (m / 256 % 256)) _ (by rw [toNat_ofNat8 (by omega)]; omega) rfl ho1 rfl (by omega) hbs ?_; intro v2 w2 ho2 hp2)
        exact ⟨⟨v2, 7, 0, rfl, by omega, by omega, rfl, by have e : (2 :: (be m 8).take 7) = (2 :: (be m 8).take 6) ++ [UInt8.ofNat (m / 256 % 256)] := (by rw [be8]; simp); rw [e]; exact ho2, hp1.trans (hp2.below ho1 hbs)⟩, by simp [intOf]⟩
      · obtain rfl : j = 0 := by omega
        clear hj
        go_wp2_with (at_builtin; refine wpList_push1 rfl _ _ 58 rfl (w.heap.size + 1) i0 Tryd.underlying58 hi0 hz0 hz1 hz2 v1 _ wr (UInt8.ofNat (m % 256)) _ (by rw [toNat_ofNat8 (by omega)]; omega) rfl ho1 rfl (by omega) hbs ?_; intro v2 w2 ho2 hp2)
        exact ⟨⟨v2, 8, -8, rfl, by omega, by omega, rfl, by have e : (2 :: (be m 8).take 8) = (2 :: (be m 8).take 7) ++ [UInt8.ofNat (m % 256)] := (by rw [be8]; simp); rw [e]; exact ho2, hp1.trans (hp2.below ho1 hbs)⟩, by simp [intOf]⟩
      · obtain rfl : j = -8 := by omega
        go_wp2_with fail
        go_ret
        have e : (be m 8).take 8 = be m 8 := List.take_of_length_le (by rw [be_len]; omega)
        rw [HE.out, ← be8, ← e]
        exact bytP_mk (ho1.less (Nat.le_succ _)) (hb0.trans (hp1.mono (Nat.le_succ _)))
  · have HE := Lib.hid (show encF ⟨2, n, t⟩ = 3 :: (esc t.data.toList ++ [0, 1]) from rfl)
    have ho := OwnB.one (w.alloc (.cells #[.int .i64 2, .int .i64 n, .string t] 98)) 3
    have hb1 := (Below.refl (w.alloc (.cells #[.int .i64 2, .int .i64 n, .string t] 98)).heap.size (w.alloc (.cells #[.int .i64 2, .int .i64 n, .string t] 98))).alloc (Nat.le_refl _) (.cells #[.int .u8 3] 5)
    have HSZ := Lib.hid hsz
    have hsz2 := hsz
    clear hsz
    have c0 := hN0.cell 0
    have c1 := hN0.cell 1
    have c2 := hN0.cell 2
    go_enter Tryd.func118, Tryd.ntmps118
    go_wp2_with fail
    rw [hsz2] at ho
    rw [hsz2] at hb1
    go_loopw [6, 7] (fun b i wr => ∃ (v1 : Value) (k : Nat) (l1 : List UInt8), v1 = b ∧ k ≤ t.size ∧ i = .int .i64 (k : Int) ∧ OwnB wr (w.heap.size + 1) v1 l1 ∧ Below (w.heap.size + 1) (w.alloc (.cells #[.int .i64 2, .int .i64 n, .string t] 98)) wr ∧ Hid (l1 = 3 :: esc (t.data.toList.take k)) ∧ l1.length ≤ 1 + 2 * k) (fun _ i _ => t.size - (intOf i).toNat)
    case atStart => exact ⟨_, 0, [3], rfl, by omega, rfl, ho, hb1, Lib.hid (by simp [esc]), by simp⟩
    case round =>
      clear ho hb1
      obtain ⟨v1, k, l1, rfl, hk, rfl, ho1, hp1, HL, hlen⟩ := hrel
      have hbs : w.heap.size + 1 ≤ wr.heap.size := by have := hp1.size; omega
      have d1 : wr.cell? ⟨w.heap.size, 2, none⟩ = some (.string t) := (hp1.cell (p := ⟨w.heap.size, 2, none⟩) (Nat.lt_succ_self _)).trans c2
      clear c0 c1 c2
      by_cases hlt : k < t.size
      · have hts2 : t.data.toList.take (k + 1) = t.data.toList.take k ++ [t[k]] := by
          rw [List.take_succ_eq_append_getElem (show k < t.data.toList.length from hlt)]; rfl
        have hx := (t[k]).toNat_lt
        have he := esc_append (t.data.toList.take k) [t[k]]
        rw [← hts2] at he
        by_cases h0 : t[k] = 0
        · have ht0 : ((t[k].toNat : Int) == 0) = true := by rw [h0]; rfl
          have he1 : esc [t[k]] = [t[k], 255] := by rw [h0]; rfl
          rw [he1] at he
          have HE2 := Lib.hid he
          clear hts2 h0 he he1
          go_wp2_with (first | (at_builtin; refine wpList_push1 rfl _ _ 58 rfl (w.heap.size + 1) i0 Tryd.underlying58 hi0 hz0 hz1 hz2 v1 l1 wr (t[k]) _ rfl rfl ho1 rfl (by omega) hbs ?_; intro v2 w2 ho2 hp2; have hq2 := hp1.trans (hp2.below ho1 hbs); have d2 : w2.cell? ⟨w.heap.size, 2, none⟩ = some (.string t) := (hq2.cell (p := ⟨w.heap.size, 2, none⟩) (Nat.lt_succ_self _)).trans (hN0.cell 2)) | (at_builtin; refine wpList_push1 rfl _ _ 58 rfl (w.heap.size + 1) i0 Tryd.underlying58 hi0 hz0 hz1 hz2 v2 _ w2 255 _ rfl rfl ho2 rfl (by rw [List.length_append]; simp; omega) (Nat.le_trans hbs hp2.1.size) ?_; intro v3 w3 ho3 hp3))
          exact ⟨⟨v3, k + 1, _, rfl, hlt, by go_num, ho3, hq2.trans (hp3.below ho2 (Nat.le_trans hbs hp2.1.size)), Lib.hid (by rw [HE2.out, HL.out]; simp), by simp; omega⟩, by simp [intOf]; omega⟩
        · have ht0 : ((t[k].toNat : Int) == 0) = false := by
            simp only [beq_eq_false_iff_ne]
            intro e
            exact h0 (UInt8.toNat_inj.1 (show t[k].toNat = (0 : UInt8).toNat by have : (0 : UInt8).toNat = 0 := rfl; omega))
          have he1 : esc [t[k]] = [t[k]] := by simp [esc, h0]
          rw [he1] at he
          have HE2 := Lib.hid he
          clear hts2 h0 he he1
          go_wp2_with (at_builtin; refine wpList_push1 rfl _ _ 58 rfl (w.heap.size + 1) i0 Tryd.underlying58 hi0 hz0 hz1 hz2 v1 l1 wr (t[k]) _ rfl rfl ho1 rfl (by omega) hbs ?_; intro v2 w2 ho2 hp2; have hq2 := hp1.trans (hp2.below ho1 hbs); have d2 : w2.cell? ⟨w.heap.size, 2, none⟩ = some (.string t) := (hq2.cell (p := ⟨w.heap.size, 2, none⟩) (Nat.lt_succ_self _)).trans (hN0.cell 2))
          exact ⟨⟨v2, k + 1, _, rfl, hlt, by go_num, ho2, hq2, Lib.hid (by rw [HE2.out, HL.out]; simp), by simp; omega⟩, by simp [intOf]; omega⟩
      · have hL2 : l1 = 3 :: esc t.data.toList := by rw [HL.out, List.take_of_length_le (show t.data.toList.length ≤ k from by show t.size ≤ k; omega)]
        have HL2 := Lib.hid hL2
        clear hL2 HL
        go_wp2_with (at_builtin; refine wpList_pushL rfl _ _ 58 rfl (w.heap.size + 1) i0 Tryd.underlying58 hi0 hz0 hz1 hz2 v1 l1 (wr.heap.size + 1) (some ⟨wr.heap.size, 0, none⟩) [0, 1] 2 rfl (ho1.alloc _) rfl (two_new wr 0 1) (by simp; omega) (by simp; omega) ?_; intro v2 w2 ho2 hp2)
        go_ret
        have e : encF ⟨2, n, t⟩ = l1 ++ [0, 1] := by rw [HE.out, HL2.out]; simp
        rw [e]
        have hpa := hp1.alloc hbs (.cells #[.int .u8 0, .int .u8 1] 5)
        exact bytP_mk (ho2.less (Nat.le_succ _)) (hb0.trans ((hpa.trans (hp2.below (ho1.alloc _) (by simp; omega))).mono (Nat.le_succ _)))
end Go.Proofs.YtlnmpiigmedgkaaDoor
