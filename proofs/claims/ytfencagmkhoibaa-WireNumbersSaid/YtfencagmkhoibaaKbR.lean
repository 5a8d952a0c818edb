/-
  The calls of the reference of layer 3 on numbers and strings: what they append and what they answer. Conditions: the arguments can be read; at most 100,000,000 bytes.
-/
import Derived.Test.YtfencagmkhoibaaKbU
import Derived.Test.YtfencagmkhoibaaKbD
namespace Go.Proofs.Ytfencagmkhoibaa
open Go.RowKit

set_option maxRecDepth 100000 in
set_option maxHeartbeats 800000 in
theorem appendUint_ref (A : Option Addr) (l : List UInt8) (c n : Nat) (w : World) (hl0 : Bys w w.heap.size A l) (hl : l.length ≤ 100000000) (hn : n < 18446744073709551616) :
    Calls Try.prog 8 #[.slice A l.length c, .int .u64 (n : Int)] w (NewB (l ++ encU n) w) := by
  obtain ⟨i0, hi0, hz0, hz1, hz2⟩ := info_parts infoByte
  go_enter Try.func8, Try.ntmps8
  go_wp2_with (at_builtin; refine wpList_pushL rfl _ _ 23 rfl w.heap.size i0 Try.underlying23 hi0 hz0 hz1 hz2 (.slice none 0 0) [] w.heap.size A l c rfl (OwnB.nil w _) rfl hl0 (by simp; omega) (Nat.le_refl _) ?_; intro v w2 ho hp)
  replace ho : OwnB w2 w.heap.size v l := ho
  have hb := hp.below (OwnB.nil w w.heap.size) (Nat.le_refl _)
  clear hp
  go_loopw [5, 1] (fun b i wr => ∃ (v1 : Value) (l1 : List UInt8) (m : Nat), v1 = b ∧ i = .int .u64 (m : Int) ∧ OwnB wr w.heap.size v1 l1 ∧ Below w.heap.size w wr ∧ Hid (l1 ++ encU m = l ++ encU n) ∧ m < 18446744073709551616 ∧ l1.length ≤ 200000010) (fun _ i _ => (intOf i).toNat)
  case atStart => exact ⟨v, l, n, rfl, rfl, ho, hb, rfl, hn, by omega⟩
  case round =>
    obtain ⟨v1, l1, m, rfl, rfl, ho1, hb1, HE, hm, hl1⟩ := hrel
    have hbs := hb1.size
    by_cases hlt : m < 128
    · go_wp2_with (at_builtin; refine wpList_push1 rfl _ _ 23 rfl w.heap.size i0 Try.underlying23 hi0 hz0 hz1 hz2 v1 l1 wr (UInt8.ofNat m) _ (by rw [toNat_ofNat8 (by omega)]) rfl ho1 rfl (by omega) hbs ?_; intro v2 w2 ho2 hp2)
      go_ret
      rw [← HE.out, encU_lt hlt]
      exact newB_mk ho2 (hb1.trans (hp2.below ho1 hbs))
    · have hr0 : (0 : Int) ≤ (m : Int) % 128 := by omega
      have hr1 : (m : Int) % 128 < 128 := by omega
      go_wp2_with (at_builtin; refine wpList_push1 rfl _ _ 23 rfl w.heap.size i0 Try.underlying23 hi0 hz0 hz1 hz2 v1 l1 wr (UInt8.ofNat (m % 128 + 128)) _ (by rw [toNat_ofNat8 (by omega)]; omega) rfl ho1 rfl (by omega) hbs ?_; intro v2 w2 ho2 hp2)
      go_roundw
      case rel => exact ⟨v2, _, m / 128, rfl, by go_num, ho2, hb1.trans (hp2.below ho1 hbs), Lib.hid (by rw [List.append_assoc, ← HE.out, encU_ge hlt]; rfl), by omega, by rw [List.length_append]; show _ + 1 ≤ _; have h1 := congrArg List.length HE.out; rw [List.length_append, List.length_append] at h1; have h2 := enc_len10 hn; have h3 := enc_len_pos m; omega⟩
      case measure => simp [intOf]; omega

set_option maxRecDepth 100000 in
set_option maxHeartbeats 800000 in
theorem appendInt_ref (A : Option Addr) (l : List UInt8) (c : Nat) (n : Int) (w : World) (hl0 : Bys w w.heap.size A l) (hl : l.length ≤ 100000000) (h1 : -9223372036854775808 ≤ n) (h2 : n ≤ 9223372036854775807) :
    Calls Try.prog 24 #[.slice A l.length c, .int .i64 n] w (NewB (l ++ encU (zig n)) w) := by
  have HZ := Lib.hid (zig_lt h1 h2)
  by_cases hn : n < 0
  · have hz : zig n = (-n - 1).toNat * 2 + 1 := by unfold zig; rw [if_neg (by omega)]; omega
    obtain ⟨z, hz2⟩ : ∃ z : Nat, z = zig n := ⟨_, rfl⟩
    rw [← hz2] at HZ ⊢
    rw [← hz2] at hz
    have hu := Lib.hid (appendUint_ref A l c z w hl0 hl HZ.out)
    have hzi : (z : Int) = (-n - 1) * 2 + 1 := by omega
    have HZI := Lib.hid hzi
    clear hz hz2 hzi
    go_enter Try.func24, Try.ntmps24
    go_wp2_with fail
    rw [show -(n + 1) * 2 + 1 = (z : Int) by have := HZI.out; omega]
    refine (hu.out).mono ?_
    rintro e w1 ⟨v, rfl, ho, hb⟩
    go_wp2_with fail
    go_ret
    exact newB_mk ho hb
  · have hz : zig n = n.toNat * 2 := by unfold zig; rw [if_pos (by omega)]; omega
    obtain ⟨z, hz2⟩ : ∃ z : Nat, z = zig n := ⟨_, rfl⟩
    rw [← hz2] at HZ ⊢
    rw [← hz2] at hz
    have hu := Lib.hid (appendUint_ref A l c z w hl0 hl HZ.out)
    have hzi : (z : Int) = n * 2 := by omega
    have HZI := Lib.hid hzi
    clear hz hz2 hzi
    go_enter Try.func24, Try.ntmps24
    go_wp2_with fail
    rw [show n * 2 = (z : Int) by have := HZI.out; omega]
    refine (hu.out).mono ?_
    rintro e w1 ⟨v, rfl, ho, hb⟩
    go_wp2_with fail
    go_ret
    exact newB_mk ho hb

set_option maxRecDepth 100000 in
set_option maxHeartbeats 1600000 in
theorem uint_ref (A : Option Addr) (l : List UInt8) (c : Nat) (B : Nat) (w : World) (hl : Bys w B A l) (hn : l.length ≤ 1000000000) :
    Calls Try.prog 22 #[.slice A l.length c] w (UintP l w) := by
  go_enter Try.func22, Try.ntmps22
  go_wp2_with fail
  go_loop [5, 6] (fun n i => ∃ k m : Nat, k ≤ l.length ∧ k ≤ 10 ∧ i = .int .i64 (k : Int) ∧ n = .int .u64 (m : Int) ∧ Hid (k ≤ 9 → m < 128 ^ k ∧ decF k m (l.drop k) = decU l) ∧ Hid (k = 10 → decU l = none)) (fun _ i => l.length - (intOf i).toNat)
  case atStart => exact ⟨0, 0, Nat.zero_le _, by omega, rfl, rfl, Lib.hid (fun _ => ⟨by decide, rfl⟩), Lib.hid (fun h => by omega)⟩
  case round =>
    obtain ⟨k, m, hk, hk10, rfl, rfl, HD, HT⟩ := hrel
    by_cases hlt : k < l.length
    · by_cases hk9 : k ≤ 9
      · obtain ⟨b, o, rfl, _, hcell⟩ := hl.at_ hlt
        have hdr := List.drop_eq_getElem_cons hlt
        have hx := (l[k]).toNat_lt
        generalize l[k] = y at *
        obtain ⟨x, hxy⟩ : ∃ x : Nat, x = y.toNat := ⟨_, rfl⟩
        rw [← hxy] at hcell hx
        obtain ⟨hm, hd⟩ := HD.out hk9
        rw [hdr, decF_cons k m x y _ hxy] at hd
        have HE := Lib.hid hd
        have HM := Lib.hid hm
        clear hd hxy hdr HD HT hm
        have r0 : (0 : Int) ≤ (x : Int) % 128 := by omega
        have r1 : (x : Int) % 128 < 128 := by omega
        rcases Nat.lt_or_ge k 9 with h9 | h9
        · have hk8 : k ≤ 8 := by omega
          have HP := Lib.hid (Nat.pow_le_pow_right (n := 128) (by omega) hk8)
          have HQ := Lib.hid (Nat.mul_lt_mul_of_pos_right (show x % 128 < 128 by omega) (Nat.pow_pos (n := k) (show 0 < 128 by omega)))
          have e0 : ((x % 128 : Nat) : Int) = (x : Int) % 128 := by omega
          have ho := or_sh (m := m) (x := x % 128) (k := k) (by omega) HM.out (by have := HP.out; have := HQ.out; omega)
          rw [e0] at ho
          have HO := Lib.hid ho
          clear ho e0
          go_wp2_with fail
          · go_ret3
            have hd := HE.out
            rw [if_neg (by omega), if_neg (by omega), if_pos ⟨by omega, by omega⟩] at hd
            exact uintP_none hd.symm
          · go_ret3
            have hd := HE.out
            rw [if_neg (by omega), if_neg (by omega), if_neg (by omega)] at hd
            have hk' : k = 0 := by omega
            have hx0 : x = 0 := by omega
            subst hk' hx0
            have e1 : bits .or .u64 (m : Int) (IntKind.u64.wrap 0) = ((m + 0 * 128 ^ 0 : Nat) : Int) := HO.out
            rw [e1]
            exact uintP_some hd.symm
          · go_ret3
            have hd := HE.out
            rw [if_neg (by omega), if_neg (by omega), if_neg (by omega)] at hd
            rw [HO.out, Nat.mod_eq_of_lt (by omega)]
            exact uintP_some hd.symm
          · have hd := HE.out
            rw [if_neg (by omega), if_pos (by omega)] at hd
            refine ⟨⟨k + 1, m + (x - 128) * 128 ^ k, by omega, by omega, rfl, by rw [HO.out, show x % 128 = x - 128 by omega], Lib.hid (fun _ => ⟨?_, hd⟩), Lib.hid (fun h => by omega)⟩, by simp [intOf]; omega⟩
            have h1 := HM.out
            have h2 : 128 ^ (k + 1) = 128 ^ k * 128 := Nat.pow_succ ..
            have h3 : (x - 128) * 128 ^ k + 128 ^ k ≤ 128 * 128 ^ k := by
              rw [← Nat.succ_mul]
              exact Nat.mul_le_mul_right _ (by omega)
            omega
        · obtain rfl : k = 9 := by omega
          have e0 : ((x % 128 : Nat) : Int) = (x : Int) % 128 := by omega
          by_cases hx1 : 1 < x % 128
          · have hx2 : ¬ (x : Int) % 128 ≤ 1 := by omega
            clear e0
            go_wp2_with fail
            go_ret3
            have hd := HE.out
            rw [if_pos ⟨by omega, by omega⟩] at hd
            exact uintP_none hd.symm
          · have ho := or_sh (m := m) (x := x % 128) (k := 9) (by omega) HM.out (by omega)
            rw [e0] at ho
            have HO := Lib.hid ho
            have hx2 : (x : Int) % 128 ≤ 1 := by omega
            clear ho e0
            go_wp2_with fail
            · go_ret3
              have hd := HE.out
              rw [if_neg (by omega), if_neg (by omega), if_pos ⟨by omega, by omega⟩] at hd
              exact uintP_none hd.symm
            · go_ret3
              have hd := HE.out
              rw [if_neg (by omega), if_neg (by omega), if_neg (by omega)] at hd
              have e1 : bits .or .u64 (m : Int) ((x : Int) % 128 * 9223372036854775808) = ((m + x * 128 ^ 9 : Nat) : Int) := by
                have ho := HO.out
                rw [Nat.mod_eq_of_lt (by omega : x < 128)] at ho
                rw [← ho, IntKind.wrap_u64]
                congr 1
                omega
              rw [e1]
              exact uintP_some hd.symm
            · have hd := HE.out
              rw [if_pos ⟨rfl, by omega⟩] at hd
              have e1 : bits .or .u64 (m : Int) ((x : Int) % 128 * 9223372036854775808) = ((m + x % 128 * 128 ^ 9 : Nat) : Int) := by
                have ho := HO.out
                rw [← ho, IntKind.wrap_u64]
                congr 1
                omega
              exact ⟨⟨10, m + x % 128 * 128 ^ 9, by omega, by omega, rfl, by rw [e1], Lib.hid (fun h => by omega), Lib.hid (fun _ => hd.symm)⟩, by simp [intOf]; omega⟩
      · go_wp2_with fail
        go_ret3
        exact uintP_none (HT.out (by omega))
    · go_wp2_with fail
      go_ret3
      rcases Nat.lt_or_ge k 10 with h | h
      · have hd := (HD.out (by omega)).2
        rw [List.drop_eq_nil_of_le (by omega)] at hd
        exact uintP_none hd.symm
      · exact uintP_none (HT.out (by omega))

set_option maxRecDepth 100000 in
set_option maxHeartbeats 1600000 in
theorem int_ref (A : Option Addr) (l : List UInt8) (c : Nat) (B : Nat) (w : World) (hl : Bys w B A l) (hn : l.length ≤ 1000000000) :
    Calls Try.prog 23 #[.slice A l.length c] w (IntP l w) := by
  have hu := Lib.hid (uint_ref A l c B w hl hn)
  cases hd : decU l with
  | none =>
    have HD := Lib.hid hd
    clear hd
    go_enter Try.func23, Try.ntmps23
    go_wp2_with fail
    refine (hu.out).mono ?_
    rintro e w' ⟨he, rfl⟩
    rw [HD.out] at he
    obtain rfl : e = .returned (.tuple #[.int .u64 0, .int .i64 0, .int .i64 4]) := he
    go_wp2_with fail
    go_ret3
    exact ⟨by rw [HD.out]; rfl, rfl⟩
  | some p =>
    obtain ⟨n, k⟩ := p
    have HD := Lib.hid hd
    have hs := decU_some hd
    have hn64 := hs.1
    have hle := decU_le hd
    have step : ∀ (e : Ending) (w' : World), UintP l w e w' → e = .returned (.tuple #[.int .u64 (n : Int), .int .i64 (k : Int), .int .i64 0]) ∧ w = w' := fun e w' ⟨he, hw⟩ => by rw [HD.out] at he; exact ⟨he, hw⟩
    have hstep := Lib.hid step
    clear hd hs step
    by_cases hodd : n % 2 = 1
    · have hz : zag n = -((n / 2 : Nat) : Int) - 1 := by unfold zag; rw [if_neg (by omega)]
      have HZ := Lib.hid hz
      have ht : ((n : Int) % 2 == 1) = true := by simp; omega
      clear hz
      go_enter Try.func23, Try.ntmps23
      go_wp2_with fail
      refine (hu.out).mono ?_
      rintro e w' hp
      obtain ⟨rfl, rfl⟩ := hstep.out _ _ hp
      clear hp
      go_wp2_with fail
      go_ret3
      exact ⟨by rw [HD.out]; show _ = Ending.returned (.tuple #[.int .i64 (zag n), .int .i64 (k : Int), .int .i64 0]); rw [HZ.out]; rfl, rfl⟩
    · have hz : zag n = ((n / 2 : Nat) : Int) := by unfold zag; rw [if_pos (by omega)]
      have HZ := Lib.hid hz
      have ht : ((n : Int) % 2 == 1) = false := by simp; omega
      clear hz
      go_enter Try.func23, Try.ntmps23
      go_wp2_with fail
      refine (hu.out).mono ?_
      rintro e w' hp
      obtain ⟨rfl, rfl⟩ := hstep.out _ _ hp
      clear hp
      go_wp2_with fail
      go_ret3
      exact ⟨by rw [HD.out]; show _ = Ending.returned (.tuple #[.int .i64 (zag n), .int .i64 (k : Int), .int .i64 0]); rw [HZ.out]; rfl, rfl⟩

theorem wrap_i (n : Int) : IntKind.i64.wrap n = wrap64 n := by rw [IntKind.wrap_i64]; unfold wrap64; omega
theorem wrap64_in (n : Int) : -9223372036854775808 ≤ wrap64 n ∧ wrap64 n ≤ 9223372036854775807 := by unfold wrap64; omega
/-- A row of the call's own, and its string. -/
def NewM (l : List UInt8) (R : ByteArray) (w : World) (e : Ending) (w' : World) : Prop := ∃ (A : Option Addr) (N c : Nat), e = .returned (.slice A N c) ∧ (∀ W, Below w'.heap.size w' W → (convert 23 9 (.slice A N c)).run Try.prog W = .ok (.string R) W) ∧ Hid (l.length = N) ∧ Below w.heap.size w w'
theorem newM_of {l : List UInt8} {R : ByteArray} {w : World} {e : Ending} {w' : World} (hR : R = ⟨l.toArray⟩) (h : NewB l w e w') : NewM l R w e w' := by
  obtain ⟨v, rfl, ho, hb⟩ := h
  obtain ⟨A, c, rfl, h1, _, h3⟩ := ho.read
  subst hR
  exact ⟨A, _, c, rfl, fun W hW => run_str (P := Try.prog) W _ A l c (h3.below hW) 23 9 Try.underlying23 Try.underlying5 Try.underlying9, rfl, hb⟩

end Go.Proofs.Ytfencagmkhoibaa
