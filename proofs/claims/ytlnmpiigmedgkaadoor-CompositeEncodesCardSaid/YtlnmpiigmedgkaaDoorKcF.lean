/-
  decodeInt, decodeText and decodeField of package composite. Conditions: the argument can be read.
-/
import Derived.Test.YtlnmpiigmedgkaaDoorKcE
namespace Go.Proofs.YtlnmpiigmedgkaaDoor
open Go.RowKit

/-- What the calls that decode a field answer. -/
def fdV : Option (Fd × Nat) → Value
  | none => .tuple #[Fd.zero.val, .int .i64 0]
  | some (f, n) => .tuple #[f.val, .int .i64 (n : Int)]
def FdP (r : Option (Fd × Nat)) (w : World) (e : Ending) (w' : World) : Prop := e = .returned (fdV r) ∧ Below w.heap.size w w'

def decI (l : List UInt8) : Option (Fd × Nat) := if 9 ≤ l.length then some (⟨1, (val8 ((l.drop 1).take 8) : Int) - 9223372036854775808, ⟨#[]⟩⟩, 9) else none
theorem val8_snoc (l : List UInt8) (c : UInt8) : val8 (l ++ [c]) = val8 l * 256 + c.toNat := by simp [val8]
theorem val8_lt (l : List UInt8) : val8 l < 256 ^ l.length := by
  have h : ∀ (l : List UInt8) (a n : Nat), a < 256 ^ n → l.foldl (fun a c => a * 256 + c.toNat) a < 256 ^ (n + l.length) := by
    intro l
    induction l with
    | nil => intro a n h; exact h
    | cons c l ih =>
      intro a n h
      have := ih (a * 256 + c.toNat) (n + 1) (by have := c.toNat_lt; rw [Nat.pow_succ]; omega)
      rw [List.length_cons, show n + (l.length + 1) = n + 1 + l.length by omega]
      exact this
  have := h l 0 0 (by decide)
  rw [Nat.zero_add] at this
  exact this
theorem or_step {m x : Nat} (hm : m < 72057594037927936) (hx : x < 256) : bits .or .u64 ((m : Int) * 256) (x : Int) = ((m * 256 + x : Nat) : Int) := by
  have e : ((m : Int) * 256) = ((m * 256 : Nat) : Int) := by omega
  rw [e, bits_or_u64_nat _ _ (by omega) (by omega)]
  congr 1
  have := Nat.two_pow_add_eq_or_of_lt (i := 8) (b := x) (by omega) m
  rw [Nat.mul_comm, ← this]
theorem xor_back {m : Nat} (hm : m < 18446744073709551616) : IntKind.i64.wrap (bits .xor .u64 (m : Int) 9223372036854775808) = (m : Int) - 9223372036854775808 := by
  have hk := bits_xor_u64_nat m 9223372036854775808 hm (by omega)
  rw [xor_sign _ hm] at hk
  rw [show (9223372036854775808 : Int) = ((9223372036854775808 : Nat) : Int) from rfl, hk, IntKind.wrap_i64]
  omega

set_option maxRecDepth 100000 in
set_option maxHeartbeats 3200000 in
theorem decodeInt_any (A : Option Addr) (l : List UInt8) (c : Nat) (w : World) (hl : Bys w w.heap.size A l) (hc : l.length ≤ c) :
    Calls Tryd.prog 119 #[.slice A l.length c] w (FdP (decI l) w) := by
  by_cases h9 : 9 ≤ l.length
  · obtain ⟨b, o, rfl, hb, hcell⟩ := hl (by intro e; rw [e] at h9; simp at h9)
    have hr : decI l = some (⟨1, (val8 ((l.drop 1).take 8) : Int) - 9223372036854775808, ⟨#[]⟩⟩, 9) := if_pos h9
    rw [hr]
    have hm9 : ((l.drop 1).take 8).length = 8 := by simp; omega
    obtain ⟨m8, hm8⟩ : ∃ m8, m8 = (l.drop 1).take 8 := ⟨_, rfl⟩
    rw [← hm8] at hm9
    have hcell' : ∀ i (hi : i < 8), w.cell? ⟨b, o + 1 + i, none⟩ = some (.int .u8 ((m8[i]'(by omega)).toNat : Int)) := fun i hi => by
      rw [show o + 1 + i = o + (i + 1) by omega, hcell (i + 1) (by omega)]
      congr 3
      simp [hm8]
    rw [← hm8]
    have i1 : (9 : Int) ≤ (l.length : Int) := by omega
    have i2 : (l.length : Int) ≤ (c : Int) := by omega
    clear hr hl hcell hm8
    go_enter Tryd.func119, Tryd.ntmps119
    go_wp2_with fail
    have hbA := (Below.refl w.heap.size w).alloc (Nat.le_refl _) (.cells #[.int .i64 0, .int .i64 0, .string ⟨#[]⟩] 98)
    have hcellA : ∀ i (hi : i < 8), (w.alloc (.cells #[.int .i64 0, .int .i64 0, .string ⟨#[]⟩] 98)).cell? ⟨b, o + 1 + i, none⟩ = some (.int .u8 ((m8[i]'(by omega)).toNat : Int)) := fun i hi => (hbA.cell (p := ⟨b, o + 1 + i, none⟩) hb).trans (hcell' i hi)
    have HCA := Lib.hid hcellA
    clear hcell' hcellA
    go_loop [4, 14] (fun n i => ∃ k m : Nat, k ≤ 8 ∧ i = .int .i64 (k : Int) ∧ n = .int .u64 (m : Int) ∧ Hid (m = val8 (m8.take k))) (fun _ i => 8 - (intOf i).toNat)
    case atStart => exact ⟨0, 0, by omega, rfl, rfl, Lib.hid rfl⟩
    case round =>
      obtain ⟨k, m, hk, rfl, rfl, HM⟩ := hrel
      by_cases hlt : k < 8
      · have hx := HCA.out k hlt
        have hxs : val8 (m8.take (k + 1)) = m * 256 + (m8[k]'(by omega)).toNat := by
          rw [List.take_succ_eq_append_getElem (by omega), val8_snoc, HM.out]
        have hx8 := (m8[k]'(by omega)).toNat_lt
        obtain ⟨x, hxy⟩ : ∃ x : Nat, x = (m8[k]'(by omega)).toNat := ⟨_, rfl⟩
        rw [← hxy] at hx hx8 hxs
        have hm : m < 72057594037927936 := by
          have h1 := val8_lt (m8.take k)
          rw [← HM.out, List.length_take] at h1
          have h2 : 256 ^ (min k m8.length) ≤ 256 ^ 7 := Nat.pow_le_pow_right (by omega) (by omega)
          omega
        have ho := or_step hm hx8
        have HN := Lib.hid hxs
        have i3 : (k : Int) < 8 := by omega
        have i4 : (0 : Int) ≤ (k : Int) := by omega
        clear hxs hxy HM
        go_wp2_with fail
        exact ⟨⟨k + 1, m * 256 + x, hlt, by go_num, by go_num, Lib.hid HN.out.symm⟩, by simp [intOf]; omega⟩
      · have hk8 : k = 8 := by omega
        subst hk8
        have hm : m < 18446744073709551616 := by
          have h1 := val8_lt (m8.take 8)
          rw [← HM.out, List.length_take] at h1
          have h2 : 256 ^ (min 8 m8.length) ≤ 256 ^ 8 := Nat.pow_le_pow_right (by omega) (by omega)
          omega
        have ho := xor_back hm
        have HN : Hid (m = val8 m8) := Lib.hid (by rw [HM.out, List.take_of_length_le (by omega)])
        clear HM
        go_wp2_with fail
        rw [← HN.out]
        refine bodyPost_ret (v := .tuple #[.agg #[.int .i64 1, .int .i64 ((m : Int) - 9223372036854775808), .string ⟨#[]⟩], .int .i64 9]) (by simp [results, Tryd.results119, go_sem]) rfl ⟨rfl, (Below.refl _ _).alloc (Nat.le_refl _) _⟩
  · have hr : decI l = none := if_neg h9
    rw [hr]
    have i1 : (l.length : Int) < 9 := by omega
    clear hr
    go_enter Tryd.func119, Tryd.ntmps119
    go_wp2_with fail
    refine bodyPost_ret (v := .tuple #[.agg #[.int .i64 0, .int .i64 0, .string ⟨#[]⟩], .int .i64 0]) (by simp [results, Tryd.results119, go_sem]) rfl ⟨rfl, (Below.refl _ _).alloc (Nat.le_refl _) _⟩

/-- A text at the beginning of bytes. -/
def decX (l : List UInt8) : Option (Fd × Nat) := match decT 1 [] (l.drop 1) with
  | some (t, n) => if t.length ≤ 16 then some (⟨2, 0, ⟨t.toArray⟩⟩, n) else none
  | none => none
theorem decT_grow : ∀ (m : Nat) (l : List UInt8) (i : Nat) (t t' : List UInt8) (n : Nat), l.length ≤ m → decT i t l = some (t', n) → t.length ≤ t'.length
  | _, [], _, _, _, _, _, h => by simp [decT] at h
  | _, [_], _, _, _, _, _, h => by simp [decT] at h
  | 0, _ :: _ :: _, _, _, _, _, hm, _ => by simp at hm
  | m + 1, c :: d :: r, i, t, t', n, hm, h => by
    simp only [List.length_cons] at hm
    unfold decT at h
    split at h
    · have := decT_grow m (d :: r) _ _ _ _ (by simp; omega) h
      simp at this; omega
    · split at h
      · have := decT_grow m r _ _ _ _ (by omega) h
        simp at this; omega
      · split at h
        · cases h; exact Nat.le_refl _
        · cases h
theorem decX_long {l t : List UInt8} {k : Nat} (h : decT k t (l.drop k) = decT 1 [] (l.drop 1)) (ht : 16 < t.length) : decX l = none := by
  unfold decX
  split
  · rename_i t' n e
    rw [e] at h
    have := decT_grow _ _ _ _ _ _ (Nat.le_refl _) h
    rw [if_neg (by omega)]
  · rfl
theorem decX_none {l : List UInt8} (h : decT 1 [] (l.drop 1) = none) : decX l = none := by unfold decX; rw [h]
theorem decX_some {l t : List UInt8} {n : Nat} (h : decT 1 [] (l.drop 1) = some (t, n)) (ht : t.length ≤ 16) : decX l = some (⟨2, 0, ⟨t.toArray⟩⟩, n) := by
  unfold decX; rw [h]; simp [ht]
theorem u8_int (x : UInt8) (n : Nat) (hn : n < 256) : (((x.toNat : Int) == (n : Int)) = true ↔ x = UInt8.ofNat n) := by
  rw [beq_iff_eq]
  constructor
  · intro h; apply UInt8.toNat_inj.1; rw [toNat_ofNat8 hn]; omega
  · intro h; rw [h, toNat_ofNat8 hn]

set_option maxRecDepth 100000 in
set_option maxHeartbeats 3200000 in
theorem decodeText_any (A : Option Addr) (l : List UInt8) (c : Nat) (w : World) (hl : Bys w w.heap.size A l) (hn : l.length ≤ 1000000000) :
    Calls Tryd.prog 120 #[.slice A l.length c] w (FdP (decX l) w) := by
  obtain ⟨i0, hi0, hz0, hz1, hz2⟩ := info_parts infoByte
  obtain ⟨R, hR⟩ : ∃ R, R = decX l := ⟨_, rfl⟩
  rw [← hR]
  have HR := Lib.hid hR
  clear hR
  obtain ⟨T, hT⟩ : ∃ T, T = decT 1 [] (l.drop 1) := ⟨_, rfl⟩
  have HT := Lib.hid hT
  clear hT
  have hP0 := Has.new w 98 #[.int .i64 0, .int .i64 0, .string ⟨#[]⟩]
  have hbA := (Below.refl w.heap.size w).alloc (Nat.le_refl _) (.cells #[.int .i64 0, .int .i64 0, .string ⟨#[]⟩] 98)
  obtain ⟨wa, hwa⟩ : ∃ wa, wa = w.alloc (.cells #[.int .i64 0, .int .i64 0, .string ⟨#[]⟩] 98) := ⟨_, rfl⟩
  have hsz : wa.heap.size = w.heap.size + 1 := by rw [hwa]; simp
  rw [← hwa] at hP0 hbA
  have HW := Lib.hid hwa
  go_enter Tryd.func120, Tryd.ntmps120
  go_wp2_with fail
  rw [← hwa]
  clear hwa
  go_loopw [4, 5] (fun b i wr => ∃ (A1 : Option Addr) (c1 k : Nat) (t : List UInt8), b = .slice A1 t.length c1 ∧ 1 ≤ k ∧ k ≤ l.length + 1 ∧ i = .int .i64 (k : Int) ∧ OwnB wr (w.heap.size + 1) (.slice A1 t.length c1) t ∧ Below (w.heap.size + 1) wa wr ∧ t.length ≤ 17 ∧ Hid (decT k t (l.drop k) = T)) (fun _ i _ => l.length + 1 - (intOf i).toNat)
  case atStart => exact ⟨none, 0, 1, [], rfl, by omega, by omega, rfl, OwnB.nil _ _, Below.refl _ _, by simp, Lib.hid HT.out.symm⟩
  case round =>
    obtain ⟨A1, c1, k, t, rfl, hk1, hk, rfl, ho1, hB, ht17, HD⟩ := hrel
    have hbs : w.heap.size + 1 ≤ wr.heap.size := by have := hB.size; omega
    have hP : Has wr w.heap.size 98 #[.int .i64 0, .int .i64 0, .string ⟨#[]⟩] := (hB.block _ (Nat.lt_succ_self _)).trans hP0
    have hBw : Below w.heap.size w wr := hbA.trans (hB.mono (Nat.le_succ _))
    have p0 : wr.cell? ⟨w.heap.size, 0, none⟩ = some (.int .i64 0) := hP.cell 0
    have p1 : wr.cell? ⟨w.heap.size, 1, none⟩ = some (.int .i64 0) := hP.cell 1
    have p2 : wr.cell? ⟨w.heap.size, 2, none⟩ = some (.string ⟨#[]⟩) := hP.cell 2
    have pf : ∀ o, wr.frozen? ⟨w.heap.size, o, none⟩ = false := fun o => hP.frozen o
    by_cases hlt : k + 1 < l.length
    · have j1 : (k : Int) + 1 < (l.length : Int) := by omega
      by_cases h16 : t.length ≤ 16
      · have j2 : (t.length : Int) ≤ 16 := by omega
        obtain ⟨b, o, rfl, hb, hc⟩ := hl (by intro e; rw [e] at hlt; simp at hlt)
        have hx := (hBw.cell (p := ⟨b, o + k, none⟩) hb).trans (hc k (by omega))
        have hy := (hBw.cell (p := ⟨b, o + (k + 1), none⟩) hb).trans (hc (k + 1) hlt)
        have hd := HD.out
        rw [List.drop_eq_getElem_cons (show k < l.length by omega), List.drop_eq_getElem_cons hlt] at hd
        have hdy : l.drop (k + 1) = l[k + 1] :: l.drop (k + 1 + 1) := List.drop_eq_getElem_cons hlt
        generalize l[k] = x at *
        generalize l[k + 1] = y at *
        have hx8 := x.toNat_lt
        have hy8 := y.toNat_lt
        unfold decT at hd
        have HDY := Lib.hid hdy
        clear hdy HD hl hc
        by_cases hx0 : x = 0
        · have t0 : ((x.toNat : Int) == 0) = true := (u8_int x 0 (by omega)).2 hx0
          rw [if_neg (fun h => h hx0)] at hd
          by_cases hy255 : y = 255
          · have t1 : ((y.toNat : Int) == 255) = true := (u8_int y 255 (by omega)).2 hy255
            rw [if_pos hy255] at hd
            have HN := Lib.hid hd
            clear hd hx0 hy255
            go_wp2_with (at_builtin; refine wpList_push1 rfl _ _ 58 rfl (w.heap.size + 1) i0 Tryd.underlying58 hi0 hz0 hz1 hz2 (.slice A1 t.length c1) t wr 0 _ rfl rfl ho1 rfl (by omega) hbs ?_; intro v2 w2 ho2 hp2)
            have hB2 := hB.trans (hp2.below ho1 hbs)
            obtain ⟨A2, c2, rfl, -, -, -⟩ := ho2.read
            exact ⟨⟨A2, c2, k + 2, t ++ [0], rfl, by omega, by omega, by go_num, ho2, hB2, by simp; omega, Lib.hid HN.out⟩, by simp [intOf]; omega⟩
          · have t1 : ((y.toNat : Int) == 255) = false := by rw [← Bool.not_eq_true]; exact fun h => hy255 ((u8_int y 255 (by omega)).1 h)
            rw [if_neg hy255] at hd
            by_cases hy1 : y = 1
            · have t2 : ((y.toNat : Int) == 1) = true := (u8_int y 1 (by omega)).2 hy1
              rw [if_pos hy1] at hd
              have HN := Lib.hid hd
              obtain ⟨A3, c3, e3, -, -, hby⟩ := ho1.read
              injection e3 with e3 _ e4
              subst e3 e4
              have hcv := run_str (P := Tryd.prog) wr _ A1 t c1 hby 58 9 Tryd.underlying58 Tryd.underlying5 Tryd.underlying9
              obtain ⟨r, hr⟩ : ∃ r : ByteArray, r = ⟨t.toArray⟩ := ⟨_, rfl⟩
              rw [← hr] at hcv
              have hrr := decX_some (l := l) (HT.out.symm.trans HN.out.symm) h16
              rw [← hr] at hrr
              have HX := Lib.hid hrr
              clear hd hx0 hy255 hy1 hr hby hrr
              go_wp2_with fail
              refine bodyPost_ret (v := .tuple #[.agg #[.int .i64 2, .int .i64 0, .string r], .int .i64 (k + 2 : Int)]) (by simp [results, Tryd.results120, go_sem, *]) rfl ⟨by rw [HR.out, HX.out]; rfl, ((hBw.setCell (p := ⟨w.heap.size, 0, none⟩) (Nat.le_refl _) _).setCell (p := ⟨w.heap.size, 1, none⟩) (Nat.le_refl _) _).setCell (p := ⟨w.heap.size, 2, none⟩) (Nat.le_refl _) _⟩
            · have t2 : ((y.toNat : Int) == 1) = false := by rw [← Bool.not_eq_true]; exact fun h => hy1 ((u8_int y 1 (by omega)).1 h)
              rw [if_neg hy1] at hd
              have HN := Lib.hid hd
              clear hd hx0 hy255 hy1
              go_wp2_with fail
              refine bodyPost_ret (v := .tuple #[.agg #[.int .i64 0, .int .i64 0, .string ⟨#[]⟩], .int .i64 0]) (by simp [results, Tryd.results120, go_sem, *]) rfl ⟨by rw [HR.out, decX_none (HT.out.symm.trans HN.out.symm)]; rfl, ((hBw.setCell (p := ⟨w.heap.size, 0, none⟩) (Nat.le_refl _) _).setCell (p := ⟨w.heap.size, 1, none⟩) (Nat.le_refl _) _).setCell (p := ⟨w.heap.size, 2, none⟩) (Nat.le_refl _) _⟩
        · have t0 : ((x.toNat : Int) == 0) = false := by rw [← Bool.not_eq_true]; exact fun h => hx0 ((u8_int x 0 (by omega)).1 h)
          rw [if_pos hx0] at hd
          have HN := Lib.hid hd
          clear hd hx0
          go_wp2_with (at_builtin; refine wpList_push1 rfl _ _ 58 rfl (w.heap.size + 1) i0 Tryd.underlying58 hi0 hz0 hz1 hz2 (.slice A1 t.length c1) t wr x _ rfl rfl ho1 rfl (by omega) hbs ?_; intro v2 w2 ho2 hp2)
          have hB2 := hB.trans (hp2.below ho1 hbs)
          obtain ⟨A2, c2, rfl, -, -, -⟩ := ho2.read
          exact ⟨⟨A2, c2, k + 1, t ++ [x], rfl, by omega, by omega, by go_num, ho2, hB2, by simp; omega, Lib.hid (by rw [HDY.out]; exact HN.out)⟩, by simp [intOf]; omega⟩
      · have j2 : (16 : Int) < (t.length : Int) := by omega
        go_wp2_with fail
        refine bodyPost_ret (v := .tuple #[.agg #[.int .i64 0, .int .i64 0, .string ⟨#[]⟩], .int .i64 0]) (by simp [results, Tryd.results120, go_sem, *]) rfl ⟨by rw [HR.out, decX_long (HD.out.trans HT.out) (by omega)]; rfl, ((hBw.setCell (p := ⟨w.heap.size, 0, none⟩) (Nat.le_refl _) _).setCell (p := ⟨w.heap.size, 1, none⟩) (Nat.le_refl _) _).setCell (p := ⟨w.heap.size, 2, none⟩) (Nat.le_refl _) _⟩
    · have hnone : T = none := by
        rw [← HD.out]
        have : (l.drop k).length ≤ 1 := by simp; omega
        generalize l.drop k = l3 at this
        match l3, this with
        | [], _ => rfl
        | [_], _ => rfl
      have HN := Lib.hid (HT.out.symm.trans hnone)
      have j1 : ¬ ((k : Int) + 1 < (l.length : Int)) := by omega
      clear hnone
      go_wp2_with fail
      refine bodyPost_ret (v := .tuple #[.agg #[.int .i64 0, .int .i64 0, .string ⟨#[]⟩], .int .i64 0]) (by simp [results, Tryd.results120, go_sem, *]) rfl ⟨by rw [HR.out, decX_none HN.out]; rfl, ((hBw.setCell (p := ⟨w.heap.size, 0, none⟩) (Nat.le_refl _) _).setCell (p := ⟨w.heap.size, 1, none⟩) (Nat.le_refl _) _).setCell (p := ⟨w.heap.size, 2, none⟩) (Nat.le_refl _) _⟩
end Go.Proofs.YtlnmpiigmedgkaaDoor
