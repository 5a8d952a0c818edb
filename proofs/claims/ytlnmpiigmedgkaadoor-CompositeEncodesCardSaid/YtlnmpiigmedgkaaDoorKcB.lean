/-
  The calls of package composite that compare fields and lists, and those of package cmp under them: what they answer, in every world; they only make memory. Conditions: the arguments can be read.
-/
import Derived.Test.YtlnmpiigmedgkaaDoorKcA
namespace Go.Proofs.YtlnmpiigmedgkaaDoor
open Go.RowKit

theorem nan_int (a : Int) (w : World) : Calls Tryd.prog 126 #[.int .i64 a] w fun e w' => e = .returned (.bool false) ∧ w = w' := by
  go_enter Tryd.func126, Tryd.ntmps126
  go_wp2
  go_ret
  exact ⟨ret_bool (by simp), rfl⟩
set_option maxRecDepth 100000 in
set_option maxHeartbeats 800000 in
theorem cmp_int (a b : Int) (w : World) : Calls Tryd.prog 80 #[.int .i64 a, .int .i64 b] w fun e w' => e = .returned (.int .i64 (cmpI a b)) ∧ w = w' := by
  rcases Int.lt_trichotomy a b with h | h | h
  · have hr : cmpI a b = -1 := by simp [cmpI, h]
    rw [hr]
    clear hr
    go_enter Tryd.func80, Tryd.ntmps80
    go_wp2_with (go_at_call 126; refine (nan_int _ _).mono ?_; rintro e w' ⟨rfl, rfl⟩)
    go_ret
    exact ⟨rfl, rfl⟩
  · subst h
    have hr : cmpI a a = 0 := by simp [cmpI]
    rw [hr]
    clear hr
    go_enter Tryd.func80, Tryd.ntmps80
    go_wp2_with (go_at_call 126; refine (nan_int _ _).mono ?_; rintro e w' ⟨rfl, rfl⟩)
    go_ret
    exact ⟨rfl, rfl⟩
  · have hr : cmpI a b = 1 := by unfold cmpI; rw [if_neg (by omega), if_pos h]
    have h1 : ¬ a < b := by omega
    rw [hr]
    clear hr
    go_enter Tryd.func80, Tryd.ntmps80
    go_wp2_with (go_at_call 126; refine (nan_int _ _).mono ?_; rintro e w' ⟨rfl, rfl⟩)
    go_ret
    exact ⟨rfl, rfl⟩

theorem nan_int64 (a : Int) (w : World) : Calls Tryd.prog 154 #[.int .i64 a] w fun e w' => e = .returned (.bool false) ∧ w = w' := by
  go_enter Tryd.func154, Tryd.ntmps154
  go_wp2
  go_ret
  exact ⟨ret_bool (by simp), rfl⟩
set_option maxRecDepth 100000 in
set_option maxHeartbeats 800000 in
theorem cmp_int64 (a b : Int) (w : World) : Calls Tryd.prog 124 #[.int .i64 a, .int .i64 b] w fun e w' => e = .returned (.int .i64 (cmpI a b)) ∧ w = w' := by
  rcases Int.lt_trichotomy a b with h | h | h
  · have hr : cmpI a b = -1 := by simp [cmpI, h]
    rw [hr]
    clear hr
    go_enter Tryd.func124, Tryd.ntmps124
    go_wp2_with (go_at_call 154; refine (nan_int64 _ _).mono ?_; rintro e w' ⟨rfl, rfl⟩)
    go_ret
    exact ⟨rfl, rfl⟩
  · subst h
    have hr : cmpI a a = 0 := by simp [cmpI]
    rw [hr]
    clear hr
    go_enter Tryd.func124, Tryd.ntmps124
    go_wp2_with (go_at_call 154; refine (nan_int64 _ _).mono ?_; rintro e w' ⟨rfl, rfl⟩)
    go_ret
    exact ⟨rfl, rfl⟩
  · have hr : cmpI a b = 1 := by unfold cmpI; rw [if_neg (by omega), if_pos h]
    have h1 : ¬ a < b := by omega
    rw [hr]
    clear hr
    go_enter Tryd.func124, Tryd.ntmps124
    go_wp2_with (go_at_call 154; refine (nan_int64 _ _).mono ?_; rintro e w' ⟨rfl, rfl⟩)
    go_ret
    exact ⟨rfl, rfl⟩

theorem nan_string (a : ByteArray) (w : World) : Calls Tryd.prog 155 #[.string a] w fun e w' => e = .returned (.bool false) ∧ w = w' := by
  go_enter Tryd.func155, Tryd.ntmps155
  go_wp2
  go_ret
  exact ⟨ret_bool (by simp), rfl⟩
set_option maxRecDepth 100000 in
set_option maxHeartbeats 800000 in
theorem cmp_string (a b : ByteArray) (w : World) : Calls Tryd.prog 125 #[.string a, .string b] w fun e w' => e = .returned (.int .i64 (cmpT a b)) ∧ w = w' := by
  cases h1 : kl a b
  · cases h2 : kl b a
    · obtain rfl := kl_tri h1 h2
      have hr : cmpT a a = 0 := by simp [cmpT, h1]
      rw [hr]
      have t1 : Op.bytesLess a.toList a.toList = false := h1
      clear hr h1 h2
      go_enter Tryd.func125, Tryd.ntmps125
      go_wp2_with (go_at_call 155; refine (nan_string _ _).mono ?_; rintro e w' ⟨rfl, rfl⟩)
      go_ret
      exact ⟨rfl, rfl⟩
    · have hr : cmpT a b = 1 := by simp [cmpT, h1, h2]
      rw [hr]
      have t1 : Op.bytesLess a.toList b.toList = false := h1
      have t2 : (!a.toList == b.toList) = true := by
        cases e : a.toList == b.toList
        · rfl
        · rw [show a = b from toList_inj (by simpa using e), kl_irrefl] at h2; cases h2
      clear hr h1 h2
      go_enter Tryd.func125, Tryd.ntmps125
      go_wp2_with (go_at_call 155; refine (nan_string _ _).mono ?_; rintro e w' ⟨rfl, rfl⟩)
      go_ret
      exact ⟨rfl, rfl⟩
  · have hr : cmpT a b = -1 := by simp [cmpT, h1]
    rw [hr]
    have t1 : Op.bytesLess a.toList b.toList = true := h1
    clear hr h1
    go_enter Tryd.func125, Tryd.ntmps125
    go_wp2_with (go_at_call 155; refine (nan_string _ _).mono ?_; rintro e w' ⟨rfl, rfl⟩)
    go_ret
    exact ⟨rfl, rfl⟩

/-- The first of three numbers that is not 0. -/
def or3 (a b c : Int) : Int := if a ≠ 0 then a else if b ≠ 0 then b else c
set_option maxRecDepth 100000 in
set_option maxHeartbeats 1600000 in
theorem or_any (b c : Nat) (x y z : Int) (w : World) (h0 : w.cell? ⟨b, 0, none⟩ = some (.int .i64 x)) (h1 : w.cell? ⟨b, 1, none⟩ = some (.int .i64 y)) (h2 : w.cell? ⟨b, 2, none⟩ = some (.int .i64 z)) :
    Calls Tryd.prog 123 #[.slice (some ⟨b, 0, none⟩) 3 c] w fun e w' => e = .returned (.int .i64 (or3 x y z)) ∧ w = w' := by
  go_enter Tryd.func123, Tryd.ntmps123
  go_wp2_with fail
  go_loop [8] (fun i => ∃ k : Nat, k ≤ 3 ∧ i = .int .i64 (k : Int) ∧ Hid ((0 < k → x = 0) ∧ (1 < k → y = 0) ∧ (2 < k → z = 0))) (fun i => 3 - (intOf i).toNat)
  case atStart => exact ⟨0, by omega, rfl, Lib.hid ⟨by omega, by omega, by omega⟩⟩
  case round =>
    obtain ⟨k, hk, rfl, HK⟩ := hrel
    have hk' : k = 0 ∨ k = 1 ∨ k = 2 ∨ k = 3 := by omega
    rcases hk' with rfl | rfl | rfl | rfl
    · by_cases hx : x = 0
      · subst hx
        go_wp2_with fail
        exact ⟨⟨1, by omega, rfl, Lib.hid ⟨fun _ => trivial, by omega, by omega⟩⟩, by simp [intOf]⟩
      · have e1 : (x != 0) = true := by simpa using hx
        go_wp2_with fail
        go_ret
        exact ⟨ret_int (by simp [or3, hx]), rfl⟩
    · have hx := HK.out.1 (by omega)
      by_cases hy : y = 0
      · subst hy
        go_wp2_with fail
        exact ⟨⟨2, by omega, rfl, Lib.hid ⟨fun _ => hx, fun _ => trivial, by omega⟩⟩, by simp [intOf]⟩
      · have e1 : (y != 0) = true := by simpa using hy
        have HX := Lib.hid hx
        clear hx
        go_wp2_with fail
        go_ret
        exact ⟨ret_int (by simp [or3, hy, HX.out]), rfl⟩
    · have hx := HK.out.1 (by omega)
      have hy := HK.out.2.1 (by omega)
      by_cases hz : z = 0
      · subst hz
        go_wp2_with fail
        exact ⟨⟨3, by omega, rfl, Lib.hid ⟨fun _ => hx, fun _ => hy, fun _ => trivial⟩⟩, by simp [intOf]⟩
      · have e1 : (z != 0) = true := by simpa using hz
        have HX := Lib.hid hx
        have HY := Lib.hid hy
        clear hx hy
        go_wp2_with fail
        go_ret
        exact ⟨ret_int (by simp [or3, HX.out, HY.out]), rfl⟩
    · go_wp2_with fail
      go_ret
      exact ⟨ret_int (by simp [or3, HK.out.1, HK.out.2.1, HK.out.2.2]), rfl⟩
theorem cmpF_or (a b : Fd) : or3 (cmpI a.kind b.kind) (cmpI a.num b.num) (cmpT a.text b.text) = cmpF a b := rfl

set_option maxRecDepth 100000 in
set_option maxHeartbeats 3200000 in
theorem cmpF_any (a b : Fd) (w : World) : Calls Tryd.prog 79 #[a.val, b.val] w (IntB (cmpF a b) w) := by
  obtain ⟨ak, an, at'⟩ := a
  obtain ⟨bk, bn, bt⟩ := b
  rw [← cmpF_or]
  have hP := blk_cells (blk_alloc (blk_new w 98 #[.int .i64 ak, .int .i64 an, .string at']) (.cells #[.int .i64 bk, .int .i64 bn, .string bt] 98))
  have hQ := blk_cells (blk_new (w.alloc (.cells #[.int .i64 ak, .int .i64 an, .string at'] 98)) 98 #[.int .i64 bk, .int .i64 bn, .string bt])
  rw [World.size_alloc] at hQ
  have hb := ((Below.refl w.heap.size w).alloc (Nat.le_refl _) (.cells #[.int .i64 ak, .int .i64 an, .string at'] 98)).alloc (by simp) (.cells #[.int .i64 bk, .int .i64 bn, .string bt] 98)
  have hz : ((w.alloc (.cells #[.int .i64 ak, .int .i64 an, .string at'] 98)).alloc (.cells #[.int .i64 bk, .int .i64 bn, .string bt] 98)).heap.size = w.heap.size + 1 + 1 := by simp
  have HZ := Lib.hid hz
  clear hz
  go_enter Tryd.func79, Tryd.ntmps79
  go_wp2_with fail
  generalize (w.alloc (.cells #[.int .i64 ak, .int .i64 an, .string at'] 98)).alloc (.cells #[.int .i64 bk, .int .i64 bn, .string bt] 98) = w1 at hP hQ hb HZ ⊢
  have p0 : w1.drew.cell? ⟨w.heap.size, 0, none⟩ = some (.int .i64 ak) := hP.1 0
  have p1 : w1.drew.cell? ⟨w.heap.size, 1, none⟩ = some (.int .i64 an) := hP.1 1
  have p2 : w1.drew.cell? ⟨w.heap.size, 2, none⟩ = some (.string at') := hP.1 2
  have q0 : w1.drew.cell? ⟨w.heap.size + 1, 0, none⟩ = some (.int .i64 bk) := hQ.1 0
  have q1 : w1.drew.cell? ⟨w.heap.size + 1, 1, none⟩ = some (.int .i64 bn) := hQ.1 1
  have q2 : w1.drew.cell? ⟨w.heap.size + 1, 2, none⟩ = some (.string bt) := hQ.1 2
  replace hb := hb.drew
  clear hP hQ HZ
  refine wp_region_still_tail 15 (by kernel_rfl) (by kernel_rfl) ?_
  simp only [List.take_succ_cons, List.take_zero, List.drop_succ_cons, List.drop_zero]
  change wpStill _ _ w1.drew (fun a' => wpList _ _ _ _ a' w1.drew) _ _
  generalize w1.drew = w9 at *
  repeat still_step
  still_call ((cmp_int ak bk w9).mono fun _ _ h => ⟨h.1, h.2.symm⟩)
  repeat still_step
  still_call ((cmp_int64 an bn w9).mono fun _ _ h => ⟨h.1, h.2.symm⟩)
  repeat still_step
  still_call ((cmp_string at' bt w9).mono fun _ _ h => ⟨h.1, h.2.symm⟩)
  repeat still_step
  refine wpStill_nil ?_
  have hN := blk_cells (blk_new w9 3 #[.int .i64 (cmpI ak bk), .int .i64 (cmpI an bn), .int .i64 (cmpT at' bt)])
  have hbN := hb.alloc hb.size (.cells #[.int .i64 (cmpI ak bk), .int .i64 (cmpI an bn), .int .i64 (cmpT at' bt)] 3)
  have HO := Lib.hid (or_any w9.heap.size 3 (cmpI ak bk) (cmpI an bn) (cmpT at' bt) _ (hN.1 0) (hN.1 1) (hN.1 2))
  clear p0 p1 p2 q0 q1 q2 hN hb
  go_wp2_with fail
  refine (HO.out).mono ?_
  rintro e w10 ⟨rfl, rfl⟩
  go_wp2_with fail
  go_ret
  exact ⟨rfl, hbN⟩

theorem cmpR_end {s : List Col} {x y : List Fd} (h : x = [] ∨ y = []) : cmpR s x y = cmpI x.length y.length := by
  rcases h with rfl | rfl
  · cases s <;> cases y <;> rfl
  · cases s <;> cases x <;> rfl
theorem cmpI_sub {a b k : Nat} (h1 : k ≤ a) (h2 : k ≤ b) : cmpI ((a - k : Nat) : Int) ((b - k : Nat) : Int) = cmpI (a : Int) (b : Int) := by
  unfold cmpI
  split <;> split <;> first | rfl | (split <;> first | rfl | omega) | omega
theorem cmpR_stop {s : List Col} {a b : List Fd} {k : Nat} (h1 : k ≤ a.length) (h2 : k ≤ b.length) (h : a.length ≤ k ∨ b.length ≤ k) : cmpR (s.drop k) (a.drop k) (b.drop k) = cmpI (a.length : Int) (b.length : Int) := by
  rw [cmpR_end (h.imp List.drop_eq_nil_of_le List.drop_eq_nil_of_le), List.length_drop, List.length_drop, cmpI_sub h1 h2]
theorem cmpR_step {s : List Col} {a b : List Fd} {k : Nat} (h0 : k < s.length) (h1 : k < a.length) (h2 : k < b.length) : cmpR (s.drop k) (a.drop k) (b.drop k) = if cmpF a[k] b[k] = 0 then cmpR (s.drop (k + 1)) (a.drop (k + 1)) (b.drop (k + 1)) else if s[k].desc then -cmpF a[k] b[k] else cmpF a[k] b[k] := by
  rw [List.drop_eq_getElem_cons h0, List.drop_eq_getElem_cons h1, List.drop_eq_getElem_cons h2]
  rfl
theorem cmpF_bd (a b : Fd) : -1 ≤ cmpF a b ∧ cmpF a b ≤ 1 := by
  have h1 : ∀ x y, -1 ≤ cmpI x y ∧ cmpI x y ≤ 1 := fun x y => by unfold cmpI; split <;> (try split) <;> omega
  have h2 : ∀ x y, -1 ≤ cmpT x y ∧ cmpT x y ≤ 1 := fun x y => by unfold cmpT; split <;> (try split) <;> omega
  unfold cmpF
  split
  · exact h1 _ _
  · split
    · exact h1 _ _
    · exact h2 _ _

set_option maxRecDepth 100000 in
set_option maxHeartbeats 6400000 in
theorem compare_any (A0 A1 A2 : Option Addr) (s : List Col) (a b : List Fd) (c0 c1 c2 : Nat) (w : World) (hs : Cols w w.heap.size A0 s) (ha : Fds w w.heap.size A1 a) (hb : Fds w w.heap.size A2 b) (hs63 : s.length ≤ 9223372036854775807) :
    Calls Tryd.prog 29 #[.slice A0 s.length c0, .slice A1 a.length c1, .slice A2 b.length c2] w (IntB (cmpL s a b) w) := by
  cases hfa : fitsL s a
  · have hr : cmpL s a b = 0 := by simp [cmpL, hfa]
    rw [hr]
    have H1 := Lib.hid ((fits_any A0 A1 s a c0 c1 w hs ha hs63).mono fun e w' h => (⟨by rw [h.1, hfa], h.2⟩ : e = .returned (.bool false) ∧ Below w.heap.size w w'))
    clear hr hfa
    go_enter Tryd.func29, Tryd.ntmps29
    go_wp2_with fail
    refine (H1.out).mono ?_
    rintro e w1 ⟨rfl, hb1⟩
    go_wp2_with fail
    go_ret
    exact ⟨rfl, hb1⟩
  · have H1 := Lib.hid ((fits_any A0 A1 s a c0 c1 w hs ha hs63).mono fun e w' h => (⟨by rw [h.1, hfa], h.2⟩ : e = .returned (.bool true) ∧ Below w.heap.size w w'))
    have H2 := Lib.hid (fun (w1 : World) (k : Below w.heap.size w w1) => (fits_any A0 A2 s b c0 c2 w1 ((hs.below k).more k.size) ((hb.below k).more k.size) hs63))
    cases hfb : fitsL s b
    · have hr : cmpL s a b = 0 := by simp [cmpL, hfb]
      rw [hr]
      have HF := Lib.hid hfb
      clear hr hfa hfb
      go_enter Tryd.func29, Tryd.ntmps29
      go_wp2_with fail
      refine (H1.out).mono ?_
      rintro e w1 ⟨rfl, hb1⟩
      go_wp2_with fail
      refine (H2.out w1 hb1).mono ?_
      rintro e w2 ⟨he, hb2⟩
      rw [HF.out] at he
      subst he
      go_wp2_with fail
      go_ret
      exact ⟨rfl, hb1.trans (hb2.mono hb1.size)⟩
    · have hr : cmpL s a b = cmpR s a b := by simp [cmpL, hfa, hfb]
      rw [hr]
      have HF := Lib.hid hfb
      have hla : a.length ≤ s.length := fitsR_len (s := s) (by simp only [fitsL, Bool.and_eq_true] at hfa; exact hfa.2)
      have hlb : b.length ≤ s.length := fitsR_len (s := s) (by simp only [fitsL, Bool.and_eq_true] at hfb; exact hfb.2)
      clear hr hfa hfb
      go_enter Tryd.func29, Tryd.ntmps29
      go_wp2_with fail
      refine (H1.out).mono ?_
      rintro e w1 ⟨rfl, hb1⟩
      go_wp2_with fail
      refine (H2.out w1 hb1).mono ?_
      rintro e w2 ⟨he, hb2⟩
      rw [HF.out] at he
      subst he
      have hB := hb1.trans (hb2.mono hb1.size)
      clear hb1 hb2 H1 H2
      rcases Nat.lt_or_ge b.length a.length with hba | hba
      · go_wp2_with fail
        go_loopw [24] (fun i wr => ∃ k : Nat, k ≤ b.length ∧ i = .int .i64 (k : Int) ∧ Below w.heap.size w wr ∧ Hid (cmpR s a b = cmpR (s.drop k) (a.drop k) (b.drop k))) (fun i _ => b.length - (intOf i).toNat)
        case atStart => exact ⟨0, Nat.zero_le _, rfl, hB, rfl⟩
        case round =>
          clear hB
          obtain ⟨k, hk, rfl, hB, HE⟩ := hrel
          by_cases hlt : k < b.length
          · have hks : k < s.length := by omega
            have hka : k < a.length := by omega
            have hkb : k < b.length := by omega
            have he := HE.out
            rw [cmpR_step hks hka hkb] at he
            obtain ⟨b1, o1, hA1, hz1, d1, d2, d3⟩ := ha.at_ hka
            subst hA1
            replace d1 := (hB.cell (p := ⟨b1, o1 + k * 3, none⟩) hz1).trans d1
            replace d2 := (hB.cell (p := ⟨b1, o1 + k * 3 + 1, none⟩) hz1).trans d2
            replace d3 := (hB.cell (p := ⟨b1, o1 + k * 3 + 2, none⟩) hz1).trans d3
            obtain ⟨b2, o2, hA2, hz2, e1, e2, e3⟩ := hb.at_ hkb
            subst hA2
            replace e1 := (hB.cell (p := ⟨b2, o2 + k * 3, none⟩) hz2).trans e1
            replace e2 := (hB.cell (p := ⟨b2, o2 + k * 3 + 1, none⟩) hz2).trans e2
            replace e3 := (hB.cell (p := ⟨b2, o2 + k * 3 + 2, none⟩) hz2).trans e3
            obtain ⟨b0, o0, hA0, hz0, -, f2⟩ := hs.at_ hks
            subst hA0
            generalize s[k] = y at *
            generalize a[k] = x1 at *
            generalize b[k] = x2 at *
            obtain ⟨k1, n1, t1⟩ := x1
            obtain ⟨k2, n2, t2⟩ := x2
            obtain ⟨yk, yd⟩ := y
            have HE' := Lib.hid he
            have hbd := cmpF_bd ⟨k1, n1, t1⟩ ⟨k2, n2, t2⟩
            have HC := Lib.hid (fun W => cmpF_any ⟨k1, n1, t1⟩ ⟨k2, n2, t2⟩ W)
            have i0 : (0 : Int) ≤ (k : Int) := by omega
            have i1 : (k : Int) < (a.length : Int) := by omega
            have i2 : (k : Int) < (b.length : Int) := by omega
            clear he HE
            generalize cmpF ⟨k1, n1, t1⟩ ⟨k2, n2, t2⟩ = o at *
            go_wp2_with fail
            replace d1 : wr.drew.cell? ⟨b1, o1 + k * 3, none⟩ = some (.int .i64 k1) := d1
            replace d2 : wr.drew.cell? ⟨b1, o1 + k * 3 + 1, none⟩ = some (.int .i64 n1) := d2
            replace d3 : wr.drew.cell? ⟨b1, o1 + k * 3 + 2, none⟩ = some (.string t1) := d3
            replace e1 : wr.drew.cell? ⟨b2, o2 + k * 3, none⟩ = some (.int .i64 k2) := e1
            replace e2 : wr.drew.cell? ⟨b2, o2 + k * 3 + 1, none⟩ = some (.int .i64 n2) := e2
            replace e3 : wr.drew.cell? ⟨b2, o2 + k * 3 + 2, none⟩ = some (.string t2) := e3
            replace hB := hB.drew
            refine wp_region_still_tail 8 (by kernel_rfl) (by kernel_rfl) ?_
            simp only [List.take_succ_cons, List.take_zero, List.drop_succ_cons, List.drop_zero]
            change wpStill _ _ wr.drew (fun a' => wpList _ _ _ _ a' wr.drew) _ _
            generalize wr.drew = w9 at *
            repeat still_step
            refine wpStill_nil ?_
            go_wp2_with fail
            refine (HC.out w9).mono ?_
            rintro e w10 ⟨rfl, hb10⟩
            replace f2 := ((hB.trans (hb10.mono hB.size)).cell (p := ⟨b0, o0 + k * 2 + 1, none⟩) hz0).trans f2
            replace hB := hB.trans (hb10.mono hB.size)
            clear d1 d2 d3 e1 e2 e3 hb10 HC
            by_cases ho : o = 0
            · subst ho
              go_wp2_with fail
              go_roundw
              case rel => exact ⟨k + 1, hlt, by go_num, hB, Lib.hid (by rw [HE'.out]; rfl)⟩
              case measure => simp [intOf]; omega
            · have t0 : (o == 0) = false := by simpa using ho
              cases yd
              all_goals
                go_wp2_with fail
                go_ret
                exact ⟨ret_int (by rw [HE'.out, if_neg ho]; rfl), hB⟩
          · have he := HE.out
            rw [cmpR_stop (by omega) (by omega) (by omega)] at he
            have HE' := Lib.hid he
            clear he HE
            go_wp2_with fail
            refine (cmp_int _ _ _).mono ?_
            rintro e w9 ⟨rfl, rfl⟩
            go_wp2_with fail
            go_ret
            exact ⟨ret_int HE'.out.symm, hB⟩
      · go_wp2_with fail
        go_loopw [24] (fun i wr => ∃ k : Nat, k ≤ a.length ∧ i = .int .i64 (k : Int) ∧ Below w.heap.size w wr ∧ Hid (cmpR s a b = cmpR (s.drop k) (a.drop k) (b.drop k))) (fun i _ => a.length - (intOf i).toNat)
        case atStart => exact ⟨0, Nat.zero_le _, rfl, hB, rfl⟩
        case round =>
          clear hB
          obtain ⟨k, hk, rfl, hB, HE⟩ := hrel
          by_cases hlt : k < a.length
          · have hks : k < s.length := by omega
            have hka : k < a.length := by omega
            have hkb : k < b.length := by omega
            have he := HE.out
            rw [cmpR_step hks hka hkb] at he
            obtain ⟨b1, o1, hA1, hz1, d1, d2, d3⟩ := ha.at_ hka
            subst hA1
            replace d1 := (hB.cell (p := ⟨b1, o1 + k * 3, none⟩) hz1).trans d1
            replace d2 := (hB.cell (p := ⟨b1, o1 + k * 3 + 1, none⟩) hz1).trans d2
            replace d3 := (hB.cell (p := ⟨b1, o1 + k * 3 + 2, none⟩) hz1).trans d3
            obtain ⟨b2, o2, hA2, hz2, e1, e2, e3⟩ := hb.at_ hkb
            subst hA2
            replace e1 := (hB.cell (p := ⟨b2, o2 + k * 3, none⟩) hz2).trans e1
            replace e2 := (hB.cell (p := ⟨b2, o2 + k * 3 + 1, none⟩) hz2).trans e2
            replace e3 := (hB.cell (p := ⟨b2, o2 + k * 3 + 2, none⟩) hz2).trans e3
            obtain ⟨b0, o0, hA0, hz0, -, f2⟩ := hs.at_ hks
            subst hA0
            generalize s[k] = y at *
            generalize a[k] = x1 at *
            generalize b[k] = x2 at *
            obtain ⟨k1, n1, t1⟩ := x1
            obtain ⟨k2, n2, t2⟩ := x2
            obtain ⟨yk, yd⟩ := y
            have HE' := Lib.hid he
            have hbd := cmpF_bd ⟨k1, n1, t1⟩ ⟨k2, n2, t2⟩
            have HC := Lib.hid (fun W => cmpF_any ⟨k1, n1, t1⟩ ⟨k2, n2, t2⟩ W)
            have i0 : (0 : Int) ≤ (k : Int) := by omega
            have i1 : (k : Int) < (a.length : Int) := by omega
            have i2 : (k : Int) < (b.length : Int) := by omega
            clear he HE
            generalize cmpF ⟨k1, n1, t1⟩ ⟨k2, n2, t2⟩ = o at *
            go_wp2_with fail
            replace d1 : wr.drew.cell? ⟨b1, o1 + k * 3, none⟩ = some (.int .i64 k1) := d1
            replace d2 : wr.drew.cell? ⟨b1, o1 + k * 3 + 1, none⟩ = some (.int .i64 n1) := d2
            replace d3 : wr.drew.cell? ⟨b1, o1 + k * 3 + 2, none⟩ = some (.string t1) := d3
            replace e1 : wr.drew.cell? ⟨b2, o2 + k * 3, none⟩ = some (.int .i64 k2) := e1
            replace e2 : wr.drew.cell? ⟨b2, o2 + k * 3 + 1, none⟩ = some (.int .i64 n2) := e2
            replace e3 : wr.drew.cell? ⟨b2, o2 + k * 3 + 2, none⟩ = some (.string t2) := e3
            replace hB := hB.drew
            refine wp_region_still_tail 8 (by kernel_rfl) (by kernel_rfl) ?_
            simp only [List.take_succ_cons, List.take_zero, List.drop_succ_cons, List.drop_zero]
            change wpStill _ _ wr.drew (fun a' => wpList _ _ _ _ a' wr.drew) _ _
            generalize wr.drew = w9 at *
            repeat still_step
            refine wpStill_nil ?_
            go_wp2_with fail
            refine (HC.out w9).mono ?_
            rintro e w10 ⟨rfl, hb10⟩
            replace f2 := ((hB.trans (hb10.mono hB.size)).cell (p := ⟨b0, o0 + k * 2 + 1, none⟩) hz0).trans f2
            replace hB := hB.trans (hb10.mono hB.size)
            clear d1 d2 d3 e1 e2 e3 hb10 HC
            by_cases ho : o = 0
            · subst ho
              go_wp2_with fail
              go_roundw
              case rel => exact ⟨k + 1, hlt, by go_num, hB, Lib.hid (by rw [HE'.out]; rfl)⟩
              case measure => simp [intOf]; omega
            · have t0 : (o == 0) = false := by simpa using ho
              cases yd
              all_goals
                go_wp2_with fail
                go_ret
                exact ⟨ret_int (by rw [HE'.out, if_neg ho]; rfl), hB⟩
          · have he := HE.out
            rw [cmpR_stop (by omega) (by omega) (by omega)] at he
            have HE' := Lib.hid he
            clear he HE
            go_wp2_with fail
            refine (cmp_int _ _ _).mono ?_
            rintro e w9 ⟨rfl, rfl⟩
            go_wp2_with fail
            go_ret
            exact ⟨ret_int HE'.out.symm, hB⟩
end Go.Proofs.YtlnmpiigmedgkaaDoor
