/-
  turn and Encode of package composite. Conditions: the arguments can be read.
-/
import Derived.Test.YtlnmpiigmedgkaaDoorKcC
namespace Go.Proofs.YtlnmpiigmedgkaaDoor
open Go.RowKit

/-- The cells of block G from off on, complemented. -/
def turnW (w : World) (G off : Nat) : List UInt8 → World
  | [] => w
  | c :: r => turnW (w.setCell ⟨G, off, none⟩ (.int .u8 ((neg c).toNat : Int))) G (off + 1) r
theorem turnW_snoc (G : Nat) (c : UInt8) : ∀ (l : List UInt8) (w : World) (off : Nat), turnW w G off (l ++ [c]) = (turnW w G off l).setCell ⟨G, off + l.length, none⟩ (.int .u8 ((neg c).toNat : Int))
  | [], _, _ => rfl
  | d :: l, w, off => by
    show turnW _ G (off + 1) (l ++ [c]) = _
    rw [turnW_snoc G c l]
    show _ = (turnW _ G (off + 1) l).setCell _ _
    rw [List.length_cons, show off + 1 + l.length = off + (l.length + 1) by omega]
theorem turnW_size (G : Nat) : ∀ (l : List UInt8) (w : World) (off : Nat), (turnW w G off l).heap.size = w.heap.size
  | [], _, _ => rfl
  | c :: l, w, off => by
    show (turnW _ G (off + 1) l).heap.size = _
    rw [turnW_size G l]
    simp [World.setCell]
theorem turnW_out (G : Nat) {p : Addr} : ∀ (l : List UInt8) (w : World) (off : Nat), (∀ j, j < l.length → p ≠ ⟨G, off + j, none⟩) → (turnW w G off l).cell? p = w.cell? p
  | [], _, _, _ => rfl
  | c :: l, w, off, h => by
    show (turnW _ G (off + 1) l).cell? p = _
    rw [turnW_out G l _ _ (fun j hj => by have := h (j + 1) (by simp; omega); rw [show off + 1 + j = off + (j + 1) by omega]; exact this)]
    exact World.cell?_setCell_other _ _ _ _ (fun e => h 0 (by simp) (by rw [← e]; rfl))
theorem turnW_frozen (G : Nat) (p : Addr) : ∀ (l : List UInt8) (w : World) (off : Nat), (turnW w G off l).frozen? p = w.frozen? p
  | [], _, _ => rfl
  | c :: l, w, off => by
    show (turnW _ G (off + 1) l).frozen? p = _
    rw [turnW_frozen G p l]
    simp
theorem turnW_below (G B : Nat) (w0 : World) (hG : B ≤ G) : ∀ (l : List UInt8) (w : World) (off : Nat), Below B w0 w → Below B w0 (turnW w G off l)
  | [], _, _, h => h
  | _ :: l, _, off, h => turnW_below G B w0 hG l _ _ (h.setCell (p := ⟨G, off, none⟩) hG _)
theorem turnW_has (G : Nat) {g : Nat} {t : TypeId} {cs : Array Value} (hne : g ≠ G) : ∀ (l : List UInt8) (w : World) (off : Nat), Has w g t cs → Has (turnW w G off l) g t cs
  | [], _, _, h => h
  | _ :: l, _, off, h => turnW_has G hne l _ _ (h.far (p := ⟨G, off, none⟩) hne _)
/-- The same on the block's cells. -/
def turnA (cur : Array Value) (off : Nat) : List UInt8 → Array Value
  | [] => cur
  | c :: r => turnA (cur.setIfInBounds off (.int .u8 ((neg c).toNat : Int))) (off + 1) r
theorem turnW_own (G : Nat) {t : TypeId} {fz : Nat × Nat} : ∀ (l : List UInt8) (w : World) (off : Nat) (cur : Array Value), w.heap[G]? = some (.cells cur t fz) → (turnW w G off l).heap[G]? = some (.cells (turnA cur off l) t fz)
  | [], _, _, _, h => h
  | c :: l, w, off, cur, h => by
    refine turnW_own G l _ _ _ ?_
    simp [World.setCell, Array.getElem?_modify, h]
theorem turnA_size : ∀ (l : List UInt8) (cur : Array Value) (off : Nat), (turnA cur off l).size = cur.size
  | [], _, _ => rfl
  | c :: l, cur, off => by
    show (turnA _ (off + 1) l).size = _
    rw [turnA_size l]
    simp
theorem turnA_take (n : Nat) : ∀ (l l0 : List UInt8) (cur : Array Value), n = l0.length + l.length → cur.toList.take n = bv (l0 ++ l) → (turnA cur l0.length l).toList.take n = bv (l0 ++ l.map neg)
  | [], l0, cur, _, h => h
  | c :: l, l0, cur, hn, h => by
    have h2 : (cur.setIfInBounds l0.length (.int .u8 ((neg c).toNat : Int))).toList.take n = bv ((l0 ++ [neg c]) ++ l) := by
      rw [Array.toList_setIfInBounds, List.take_set, h]
      unfold bv
      rw [List.map_append, List.map_append, List.map_append, List.set_append_right _ _ (by simp)]
      simp
    have h3 := turnA_take n l (l0 ++ [neg c]) _ (by simp at hn ⊢; omega) h2
    rw [List.length_append] at h3
    rw [List.append_assoc] at h3
    exact h3
theorem OwnB.turn {w : World} {base G cap : Nat} {l0 l : List UInt8} (h : OwnB w base (.slice (some ⟨G, 0, none⟩) (l0 ++ l).length cap) (l0 ++ l)) : OwnB (turnW w G l0.length l) base (.slice (some ⟨G, 0, none⟩) (l0 ++ l).length cap) (l0 ++ l.map neg) := by
  obtain ⟨h1, ⟨e, h2⟩ | ⟨g, cap', cur, e, h4, h5, h6, h7, h8, h9⟩⟩ := h
  · cases e
  · injection e with e1 _ e2
    injection e1 with e1
    injection e1 with e1
    subst e1 e2
    have hlen : (l0 ++ l.map neg).length = (l0 ++ l).length := by simp
    unfold OwnB
    rw [hlen]
    refine ⟨by rw [bv_len, hlen]; omega, .inr ⟨G, cap, _, rfl, h4, turnW_own G l w l0.length cur h5, h6, h7, by rw [turnA_size]; exact h8, ?_⟩⟩
    rw [Nat.mul_one] at h9 ⊢
    exact turnA_take _ l l0 cur (by simp) h9
theorem neg_bits (c : UInt8) : bits .xor .u8 (c.toNat : Int) 255 = ((neg c).toNat : Int) := by
  have h : ∀ k : Fin 256, bits .xor .u8 ((k.val : Nat) : Int) 255 = ((255 - k.val : Nat) : Int) := by decide +kernel
  have h1 := h ⟨c.toNat, c.toNat_lt⟩
  have h2 : (neg c).toNat = 255 - c.toNat := by
    have := c.toNat_lt
    unfold neg
    rw [UInt8.toNat_sub_of_le _ _ (UInt8.le_iff_toNat_le.2 (by show c.toNat ≤ 255; omega))]
    rfl
  rw [h2]
  exact h1

set_option maxRecDepth 100000 in
set_option maxHeartbeats 3200000 in
theorem turn_no (yk : Int) (v : Value) (w : World) :
    Calls Tryd.prog 75 #[.agg #[.int .i64 yk, .bool false], v] w fun e w' => e = .returned (.tuple #[]) ∧ Below w.heap.size w w' := by
  go_enter Tryd.func75, Tryd.ntmps75
  go_wp2_with fail
  refine bodyPost_ret (results_none rfl _ _ _) rfl ⟨rfl, ?_⟩
  exact (Below.refl _ _).alloc (Nat.le_refl _) _
set_option maxRecDepth 100000 in
set_option maxHeartbeats 3200000 in
theorem turn_yes (yk : Int) (G off cap : Nat) (l : List UInt8) (w : World) (hg : G < w.heap.size) (hl : l.length ≤ 2000000) (hc : ∀ j (hj : j < l.length), w.cell? ⟨G, off + j, none⟩ = some (.int .u8 (l[j].toNat : Int))) (hz : ∀ j, j < l.length → w.frozen? ⟨G, off + j, none⟩ = false) :
    Calls Tryd.prog 75 #[.agg #[.int .i64 yk, .bool true], .slice (some ⟨G, off, none⟩) l.length cap] w fun e w' => e = .returned (.tuple #[]) ∧ ∃ w2, Below w.heap.size w w2 ∧ w' = turnW w2 G off l := by
  go_enter Tryd.func75, Tryd.ntmps75
  go_wp2_with fail
  go_loopw [10] (fun i wr => ∃ (k : Nat), k ≤ l.length ∧ i = .int .i64 (k : Int) ∧ wr = turnW (w.alloc (.cells #[.int .i64 yk, .bool true] 33)) G off (l.take k)) (fun i _ => l.length - (intOf i).toNat)
  case atStart => exact ⟨0, by omega, rfl, rfl⟩
  case round =>
    obtain ⟨k, hk, rfl, HW⟩ := hrel
    have hbel : Below w.heap.size w (w.alloc (.cells #[.int .i64 yk, .bool true] 33)) := (Below.refl _ _).alloc (Nat.le_refl _) _
    by_cases hlt : k < l.length
    · have hcell : wr.cell? ⟨G, off + k, none⟩ = some (.int .u8 (l[k].toNat : Int)) := by
        rw [HW, turnW_out G _ _ _ (fun j hj e => by injection e with e1 e2; simp at hj; omega), (bcell hbel).1 G _ hg, hc k hlt]
      have hfz : wr.frozen? ⟨G, off + k, none⟩ = false := by
        rw [HW, turnW_frozen, (bcell hbel).2 G _ hg, hz k hlt]
      have hts : l.take (k + 1) = l.take k ++ [l[k]] := List.take_succ_eq_append_getElem hlt
      have hxr := neg_bits l[k]
      have HN : Hid (turnW (w.alloc (.cells #[.int .i64 yk, .bool true] 33)) G off (l.take (k + 1)) = wr.setCell ⟨G, off + k, none⟩ (.int .u8 ((neg l[k]).toNat : Int))) := Lib.hid (by rw [hts, turnW_snoc, HW, List.length_take, Nat.min_eq_left hk])
      have HWh := Lib.hid HW
      clear HW hts
      go_wp2_with fail
      exact ⟨⟨k + 1, hlt, by go_num, HN.out.symm⟩, by simp [intOf]; omega⟩
    · have hk2 : l.take k = l := List.take_of_length_le (by omega)
      rw [hk2] at HW
      have HWh := Lib.hid HW
      clear HW
      go_wp2_with fail
      exact bodyPost_end (results_none rfl _ _ _) rfl ⟨rfl, _, hbel, HWh.out⟩

theorem fitsR_at {s : List Col} {l : List Fd} (h : fitsR s l = true) {k : Nat} (h2 : k < l.length) (h1 : k < s.length) : l[k].fits s[k] = true := by
  induction s generalizing l k with
  | nil => simp at h1
  | cons c s ih =>
    cases l with
    | nil => simp at h2
    | cons f l =>
      simp only [fitsR, Bool.and_eq_true] at h
      cases k with
      | zero => exact h.1
      | succ k => exact ih h.2 (by simpa using h2) (by simpa using h1)
theorem Fd.fits_size {c : Col} {f : Fd} (h : f.fits c = true) : f.text.size ≤ 1000 := by
  unfold Fd.fits at h
  split at h
  · simp only [Bool.and_eq_true, beq_iff_eq] at h; omega
  · split at h
    · simp only [Bool.and_eq_true, beq_iff_eq] at h; omega
    · split at h
      · simp only [Bool.and_eq_true, beq_iff_eq, decide_eq_true_eq] at h; omega
      · cases h
theorem encR_take : ∀ {s : List Col} {l : List Fd} {k : Nat} (h1 : k < s.length) (h2 : k < l.length), encR s (l.take (k + 1)) = encR s (l.take k) ++ encC s[k] l[k]
  | [], _, _, h1, _ => by simp at h1
  | _ :: _, [], _, _, h2 => by simp at h2
  | c :: s, f :: l, 0, _, _ => by simp [encR, encR_nil]
  | c :: s, f :: l, k + 1, h1, h2 => by
    simp only [List.take_succ_cons, encR, List.getElem_cons_succ, List.append_assoc]
    rw [encR_take (by simpa using h1) (by simpa using h2)]
theorem OwnB.open_ {w : World} {base : Nat} {v : Value} {l : List UInt8} (h : OwnB w base v l) (hl : l ≠ []) : ∃ G cap, v = .slice (some ⟨G, 0, none⟩) l.length cap ∧ base ≤ G ∧ G < w.heap.size ∧ l.length ≤ cap ∧ cap ≤ maxLen ∧ (∀ j (hj : j < l.length), w.cell? ⟨G, j, none⟩ = some (.int .u8 (l[j].toNat : Int))) ∧ (∀ j, w.frozen? ⟨G, j, none⟩ = false) := by
  have hr := h.read
  obtain ⟨h1, ⟨rfl, h2⟩ | ⟨g, cap, cur, rfl, h4, h5, h6, h7, h8, h9⟩⟩ := h
  · exact absurd (List.eq_nil_of_length_eq_zero h2) hl
  · obtain ⟨A, c, e, -, -, hB⟩ := hr
    injection e with e1 _ e2
    refine ⟨g, cap, rfl, h4, Has.lt h5, h6, h7, fun j hj => ?_, fun j => by simp [World.frozen?, h5]⟩
    obtain ⟨b, o, e3, _, hc⟩ := hB.at_ hj
    rw [← e1] at e3
    injection e3 with e3
    injection e3 with e3 e4
    subst e3 e4
    rw [Nat.zero_add] at hc
    exact hc
theorem vk_any (k : ByteArray) (w : World) : Calls Tryd.prog 74 #[.string k] w fun e w' => e = .returned (.bool (decide (k.size ≤ 64))) ∧ w = w' := by
  go_enter Tryd.func74, Tryd.ntmps74
  go_wp2
  go_ret
  exact ⟨ret_bool (by rw [Bool.eq_iff_iff]; simp; omega), rfl⟩

/-- What Encode answers. -/
def EncB (r : ByteArray × Int) (w : World) (e : Ending) (w' : World) : Prop := e = .returned (.tuple #[.string r.1, .int .i64 r.2]) ∧ Below w.heap.size w w'
set_option maxRecDepth 100000 in
set_option maxHeartbeats 3200000 in
theorem encode_any (A1 A2 : Option Addr) (s : List Col) (l : List Fd) (c1 c2 : Nat) (w : World) (hs : Cols w w.heap.size A1 s) (hl : Fds w w.heap.size A2 l) (hs63 : s.length ≤ 9223372036854775807) (hw : ∀ i (h : i < l.length), l[i].wide) :
    Calls Tryd.prog 28 #[.slice A1 s.length c1, .slice A2 l.length c2] w (EncB (encV s l) w) := by
  cases hf : fitsL s l
  · have hr : encV s l = (⟨#[]⟩, 1) := by simp [encV, hf]
    rw [hr]
    have H1 := Lib.hid ((fits_any A1 A2 s l c1 c2 w hs hl hs63).mono fun e w' h => (⟨by rw [h.1, hf], h.2⟩ : e = .returned (.bool false) ∧ Below w.heap.size w w'))
    clear hr hf
    go_enter Tryd.func28, Tryd.ntmps28
    go_wp2_with fail
    refine (H1.out).mono ?_
    rintro e w1 ⟨rfl, hb1⟩
    go_wp2_with fail
    go_ret2
    exact ⟨rfl, hb1⟩
  · have H1 := Lib.hid ((fits_any A1 A2 s l c1 c2 w hs hl hs63).mono fun e w' h => (⟨by rw [h.1, hf], h.2⟩ : e = .returned (.bool true) ∧ Below w.heap.size w w'))
    have hr : encV s l = if (encR s l).length ≤ 64 then (⟨(encR s l).toArray⟩, 0) else (⟨#[]⟩, 3) := by simp [encV, hf]
    have HE := Lib.hid hr
    have hfr : fitsR s l = true := by simp only [fitsL, Bool.and_eq_true] at hf; exact hf.2
    have hsl : s.length ≤ 6 := (schOk_len (by simp only [fitsL, Bool.and_eq_true] at hf; exact hf.1)).2
    have hls := fitsR_len hfr
    have HR := Lib.hid hfr
    clear hr hf hfr
    generalize encV s l = R at *
    obtain ⟨R1, R2⟩ := R
    go_enter Tryd.func28, Tryd.ntmps28
    go_wp2_with fail
    refine (H1.out).mono ?_
    rintro e w1 ⟨rfl, hb1⟩
    clear H1
    go_wp2_with fail
    go_loopw [6, 16] (fun b i wr => ∃ (v1 : Value) (k : Nat) (l1 : List UInt8), v1 = b ∧ k ≤ l.length ∧ i = .int .i64 (k : Int) ∧ OwnB wr w.heap.size v1 l1 ∧ Below w.heap.size w wr ∧ Hid (l1 = encR s (l.take k)) ∧ l1.length ≤ k * 35) (fun _ i _ => l.length - (intOf i).toNat)
    case atStart => exact ⟨_, 0, [], rfl, by omega, rfl, OwnB.nil _ _, hb1, Lib.hid (by simp [encR_nil]), by simp⟩
    case round =>
      clear hb1
      obtain ⟨v1, k, l1, rfl, hk, rfl, ho1, hB, HL, hlen⟩ := hrel
      by_cases hlt : k < l.length
      · have hks : k < s.length := by omega
        have hfit := fitsR_at HR.out hlt hks
        have het := encR_take hks hlt
        have hwk := hw k hlt
        obtain ⟨b, o, hA2, hb, f1, f2, f3⟩ := hl.at_ hlt
        subst hA2
        replace f1 := (hB.cell (p := ⟨b, o + k * 3, none⟩) hb).trans f1
        replace f2 := (hB.cell (p := ⟨b, o + k * 3 + 1, none⟩) hb).trans f2
        replace f3 := (hB.cell (p := ⟨b, o + k * 3 + 2, none⟩) hb).trans f3
        obtain ⟨b0, o0, hA0, hz0, d1, d2⟩ := hs.at_ hks
        subst hA0
        generalize s[k] = y at *
        generalize l[k] = f at *
        have hfl := encF_len hfit
        have htx := Fd.fits_size hfit
        obtain ⟨yk, yd⟩ := y
        obtain ⟨fk, fn, ft⟩ := f
        have HT := Lib.hid het
        have i0 : (0 : Int) ≤ (k : Int) := by omega
        have i1 : (k : Int) < (s.length : Int) := by omega
        obtain ⟨A3, c3, hv3, hlc, hcm, -⟩ := ho1.read
        clear het hfit
        go_wp2_with fail
        subst hv3
        have hoa := ho1.alloc (.cells #[.int .i64 fk, .int .i64 fn, .string ft] 98)
        have hBa := hB.alloc hB.size (.cells #[.int .i64 fk, .int .i64 fn, .string ft] 98)
        generalize wr.alloc (.cells #[.int .i64 fk, .int .i64 fn, .string ft] 98) = wa at hoa hBa ⊢
        refine (appendField_c w.heap.size _ l1 ⟨fk, fn, ft⟩ wa hoa hBa.size (by omega) htx hwk).mono ?_
        rintro e w2 ⟨v2, rfl, ho2, hp2⟩
        have hB2 := hBa.trans (hp2.below hoa hBa.size)
        have HC : Hid (encR s (l.take (k + 1)) = encR s (l.take k) ++ (if yd = true then (encF ⟨fk, fn, ft⟩).map neg else encF ⟨fk, fn, ft⟩)) := Lib.hid (by rw [HT.out]; rfl)
        generalize encF ⟨fk, fn, ft⟩ = e8 at hfl ho2 HC
        have HO := Lib.hid ho2
        obtain ⟨l2, hl2⟩ : ∃ l2, l2 = l1 ++ e8 := ⟨_, rfl⟩
        have hln : l2.length = l1.length + e8.length := by rw [hl2, List.length_append]
        rw [← hl2] at ho2
        have HL2 := Lib.hid hl2
        clear hl2 hp2 HT hoa hBa ho1 hwk htx f1 f2 f3 hB
        obtain ⟨G, cap, rfl, hG1, hG2, hcap, hcm2, hcells, hfz⟩ := ho2.open_ (by intro e; rw [e] at hln; simp at hln; omega)
        have g1 : w2.drew.cell? ⟨b0, o0 + k * 2, none⟩ = some (.int .i64 yk) := (hB2.cell (p := ⟨b0, o0 + k * 2, none⟩) hz0).trans d1
        have g2 : w2.drew.cell? ⟨b0, o0 + k * 2 + 1, none⟩ = some (.bool yd) := (hB2.cell (p := ⟨b0, o0 + k * 2 + 1, none⟩) hz0).trans d2
        replace hcells : ∀ j (hj : j < l2.length), w2.drew.cell? ⟨G, j, none⟩ = some (.int .u8 (l2[j].toNat : Int)) := hcells
        replace hfz : ∀ j, w2.drew.frozen? ⟨G, j, none⟩ = false := hfz
        replace ho2 : OwnB w2.drew w.heap.size _ l2 := ho2
        replace hB2 := hB2.drew
        replace hG2 : G < w2.drew.heap.size := hG2
        have i2 : (0 : Int) ≤ (l1.length : Int) := by omega
        have i3 : (l1.length : Int) ≤ (l2.length : Int) := by omega
        have i4 : (l2.length : Int) ≤ (cap : Int) := by omega
        have hne : ¬ cap = l1.length := by omega
        have HLN := Lib.hid hln
        have HZ := Lib.hid hfl
        clear hln hfl
        go_wp2_with fail
        refine wp_region_still_tail 7 (by kernel_rfl) (by kernel_rfl) ?_
        simp only [List.take_succ_cons, List.take_zero, List.drop_succ_cons, List.drop_zero]
        change wpStill _ _ w2.drew (fun a' => wpList _ _ _ _ a' w2.drew) _ _
        generalize w2.drew = w9 at *
        repeat still_step
        refine wpStill_nil ?_
        go_wp2_with fail
        cases yd
        · refine (turn_no yk _ w9).mono ?_
          rintro e w10 ⟨rfl, hb10⟩
          go_wp2_with fail
          exact ⟨⟨_, k + 1, l2, rfl, hlt, by go_num, ho2.below hb10, hB2.trans (hb10.mono hB2.size), Lib.hid (by rw [HL2.out, HC.out, HL.out]; rfl), by have := HLN.out; have := HZ.out; omega⟩, by simp [intOf]; omega⟩
        · have hc9 : ∀ j (hj : j < e8.length), w9.cell? ⟨G, l1.length + j, none⟩ = some (.int .u8 (e8[j].toNat : Int)) := fun j hj => by
            have h8 := HLN.out
            rw [hcells (l1.length + j) (by omega), List.getElem_of_eq HL2.out, List.getElem_append_right (by omega)]
            simp
          have HT := turn_yes yk G l1.length (cap - l1.length) e8 w9 hG2 (by have := HZ.out; omega) hc9 (fun j _ => hfz _)
          rw [show e8.length = l2.length - l1.length by have := HLN.out; omega] at HT
          refine HT.mono ?_
          rintro e w10 ⟨rfl, w8, hb8, rfl⟩
          have ho8 := ho2.below hb8
          rw [HL2.out] at ho8
          replace ho8 := ho8.turn
          rw [← HL2.out] at ho8
          have hB8 := turnW_below G _ _ hG1 e8 _ l1.length (hB2.trans (hb8.mono hB2.size))
          clear HT hc9
          generalize turnW w8 G l1.length e8 = w10 at *
          go_wp2_with fail
          exact ⟨⟨_, k + 1, _, rfl, hlt, by go_num, ho8, hB8, Lib.hid (by rw [HC.out, HL.out]; rfl), by have := HLN.out; have := HZ.out; rw [List.length_append, List.length_map]; omega⟩, by simp [intOf]; omega⟩
      · have hL2 : l1 = encR s l := by rw [HL.out, List.take_of_length_le (by omega)]
        obtain ⟨A3, c3, rfl, -, -, hby⟩ := ho1.read
        have hcv := run_str (P := Tryd.prog) wr _ A3 l1 c3 hby 58 9 Tryd.underlying58 Tryd.underlying5 Tryd.underlying9
        obtain ⟨r, hr⟩ : ∃ r : ByteArray, r = ⟨l1.toArray⟩ := ⟨_, rfl⟩
        rw [← hr] at hcv
        have hrz : r.size = l1.length := by rw [hr]; rfl
        have he := HE.out
        rw [← hL2, ← hr] at he
        clear hL2 hr HL HE hby
        by_cases h64 : l1.length ≤ 64
        · rw [if_pos h64] at he
          injection he with e1 e2
          subst e1 e2
          have hd : decide (R1.size ≤ 64) = true := by simpa [hrz] using h64
          go_wp2_with fail
          refine (vk_any R1 wr).mono ?_
          rintro e w' ⟨he, rfl⟩
          rw [hd] at he
          subst he
          go_wp2_with fail
          go_ret2
          exact ⟨rfl, hB⟩
        · rw [if_neg h64] at he
          injection he with e1 e2
          subst e1 e2
          have hd : decide (r.size ≤ 64) = false := by simpa [hrz] using h64
          go_wp2_with fail
          refine (vk_any r wr).mono ?_
          rintro e w' ⟨he, rfl⟩
          rw [hd] at he
          subst he
          go_wp2_with fail
          go_ret2
          exact ⟨rfl, hB⟩
end Go.Proofs.YtlnmpiigmedgkaaDoor
