/-
  The walk of CompositeDecodes: from whatever arguments it answers true and only makes memory. Conditions: the first argument reads as a slice of ints, the second as a slice of columns; 'texts' holds eight strings of at most two bytes.
-/
import Derived.Test.YtlnmpiigmedgkaaDoorKrE
namespace Go.Proofs.YtlnmpiigmedgkaaDoor
open Go.RowKit

theorem decV_len (s : List Col) (y : ByteArray) : (decV s y).1.length ≤ 6 := by
  unfold decV
  cases hv : schOk s
  · simp
  · rw [if_pos rfl]
    split
    · cases hd : decR s y.data.toList with
      | none => simp
      | some l =>
        have h1 := (decR_inv s _ _ hd).2.2.2
        have h2 := (schOk_len hv).2
        show l.length ≤ 6
        omega
    · simp
theorem encV_size (s : List Col) (l : List Fd) : (encV s l).1.size ≤ 1000000 := by
  unfold encV
  split
  · split
    · rename_i h
      exact Nat.le_trans h (by decide)
    · exact Nat.zero_le _
  · exact Nat.zero_le _
/-- What a round of the law knows. -/
def Rnd (w wr : World) (g : Nat) : Prop := At w [] g wr ∧ Txts wr
/-- The two calls and the comparison. -/
structure Both (wr : World) (AX : Option Addr) (xs : List Col) (cX : Nat) (Y : ByteArray) (l : List Fd) (z : Int) : Prop where
  one : Calls Tryd.prog 25 #[.slice AX xs.length cX, .string Y] wr (DecP (l, z) wr)
  two : ∀ W, Below wr.heap.size wr W → Calls Tryd.prog 26 #[.slice AX xs.length cX, .string Y] W (DecP (l, z) W)
  len : l.length ≤ 6
theorem both_mk {wr : World} {AX : Option Addr} {xs : List Col} {cX : Nat} (Y : ByteArray) (hc : Cols wr wr.heap.size AX xs) (h63 : xs.length ≤ 9223372036854775807) : ∃ l z, Both wr AX xs cX Y l z :=
  ⟨(decV xs Y).1, (decV xs Y).2, decode_any AX xs cX Y wr hc h63, fun W k => rdecode_any AX xs cX Y W ((hc.below k).more k.size), decV_len xs Y⟩

set_option maxRecDepth 100000 in
set_option maxHeartbeats 6400000 in
theorem decodes_walk (A A1 : Option Addr) (n0 cp c1 : Nat) (s : List Col) (key : ByteArray) (w : World) (hnc : n0 ≤ cp) (hc : cp ≤ maxLen) (hN : Nums w w.heap.size A n0) (hS : Cols w w.heap.size A1 s) (hx : Txts w) :
    Calls Tryd.prog 4 #[.slice A n0 cp, .slice A1 s.length c1, .string key] w (LawP w) := by
  go_enter Tryd.func4, Tryd.ntmps4
  go_wp2_with fail
  refine (new_any A n0 cp _ hnc hc hN).mono ?_
  rintro e w1 ⟨g, hg1, rfl, hT, hb⟩
  have hA : At w [] g w1 := ⟨(Inv.nil w).below hb, hT⟩
  have hne : 0 ≠ g := by have := hx.lt; omega
  have x1 := hx.below hb
  clear hb hT hx hN hnc hc
  go_wp2_with fail
  go_loopw [8] (fun i wr => ∃ k : Nat, k ≤ 5 ∧ i = .int .i64 (k : Int) ∧ At w [] g wr ∧ Txts wr) (fun i _ => 5 - (intOf i).toNat)
  case atStart => exact ⟨0, by omega, rfl, hA, x1⟩
  case round =>
    clear hA x1
    obtain ⟨k, hk, rfl, hA, x1⟩ := hrel
    by_cases hlt : k < 5
    · go_wp2_with fail
      refine (schema_any g _ hA.2).mono ?_
      rintro e w2 ⟨AS, cS, cs, rfl, hSo, hs1, hs4, hok, hst⟩
      have hgr := hA.2.lt
      have hAn := hA.step hst hg1 (fun _ h => by cases h)
      have x2 := x1.step hne hst
      have z2 := hst.2.size
      have hsg : ∀ b o, AS = some ⟨b, o, none⟩ → b ≠ g := fun b o e => by
        obtain ⟨_, _, e9, h9, _⟩ := hSo.open_ (by intro e; rw [e] at hs1; simp at hs1)
        injection e9 with e9 _ _
        rw [e] at e9
        injection e9 with e9
        injection e9 with e9 _
        omega
      have F1 := Lib.hid (fields_any AS cs cS cs.length g w2 (Nat.le_refl _) (by omega) hSo.cols2 hsg hok hAn.2 x2 hne)
      have HSG := Lib.hid hsg
      have c2 := hSo.cols2
      clear hst hA x1 hsg hok hSo
      go_wp2_with fail
      refine (F1.out).mono ?_
      rintro e w3 ⟨AA, cA, a, rfl, hAo, hal, haf, haw, hst3⟩
      have hA3 := hAn.step hst3 hg1 (fun _ h => by cases h)
      have x3 := x2.step hne hst3
      have z3 := hst3.2.size
      have c3 := (c2.stepG (Nat.le_refl _) HSG.out hst3).more (B' := w3.heap.size) z3
      have E1 := rencode_any AS AA cs a cS cA w3 c3 hAo.fds2 haw
      rw [hal] at E1
      have hsz := encV_size cs a
      generalize encV cs a = V at *
      obtain ⟨y, f⟩ := V
      simp only at hsz
      have E := Lib.hid E1
      have HAL := Lib.hid hal
      clear F1 E1 hst3 hAn x2 c2 haf haw hAo
      simp only [hal]
      clear hal
      go_wp2_with fail
      refine (E.out).mono ?_
      rintro e w4 ⟨rfl, hb4⟩
      have hA4 := hA3.below hb4
      have x4 := x3.below hb4
      have z4 := hb4.size
      have c4 := (c3.below hb4).more z4
      clear E hA3 x3 hb4 c3
      by_cases h2 : k < 2
      · have t1 : ¬ ((1 : Int) < (k : Int)) := by omega
        have t2 : ((k : Int) == 4) = false := by rw [beq_eq_false_iff_ne]; omega
        obtain ⟨l, z, hBo⟩ := both_mk (cX := cS) y c4 (by omega)
        have HB1 := Lib.hid hBo.one
        have HB2 := Lib.hid hBo.two
        have hl6 := hBo.len
        clear hBo
        go_wp2_with fail
        refine (HB1.out).mono ?_
        rintro e w7 ⟨AL, cL, rfl, hF7, hb7⟩
        clear HB1
        go_wp2_with fail
        refine (HB2.out _ hb7).mono ?_
        rintro e w8 ⟨AM, cM, rfl, hF8, hb8⟩
        have S1 := same_lists AL AM l l cL cM w8 ((hF7.below hb8).more hb8.size) hF8 (by omega)
        rw [sameL_self] at S1
        have S := Lib.hid S1
        have hbA := hb7.trans (hb8.mono hb7.size)
        clear HB2 S1 hF7 hF8
        go_wp2_with fail
        refine (S.out).mono ?_
        rintro e w9 ⟨rfl, hb9⟩
        have hbB := hbA.trans (hb9.mono hbA.size)
        clear S hb7 hb8 hb9 hbA
        have hA9 := hA4.below hbB
        have x9 := x4.below hbB
        go_wp2_with fail
        exact ⟨⟨k + 1, hlt, by go_num, hA9, x9⟩, by simp [intOf]; omega⟩
      · have t1 : (1 : Int) < (k : Int) := by omega
        have HSZ := Lib.hid hsz
        go_wp2_with fail
        refine (damage_any y g w4 hA4.2 HSZ.out).mono ?_
        rintro e w5 ⟨y5, rfl, hst5⟩
        have z5 := hst5.2.size
        have c5 := (c4.stepG (Nat.le_refl _) HSG.out hst5).more (B' := w5.heap.size) z5
        have hA5 := hA4.step hst5 hg1 (fun _ h => by cases h)
        have x5 := x4.step hne hst5
        clear hst5 hA4 x4 c4 HSG
        by_cases h4 : k = 4
        · by_cases h100 : s.length ≤ 100
          · have t2 : ((k : Int) == 4) = true := by rw [h4]; rfl
            have t3 : (s.length : Int) ≤ 100 := by omega
            have t4 : decide ((s.length : Int) ≤ 100) = true := by simp; omega
            obtain ⟨l, z, hBo⟩ := both_mk (wr := w5) (cX := c1) key ((hS.below hA5.1.1).more hA5.1.1.size) (by omega)
            have H4 := Lib.hid h4
            clear h4
            have HB1 := Lib.hid hBo.one
            have HB2 := Lib.hid hBo.two
            have hl6 := hBo.len
            clear hBo
            go_wp2_with fail
            refine (HB1.out).mono ?_
            rintro e w7 ⟨AL, cL, rfl, hF7, hb7⟩
            clear HB1
            go_wp2_with fail
            refine (HB2.out _ hb7).mono ?_
            rintro e w8 ⟨AM, cM, rfl, hF8, hb8⟩
            have S1 := same_lists AL AM l l cL cM w8 ((hF7.below hb8).more hb8.size) hF8 (by omega)
            rw [sameL_self] at S1
            have S := Lib.hid S1
            have hbA := hb7.trans (hb8.mono hb7.size)
            clear HB2 S1 hF7 hF8
            go_wp2_with fail
            refine (S.out).mono ?_
            rintro e w9 ⟨rfl, hb9⟩
            have hbB := hbA.trans (hb9.mono hbA.size)
            clear S hb7 hb8 hb9 hbA
            have hA9 := hA5.below hbB
            have x9 := x5.below hbB
            go_wp2_with fail
            exact ⟨⟨k + 1, hlt, by go_num, hA9, x9⟩, by simp [intOf]; omega⟩
          · have t2 : ((k : Int) == 4) = true := by rw [h4]; rfl
            have t3 : ¬ (s.length : Int) ≤ 100 := by omega
            have t4 : decide ((s.length : Int) ≤ 100) = false := by simp; omega
            obtain ⟨l, z, hBo⟩ := both_mk (cX := cS) y5 c5 (by omega)
            have H4 := Lib.hid h4
            clear h4
            have HB1 := Lib.hid hBo.one
            have HB2 := Lib.hid hBo.two
            have hl6 := hBo.len
            clear hBo
            go_wp2_with fail
            refine (HB1.out).mono ?_
            rintro e w7 ⟨AL, cL, rfl, hF7, hb7⟩
            clear HB1
            go_wp2_with fail
            refine (HB2.out _ hb7).mono ?_
            rintro e w8 ⟨AM, cM, rfl, hF8, hb8⟩
            have S1 := same_lists AL AM l l cL cM w8 ((hF7.below hb8).more hb8.size) hF8 (by omega)
            rw [sameL_self] at S1
            have S := Lib.hid S1
            have hbA := hb7.trans (hb8.mono hb7.size)
            clear HB2 S1 hF7 hF8
            go_wp2_with fail
            refine (S.out).mono ?_
            rintro e w9 ⟨rfl, hb9⟩
            have hbB := hbA.trans (hb9.mono hbA.size)
            clear S hb7 hb8 hb9 hbA
            have hA9 := hA5.below hbB
            have x9 := x5.below hbB
            go_wp2_with fail
            exact ⟨⟨k + 1, hlt, by go_num, hA9, x9⟩, by simp [intOf]; omega⟩
        · have t2 : ((k : Int) == 4) = false := by rw [beq_eq_false_iff_ne]; omega
          obtain ⟨l, z, hBo⟩ := both_mk (cX := cS) y5 c5 (by omega)
          have HB1 := Lib.hid hBo.one
          have HB2 := Lib.hid hBo.two
          have hl6 := hBo.len
          clear hBo
          go_wp2_with fail
          refine (HB1.out).mono ?_
          rintro e w7 ⟨AL, cL, rfl, hF7, hb7⟩
          clear HB1
          go_wp2_with fail
          refine (HB2.out _ hb7).mono ?_
          rintro e w8 ⟨AM, cM, rfl, hF8, hb8⟩
          have S1 := same_lists AL AM l l cL cM w8 ((hF7.below hb8).more hb8.size) hF8 (by omega)
          rw [sameL_self] at S1
          have S := Lib.hid S1
          have hbA := hb7.trans (hb8.mono hb7.size)
          clear HB2 S1 hF7 hF8
          go_wp2_with fail
          refine (S.out).mono ?_
          rintro e w9 ⟨rfl, hb9⟩
          have hbB := hbA.trans (hb9.mono hbA.size)
          clear S hb7 hb8 hb9 hbA
          have hA9 := hA5.below hbB
          have x9 := x5.below hbB
          go_wp2_with fail
          exact ⟨⟨k + 1, hlt, by go_num, hA9, x9⟩, by simp [intOf]; omega⟩
    · have SN := Lib.hid (sane_any wr)
      go_wp2_with fail
      refine (SN.out).mono ?_
      rintro e w6 ⟨rfl, hbl⟩
      go_wp2_with fail
      go_ret
      exact ⟨rfl, (hA.below hbl).1.1⟩
end Go.Proofs.YtlnmpiigmedgkaaDoor
