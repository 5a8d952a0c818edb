/-
  The reference of chapter 2: encode and Encode: as the program says. Conditions: the arguments can be read.
-/
import Derived.Test.YtlnmpiigmedgkaaDoorKrB
namespace Go.Proofs.YtlnmpiigmedgkaaDoor
open Go.RowKit

theorem OwnB.put {w : World} {base G N cap : Nat} {l : List UInt8} (h : OwnB w base (.slice (some ⟨G, 0, none⟩) N cap) l) (k : Nat) (x : UInt8) : OwnB (w.setCell ⟨G, k, none⟩ (.int .u8 (x.toNat : Int))) base (.slice (some ⟨G, 0, none⟩) N cap) (l.set k x) := by
  obtain ⟨h1, ⟨e, h2⟩ | ⟨g, cap', cur, e, h4, h5, h6, h7, h8, h9⟩⟩ := h
  · cases e
  · injection e with e1 e3 e2
    injection e1 with e1
    injection e1 with e1
    subst e1 e2 e3
    unfold OwnB
    have hl : (l.set k x).length = l.length := List.length_set
    rw [hl]
    refine ⟨by rw [bv_len, hl]; omega, .inr ⟨G, cap, cur.setIfInBounds k (.int .u8 (x.toNat : Int)), rfl, h4, Has.set_ h5 _ _, h6, h7, by simpa using h8, ?_⟩⟩
    rw [Nat.mul_one] at h9 ⊢
    rw [Array.toList_setIfInBounds, List.take_set, h9]
    unfold bv
    rw [List.map_set]
theorem OwnB.cells {w : World} {base G N cap : Nat} {l : List UInt8} (h : OwnB w base (.slice (some ⟨G, 0, none⟩) N cap) l) : N = l.length ∧ base ≤ G ∧ G < w.heap.size ∧ N ≤ cap ∧ (∀ j (hj : j < l.length), w.cell? ⟨G, j, none⟩ = some (.int .u8 (l[j].toNat : Int))) ∧ (∀ j, w.frozen? ⟨G, j, none⟩ = false) ∧ Bys w w.heap.size (some ⟨G, 0, none⟩) l := by
  have hN : N = l.length := by
    obtain ⟨h1, ⟨e, h2⟩ | ⟨g, cap', cur, e, _⟩⟩ := h
    · cases e
    · injection e
  subst hN
  obtain ⟨A, c, e, h1, h2, h3⟩ := h.read
  injection e with e1 _ e2
  subst e1 e2
  obtain ⟨_, ⟨e, _⟩ | ⟨g, cap', cur, e, h4, h5, _⟩⟩ := h
  · cases e
  · injection e with e1 _ _
    injection e1 with e1
    injection e1 with e1
    subst e1
    refine ⟨rfl, h4, Has.lt h5, h1, fun j hj => ?_, fun j => Has.frozen h5 j, h3⟩
    obtain ⟨b, o, e, _, hc⟩ := h3.at_ hj
    injection e with e
    injection e with e1 e2
    subst e1 e2
    rw [Nat.zero_add] at hc
    exact hc
/-- append of a slice that is read, its length a letter. -/
theorem wpList_pushLn {P : Program} {ops : Array Oper} {rest : List Oper} {o : Oper} {a : Act} {Q : Exit → Act → World → Prop} {w : World} (hgd : o.guard = none) (s x : Operand) (t : TypeId)
    (ho : o.op = .call { callee := .builtin .append, args := #[s, x], argTypes := #[t, t] })
    (base : Nat) (i : TypeInfo) (ht : P.underlying t = some (.slice 5)) (hi : P.info? 5 = some i) (hz : i.zero = some (.int .u8 0)) (hsize : i.size = 1) (hby : i.bytes = 1)
    (v : Value) (l : List UInt8) (B : Nat) (A : Option Addr) (m : List UInt8) (n c : Nat) (hn : m.length = n) (hs : a.eval s = v) (hown : OwnB w base v l) (hx : a.eval x = .slice A n c) (hm : Bys w B A m) (hlen : l.length + m.length ≤ 140737488355328) (hbase : base ≤ w.heap.size)
    (h : ∀ v' w', OwnB w' base v' (l ++ m) → Push w v w' v' → wpList P ops Q rest (a.put o.dst v') w') : wpList P ops Q (o :: rest) a w := by
  subst hn
  exact wpList_pushL hgd s x t ho base i ht hi hz hsize hby v l B A m c hs hown hx hm hlen hbase h
/-- Some first bytes complemented. -/
def mixN (e : List UInt8) (k : Nat) : List UInt8 := (e.take k).map neg ++ e.drop k
theorem mixN_len (e : List UInt8) (k : Nat) : (mixN e k).length = e.length := by unfold mixN; simp; omega
theorem mixN_at {e : List UInt8} {k : Nat} (h : k < e.length) : (mixN e k)[k]'(by rw [mixN_len]; exact h) = e[k] := by
  unfold mixN
  rw [List.getElem_append_right (by simp; omega)]
  simp [Nat.min_eq_left (Nat.le_of_lt h)]
theorem mixN_set {e : List UInt8} {k : Nat} (h : k < e.length) : (mixN e k).set k (neg e[k]) = mixN e (k + 1) := by
  unfold mixN
  have hl : ((e.take k).map neg).length = k := by simp; omega
  rw [List.set_append_right _ _ (by omega), hl, Nat.sub_self, List.drop_eq_getElem_cons h, List.set_cons_zero, List.take_succ_eq_append_getElem h, List.map_append, List.append_assoc]
  rfl
theorem mixN_zero (e : List UInt8) : mixN e 0 = e := rfl
theorem mixN_all {e : List UInt8} {k : Nat} (h : e.length ≤ k) : mixN e k = e.map neg := by
  unfold mixN
  rw [List.take_of_length_le h, List.drop_eq_nil_of_le h, List.append_nil]
theorem fits_kind {c : Col} {f : Fd} (h : f.fits c = true) : f.kind = 0 ∨ f.kind = 1 ∨ f.kind = 2 := by
  rcases fits_cases h with rfl | h | h
  · exact .inl rfl
  · exact .inr (.inl h.1)
  · exact .inr (.inr h.1)

set_option maxRecDepth 100000 in
set_option maxHeartbeats 3200000 in
theorem rencode_in (A1 A2 : Option Addr) (s : List Col) (l : List Fd) (c1 c2 : Nat) (w : World) (hs : Cols w w.heap.size A1 s) (hl : Fds w w.heap.size A2 l) (hs6 : s.length ≤ 6) (hR : fitsR s l = true) (hw : ∀ i (h : i < l.length), l[i].wide) :
    Calls Tryd.prog 72 #[.slice A1 s.length c1, .slice A2 l.length c2] w fun e w' => e = .returned (.string ⟨(encR s l).toArray⟩) ∧ Below w.heap.size w w' := by
  obtain ⟨i0', hi0, hz0, hz1, hz2⟩ := info_parts infoByte
  have HR := Lib.hid hR
  have hls := fitsR_len hR
  clear hR
  go_enter Tryd.func72, Tryd.ntmps72
  go_wp2_with fail
  go_loopw [5, 6] (fun b i wr => ∃ (v1 : Value) (k : Nat) (l1 : List UInt8), v1 = b ∧ k ≤ l.length ∧ i = .int .i64 (k : Int) ∧ OwnB wr w.heap.size v1 l1 ∧ Below w.heap.size w wr ∧ Hid (l1 = encR s (l.take k)) ∧ l1.length ≤ k * 35) (fun _ i _ => l.length - (intOf i).toNat)
  case atStart => exact ⟨_, 0, [], rfl, by omega, rfl, OwnB.nil _ _, Below.refl _ _, Lib.hid (by simp [encR_nil]), by simp⟩
  case round =>
    obtain ⟨v1, k, l1, rfl, hk, rfl, ho1, hB, HL, hlen⟩ := hrel
    by_cases hlt : k < l.length
    · have hks : k < s.length := by omega
      have hfit := fitsR_at HR.out hlt hks
      have het := encR_take hks hlt
      have hwk := hw k hlt
      obtain ⟨b, o, hA2, hb, f1, f2, f3⟩ := hl.at_ hlt
      subst hA2
      replace f1 := (hB.cell (p := ⟨b, o + k * 3, none⟩) hb).trans f1
      replace f2 := (hB.cell (p := ⟨b, o + k * 3 + 1, none⟩) hb).trans f2
      replace f3 := (hB.cell (p := ⟨b, o + k * 3 + 2, none⟩) hb).trans f3
      obtain ⟨b0, o0, hA0, hz9, d1, d2⟩ := hs.at_ hks
      subst hA0
      generalize s[k] = y at *
      generalize l[k] = f at *
      have hfl := encF_len hfit
      have htx := Fd.fits_size hfit
      have hkd := fits_kind hfit
      obtain ⟨yk, yd⟩ := y
      obtain ⟨fk, fn, ft⟩ := f
      have HT := Lib.hid het
      have i0 : (0 : Int) ≤ (k : Int) := by omega
      have i1 : (k : Int) < (s.length : Int) := by omega
      have i2 : (k : Int) < (l.length : Int) := by omega
      obtain ⟨A3, c3, hv3, hlc, hcm, -⟩ := ho1.read
      clear het hfit
      go_wp2_with fail
      subst hv3
      refine (rbytes_any ⟨fk, fn, ft⟩ wr hkd hwk htx).mono ?_
      rintro e w2 ⟨v2, rfl, ho2, hb2⟩
      have hB2 := hB.trans (hb2.mono hB.size)
      have hoo := ho1.below hb2
      have HC : Hid (encR s (l.take (k + 1)) = encR s (l.take k) ++ (if yd = true then (encF ⟨fk, fn, ft⟩).map neg else encF ⟨fk, fn, ft⟩)) := Lib.hid (by rw [HT.out]; rfl)
      generalize encF ⟨fk, fn, ft⟩ = e8 at hfl ho2 HC
      obtain ⟨G, capG, rfl, hG1, hG2, hcap, hcm2, -, -⟩ := ho2.open_ (by intro e; rw [e] at hfl; simp at hfl)
      have g2 : ∀ W, Below w2.heap.size w2 W ∨ True → True := fun _ _ => trivial
      obtain ⟨ne, hne⟩ : ∃ ne, ne = e8.length := ⟨_, rfl⟩
      rw [← hne] at ho2 hfl hcap ⊢
      have HNE := Lib.hid hne
      have hzr := hB.size
      clear f1 f2 f3 HT hne g2
      cases yd
      · have g2 := (hB2.cell (p := ⟨b0, o0 + k * 2 + 1, none⟩) hz9).trans d2
        go_wp2_with fail
        go_loopw [8] (fun j wx => ∃ m : Nat, j = .int .i64 (m : Int) ∧ m ≤ ne ∧ OwnB wx wr.heap.size (.slice (some ⟨G, 0, none⟩) ne capG) e8 ∧ Below wr.heap.size wr wx) (fun j _ => ne - (intOf j).toNat)
        case atStart => exact ⟨0, rfl, by omega, ho2, hb2⟩
        case round =>
          obtain ⟨m, rfl, hm, hox, hbx⟩ := hrel
          have hby := (OwnB.cells hox).2.2.2.2.2.2
          have hBx := hB.trans (hbx.mono hB.size)
          have ho9 := ho1.below hbx
          by_cases hml : m < ne
          · have hg2 := (hBx.cell (p := ⟨b0, o0 + k * 2 + 1, none⟩) hz9).trans d2
            clear hby g2
            go_wp2_with fail
            exact ⟨⟨m + 1, by go_num, hml, hox, hbx⟩, by simp [intOf]; omega⟩
          · have hl8 : l1.length + e8.length ≤ 140737488355328 := by have := HNE.out; omega
            have hml2 : ¬ (m : Int) < (ne : Int) := by omega
            clear g2 hox
            go_wp2_with (at_builtin; refine wpList_pushLn rfl _ _ 58 rfl w.heap.size i0' Tryd.underlying58 hi0 hz0 hz1 hz2 (.slice A3 l1.length c3) l1 _ (some ⟨G, 0, none⟩) e8 ne capG HNE.out.symm rfl ho9 rfl hby hl8 hBx.size ?_; intro v3 w3 ho3 hp3; obtain ⟨l3, hl3⟩ : ∃ l3, l3 = l1 ++ e8 := ⟨_, rfl⟩; rw [← hl3] at ho3; have hln3 : l3.length = l1.length + e8.length := (by rw [hl3, List.length_append]); have HL3 := Lib.hid hl3; have HN3 := Lib.hid hln3; clear hl3 hln3)
            exact ⟨⟨v3, k + 1, l3, rfl, hlt, by go_num, ho3, hBx.trans (hp3.below ho9 hBx.size), Lib.hid (by rw [HL3.out, HC.out, HL.out]; rfl), by have := HN3.out; have := HNE.out; omega⟩, by simp [intOf]; omega⟩
      · go_wp2_with fail
        go_loopw [8] (fun j wx => ∃ m : Nat, j = .int .i64 (m : Int) ∧ m ≤ ne ∧ OwnB wx wr.heap.size (.slice (some ⟨G, 0, none⟩) ne capG) (mixN e8 m) ∧ Below wr.heap.size wr wx) (fun j _ => ne - (intOf j).toNat)
        case atStart => exact ⟨0, rfl, by omega, by rw [mixN_zero]; exact ho2, hb2⟩
        case round =>
          obtain ⟨m, rfl, hm, hox, hbx⟩ := hrel
          obtain ⟨-, -, hGx, -, hcx, hfx, hby⟩ := OwnB.cells hox
          have hBx := hB.trans (hbx.mono hB.size)
          by_cases hml : m < ne
          · have hm8 : m < e8.length := by rw [← HNE.out]; exact hml
            have hc1 := hcx m (by rw [mixN_len]; exact hm8)
            rw [mixN_at hm8] at hc1
            have hst := hox.put m (neg e8[m])
            rw [mixN_set hm8] at hst
            have hg2 := (hBx.cell (p := ⟨b0, o0 + k * 2 + 1, none⟩) hz9).trans d2
            have hnn : (((neg e8[m]).toNat : Nat) : Int) = 255 - (e8[m].toNat : Int) := by
              have := neg_nat e8[m]
              have := e8[m].toNat_lt
              omega
            rw [hnn] at hst
            have hlt8 := e8[m].toNat_lt
            generalize (e8[m]).toNat = c at *
            have HST := Lib.hid hst
            have hf1 := hfx m
            clear hst hnn hcx hfx hby hox
            go_wp2_with fail
            exact ⟨⟨m + 1, by go_num, hml, HST.out, hbx.setCell (p := ⟨G, m, none⟩) hG1 _⟩, by simp [intOf]; omega⟩
          · have hml2 : ¬ (m : Int) < (ne : Int) := by omega
            rw [mixN_all (by rw [← HNE.out]; omega)] at hby
            have ho9 := ho1.below hbx
            have HNM := Lib.hid (show (e8.map neg).length = ne by rw [List.length_map]; exact HNE.out.symm)
            have hl8 : l1.length + (e8.map neg).length ≤ 140737488355328 := by have := HNE.out; simp; omega
            clear hox hcx hfx
            go_wp2_with (at_builtin; refine wpList_pushLn rfl _ _ 58 rfl w.heap.size i0' Tryd.underlying58 hi0 hz0 hz1 hz2 (.slice A3 l1.length c3) l1 _ (some ⟨G, 0, none⟩) (e8.map neg) ne capG HNM.out rfl ho9 rfl hby hl8 hBx.size ?_; intro v3 w3 ho3 hp3; obtain ⟨l3, hl3⟩ : ∃ l3, l3 = l1 ++ e8.map neg := ⟨_, rfl⟩; rw [← hl3] at ho3; have hln3 : l3.length = l1.length + e8.length := (by rw [hl3, List.length_append, List.length_map]); have HL3 := Lib.hid hl3; have HN3 := Lib.hid hln3; clear hl3 hln3)
            exact ⟨⟨v3, k + 1, l3, rfl, hlt, by go_num, ho3, hBx.trans (hp3.below ho9 hBx.size), Lib.hid (by rw [HL3.out, HC.out, HL.out]; rfl), by have := HN3.out; have := HNE.out; omega⟩, by simp [intOf]; omega⟩
    · have hL2 : l1 = encR s l := by rw [HL.out, List.take_of_length_le (by omega)]
      obtain ⟨A3, c3, rfl, -, -, hby⟩ := ho1.read
      have hcv := run_str (P := Tryd.prog) wr _ A3 l1 c3 hby 58 9 Tryd.underlying58 Tryd.underlying5 Tryd.underlying9
      have HL2 := Lib.hid hL2
      clear hL2 HL
      go_wp2_with fail
      go_ret
      rw [← HL2.out]
      exact ⟨rfl, hB⟩

set_option maxRecDepth 100000 in
set_option maxHeartbeats 1600000 in
theorem rencode_any (A1 A2 : Option Addr) (s : List Col) (l : List Fd) (c1 c2 : Nat) (w : World) (hs : Cols w w.heap.size A1 s) (hl : Fds w w.heap.size A2 l) (hw : ∀ i (h : i < l.length), l[i].wide) :
    Calls Tryd.prog 23 #[.slice A1 s.length c1, .slice A2 l.length c2] w (EncB (encV s l) w) := by
  have F := rfitsL_any A1 A2 s l c1 c2 w hs hl
  cases hf : fitsL s l
  · have hr : encV s l = (⟨#[]⟩, 1) := by simp [encV, hf]
    rw [hr]
    rw [hf] at F
    have H := Lib.hid F
    clear hr hf F hs hl hw
    go_enter Tryd.func23, Tryd.ntmps23
    go_wp2_with fail
    refine (H.out).mono ?_
    rintro e w1 ⟨rfl, hb1⟩
    go_wp2_with fail
    go_ret2
    exact ⟨rfl, hb1⟩
  · rw [hf] at F
    have H := Lib.hid F
    have hfr : fitsR s l = true := by simp only [fitsL, Bool.and_eq_true] at hf; exact hf.2
    have hs6 := (schOk_len (by simp only [fitsL, Bool.and_eq_true] at hf; exact hf.1)).2
    have hr : encV s l = if (encR s l).length ≤ 64 then (⟨(encR s l).toArray⟩, 0) else (⟨#[]⟩, 3) := by simp [encV, hf]
    rw [hr]
    have E := Lib.hid (fun (W : World) (k : Below w.heap.size w W) => rencode_in A1 A2 s l c1 c2 W ((hs.below k).more k.size) ((hl.below k).more k.size) hs6 hfr hw)
    have hxs : (⟨(encR s l).toArray⟩ : ByteArray).size = (encR s l).length := rfl
    clear hf F hr hfr hs hl hw
    generalize (⟨(encR s l).toArray⟩ : ByteArray) = x at *
    generalize (encR s l).length = n at *
    by_cases h64 : n ≤ 64
    · rw [if_pos h64]
      have hd : decide ((64 : Int) < (x.size : Int)) = false := by simp; omega
      have hd2 : ¬ ((64 : Int) < (x.size : Int)) := by omega
      clear hxs
      go_enter Tryd.func23, Tryd.ntmps23
      go_wp2_with fail
      refine (H.out).mono ?_
      rintro e w1 ⟨rfl, hb1⟩
      go_wp2_with fail
      refine (E.out _ hb1).mono ?_
      rintro e w2 ⟨rfl, hb2⟩
      go_wp2_with fail
      go_ret2
      exact ⟨rfl, hb1.trans (hb2.mono hb1.size)⟩
    · rw [if_neg h64]
      have hd : decide ((64 : Int) < (x.size : Int)) = true := by simp; omega
      have hd2 : (64 : Int) < (x.size : Int) := by omega
      clear hxs
      go_enter Tryd.func23, Tryd.ntmps23
      go_wp2_with fail
      refine (H.out).mono ?_
      rintro e w1 ⟨rfl, hb1⟩
      go_wp2_with fail
      refine (E.out _ hb1).mono ?_
      rintro e w2 ⟨rfl, hb2⟩
      go_wp2_with fail
      go_ret2
      exact ⟨rfl, hb1.trans (hb2.mono hb1.size)⟩
end Go.Proofs.YtlnmpiigmedgkaaDoor
