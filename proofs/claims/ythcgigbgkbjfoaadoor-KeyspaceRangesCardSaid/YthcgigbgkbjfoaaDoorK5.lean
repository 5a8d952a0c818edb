/-
  The walk of KeyspacePoints: from whatever arguments it answers true and only makes memory. Conditions: 'letters' holds six strings of one byte; the first argument reads as a slice of ints.
-/
import Derived.Test.YthcgigbgkbjfoaaDoorKsL
import Derived.Test.YthcgigbgkbjfoaaDoorKsX
namespace Go.Proofs.YthcgigbgkbjfoaaDoor
open Go.RowKit

theorem At.tape {w a : World} {l : List (Nat × TypeId × Array Value)} {g : Nat} (h : At w l g a) : Tape a g := h.2
theorem own_rgs {w : World} {base : Nat} {v : Value} {l : List Rg} (h : w.ownsRow base 34 4 v l.length (flat l)) : ∃ A c, v = .slice A l.length c ∧ l.length ≤ c ∧ c ≤ maxLen ∧ Rgs w w.heap.size A l := by
  obtain ⟨h1, ⟨rfl, h0⟩ | ⟨g, cap, cur, rfl, h4, h5, h6, h7, h8, h9⟩⟩ := h
  · have hl : l = [] := List.eq_nil_of_length_eq_zero h0
    subst hl
    exact ⟨none, 0, rfl, Nat.le_refl _, by unfold maxLen; omega, fun h => absurd rfl h⟩
  · refine ⟨_, cap, rfl, h6, h7, fun hne => ⟨g, 0, rfl, Has.lt h5, fun i hi => ?_⟩⟩
    clear hne
    have hc := fun o => cell_of_row w g o cur 34 (0, 0) h5
    have hf : ∀ j, j < 4 → cur[0 + i * 4 + j]? = ([.string l[i].lo.key, .bool l[i].lo.top, .string l[i].hi.key, .bool l[i].hi.top] : List Value)[j]? := fun j hj => by
      rw [← flat_at l i hi j hj, ← h9, Nat.zero_add, List.getElem?_take_of_lt (by omega), Array.getElem?_toList]
    exact ⟨(hc _).trans (hf 0 (by omega)), (hc _).trans (hf 1 (by omega)), (hc _).trans (hf 2 (by omega)), (hc _).trans (hf 3 (by omega))⟩

theorem cnt_take_yes {l : List Rg} {k : Nat} {x : ByteArray} (hk : k < l.length) (h : l[k].has x = true) : cnt (l.take (k + 1)) x = cnt (l.take k) x + 1 := by
  rw [List.take_succ_eq_append_getElem hk]; unfold cnt; rw [List.countP_append]; simp [h]
theorem cnt_take_no {l : List Rg} {k : Nat} {x : ByteArray} (hk : k < l.length) (h : l[k].has x = false) : cnt (l.take (k + 1)) x = cnt (l.take k) x := by
  rw [List.take_succ_eq_append_getElem hk]; unfold cnt; rw [List.countP_append]; simp [h]
theorem cnt_le (l : List Rg) (x : ByteArray) : cnt l x ≤ l.length := List.countP_le_length

set_option maxRecDepth 100000 in
set_option maxHeartbeats 12800000 in
theorem points_walk (A : Option Addr) (n0 cp : Nat) (key : ByteArray) (w : World) (hl : Lets w) (hw : 0 < w.heap.size) (hnc : n0 ≤ cp) (hc : cp ≤ maxLen) (hN : Nums w w.heap.size A n0) :
    Calls Tryd.prog 7 #[.slice A n0 cp, .string key] w (LawP w) := by
  go_enter Tryd.func7, Tryd.ntmps7
  go_wp2_with fail
  refine (new_any A n0 cp _ hl hw hnc hc hN).mono ?_
  rintro e w1 ⟨g, hg1, rfl, hT, hb⟩
  have hA : At w [] g w1 := ⟨(Inv.nil w).below hb, hT⟩
  clear hb hT hl hN hnc hc
  go_wp2_with fail
  refine (range_any g _ hA.2).mono ?_
  rintro e w2 ⟨a, _, _, rfl, hst⟩
  replace hA := hA.step hst hg1 (fun _ h => by cases h)
  clear hst
  go_wp2_with fail
  refine (range_any g _ hA.2).mono ?_
  rintro e w3 ⟨b, _, _, rfl, hst⟩
  replace hA := hA.step hst hg1 (fun _ h => by cases h)
  clear hst
  have hgB2 := hA.2.lt
  replace hA := (hA.add 34 #[Value.string a.lo.key, Value.bool a.lo.top, Value.string a.hi.key, Value.bool a.hi.top]).add 34 #[Value.string b.lo.key, Value.bool b.lo.top, Value.string b.hi.key, Value.bool b.hi.top]
  simp only [World.size_alloc] at hA
  have hgB := hA.2.lt
  simp only [World.size_alloc] at hgB
  generalize hBB : w3.heap.size = B at hA hgB hgB2
  have hne2 : ∀ q ∈ [(B + 1, 34, #[Value.string b.lo.key, Value.bool b.lo.top, Value.string b.hi.key, Value.bool b.hi.top]), (B, 34, #[Value.string a.lo.key, Value.bool a.lo.top, Value.string a.hi.key, Value.bool a.hi.top])], q.1 ≠ g := by (simp; omega)
  have r1 := fun (w' : World) (h : At w [(B + 1, 34, #[Value.string b.lo.key, Value.bool b.lo.top, Value.string b.hi.key, Value.bool b.hi.top]), (B, 34, #[Value.string a.lo.key, Value.bool a.lo.top, Value.string a.hi.key, Value.bool a.hi.top])] g w') => h.1.hd.1
  have r2 := fun (w' : World) (h : At w [(B + 1, 34, #[Value.string b.lo.key, Value.bool b.lo.top, Value.string b.hi.key, Value.bool b.hi.top]), (B, 34, #[Value.string a.lo.key, Value.bool a.lo.top, Value.string a.hi.key, Value.bool a.hi.top])] g w') => h.1.tl.hd.1
  simp only at r1 r2
  go_wp2_with fail
  go_region_held3 (fun w' => At w [(B + 1, 34, #[Value.string b.lo.key, Value.bool b.lo.top, Value.string b.hi.key, Value.bool b.hi.top]), (B, 34, #[Value.string a.lo.key, Value.bool a.lo.top, Value.string a.hi.key, Value.bool a.hi.top])] g w')
    (first | with_reducible exact hS1 | with_reducible exact hA.drew | with_reducible assumption | (with_reducible refine At.alloc ?_ _ <;> with_reducible assumption))
    ((go_at_call 34; refine (key_any g _ (At.tape (w := w) (l := [(B + 1, 34, #[Value.string b.lo.key, Value.bool b.lo.top, Value.string b.hi.key, Value.bool b.hi.top]), (B, 34, #[Value.string a.lo.key, Value.bool a.lo.top, Value.string a.hi.key, Value.bool a.hi.top])]) (by with_reducible assumption))).mono ?_; rintro e w5 ⟨kx, hk, rfl, hst⟩; have hS1 := At.step ‹_› hst hg1 hne2; clear hst))
  go_wp2_with fail
  have hA3 := hS1.add 9 #[Value.string kx, Value.string key, Value.string a.lo.key, Value.string b.hi.key]
  clear hA
  have hgD : g < w5.heap.size := hS1.2.lt
  generalize w5.heap.size = D at *
  clear r1 r2 hS1
  have hne3 : ∀ q ∈ [(D, 9, #[Value.string kx, Value.string key, Value.string a.lo.key, Value.string b.hi.key]), (B + 1, 34, #[Value.string b.lo.key, Value.bool b.lo.top, Value.string b.hi.key, Value.bool b.hi.top]), (B, 34, #[Value.string a.lo.key, Value.bool a.lo.top, Value.string a.hi.key, Value.bool a.hi.top])], q.1 ≠ g := by (simp; omega)
  go_loopw [32] (fun i wr => ∃ k : Nat, k ≤ 4 ∧ i = .int .i64 k ∧ At w [(D, 9, #[Value.string kx, Value.string key, Value.string a.lo.key, Value.string b.hi.key]), (B + 1, 34, #[Value.string b.lo.key, Value.bool b.lo.top, Value.string b.hi.key, Value.bool b.hi.top]), (B, 34, #[Value.string a.lo.key, Value.bool a.lo.top, Value.string a.hi.key, Value.bool a.hi.top])] g wr) (fun i _ => 4 - (intOf i).toNat)
  case atStart => exact ⟨0, by omega, rfl, hA3⟩
  case round =>
    clear hA3
    obtain ⟨k, hk, rfl, hA⟩ := hrel
    by_cases hlt : k < 4
    · obtain ⟨x, hx⟩ : ∃ x : ByteArray, #[Value.string kx, Value.string key, Value.string a.lo.key, Value.string b.hi.key][k]? = some (.string x) := by
        match k, hlt with
        | 0, _ | 1, _ | 2, _ | 3, _ => exact ⟨_, rfl⟩
      replace hx := (hA.1.hd.1 k).trans hx
      simp only at hx
      have r1 := fun (w' : World) (h : At w [(D, 9, #[Value.string kx, Value.string key, Value.string a.lo.key, Value.string b.hi.key]), (B + 1, 34, #[Value.string b.lo.key, Value.bool b.lo.top, Value.string b.hi.key, Value.bool b.hi.top]), (B, 34, #[Value.string a.lo.key, Value.bool a.lo.top, Value.string a.hi.key, Value.bool a.hi.top])] g w') => h.1.tl.hd.1
      have r2 := fun (w' : World) (h : At w [(D, 9, #[Value.string kx, Value.string key, Value.string a.lo.key, Value.string b.hi.key]), (B + 1, 34, #[Value.string b.lo.key, Value.bool b.lo.top, Value.string b.hi.key, Value.bool b.hi.top]), (B, 34, #[Value.string a.lo.key, Value.bool a.lo.top, Value.string a.hi.key, Value.bool a.hi.top])] g w') => h.1.tl.tl.hd.1
      simp only at r1 r2
      have HP := Lib.hid (points a b x)
      obtain ⟨p, hp⟩ : ∃ p, p = a.has x := ⟨_, rfl⟩
      obtain ⟨q, hq⟩ : ∃ q, q = b.has x := ⟨_, rfl⟩
      have HIN := Lib.hid hp.symm
      have HOUT := Lib.hid hq.symm
      clear hp hq
      go_wp2_with fail
      go_region_held3 (fun w' => At w [(D, 9, #[Value.string kx, Value.string key, Value.string a.lo.key, Value.string b.hi.key]), (B + 1, 34, #[Value.string b.lo.key, Value.bool b.lo.top, Value.string b.hi.key, Value.bool b.hi.top]), (B, 34, #[Value.string a.lo.key, Value.bool a.lo.top, Value.string a.hi.key, Value.bool a.hi.top])] g w')
        (first | with_reducible exact hS1 | with_reducible exact hA.drew | with_reducible assumption)
        ((go_at_call 35; refine (has_key _ _ _).mono ?_; rintro e w6 ⟨he6, hb6⟩; (first | rw [HIN.out] at he6 | rw [HOUT.out] at he6); subst he6; have hS1 := At.below ‹_› hb6; clear hb6))
      go_wp2_with fail
      refine (sub_key a b _).mono ?_
      rintro e w7 ⟨v, rfl, ho, hb7⟩
      have hA4 := At.below hS1 hb7
      obtain ⟨A2, c2, rfl, hl1, hl2, hR⟩ := own_rgs ho
      have hP := HP.out
      rw [HIN.out, HOUT.out] at hP
      have hlen := subK_len a b
      obtain ⟨l, hL⟩ : ∃ l, l = a.subK b := ⟨_, rfl⟩
      rw [← hL] at hP hlen hl1 hR
      rw [← hL]
      obtain ⟨ri, hri⟩ : ∃ ri, ri = a.intK b := ⟨_, rfl⟩
      obtain ⟨rh, hrh⟩ : ∃ rh, rh = a.hulK b := ⟨_, rfl⟩
      rw [← hri, ← hrh] at hP
      have RI := Lib.hid hri.symm
      have RH := Lib.hid hrh.symm
      have HF1 := Lib.hid hP.1
      have HF2 := Lib.hid hP.2.1
      have HF3 := Lib.hid hP.2.2
      clear hP hri hrh hL ho hb7 hS1 hA HP HIN HOUT
      unfold maxLen at hl2
      go_wp2_with fail
      go_loopw [13, 14] (fun nn i wr => ∃ j : Nat, j ≤ l.length ∧ i = .int .i64 j ∧ nn = .int .i64 (cnt (l.take j) x : Int) ∧ At w [(D, 9, #[Value.string kx, Value.string key, Value.string a.lo.key, Value.string b.hi.key]), (B + 1, 34, #[Value.string b.lo.key, Value.bool b.lo.top, Value.string b.hi.key, Value.bool b.hi.top]), (B, 34, #[Value.string a.lo.key, Value.bool a.lo.top, Value.string a.hi.key, Value.bool a.hi.top])] g wr ∧ Rgs wr w7.heap.size A2 l ∧ w7.heap.size ≤ wr.heap.size) (fun _ i _ => l.length - (intOf i).toNat)
      case atStart => exact ⟨0, Nat.zero_le _, rfl, rfl, hA4, hR, Nat.le_refl _⟩
      case round =>
        clear hA4 hR
        obtain ⟨j, hj, rfl, rfl, hA, hR, hsz⟩ := hrel
        have hcl := cnt_le (l.take j) x
        have hcl2 : (l.take j).length ≤ 2 := Nat.le_trans (List.length_take_le' j l) hlen
        have hcl3 : cnt (l.take j) x ≤ 2 := Nat.le_trans hcl hcl2
        clear hcl hcl2
        by_cases hjl : j < l.length
        · obtain ⟨b1, o1, hA2, hb1, hcell⟩ := hR (by intro e; rw [e] at hjl; simp at hjl)
          subst hA2
          obtain ⟨x1, x2, x3, x4⟩ := hcell j hjl
          have HY := Lib.hid (fun h => cnt_take_yes (x := x) hjl h)
          have HN := Lib.hid (fun h => cnt_take_no (x := x) hjl h)
          clear hcell
          generalize l[j] = el at *
          cases hh : el.has x
          · have HE := Lib.hid hh
            clear hh
            go_wp2_with (go_at_call 35; refine (has_key _ _ _).mono ?_; rintro e w6 ⟨he6, hb6⟩; (first | rw [HE.out] at he6); subst he6; replace hA := hA.below hb6; replace hR := hR.keep (fun i hi => hb6.block i (Nat.lt_of_lt_of_le hi hsz)); replace hsz := Nat.le_trans hsz hb6.size; clear hb6 x1 x2 x3 x4)
            go_roundw
            case rel => exact ⟨j + 1, hjl, by go_num, by rw [HN.out HE.out], hA, hR, hsz⟩
            case measure => simp [intOf]; omega
          · have HE := Lib.hid hh
            clear hh
            go_wp2_with (go_at_call 35; refine (has_key _ _ _).mono ?_; rintro e w6 ⟨he6, hb6⟩; (first | rw [HE.out] at he6); subst he6; replace hA := hA.below hb6; replace hR := hR.keep (fun i hi => hb6.block i (Nat.lt_of_lt_of_le hi hsz)); replace hsz := Nat.le_trans hsz hb6.size; clear hb6 x1 x2 x3 x4)
            go_roundw
            case rel => exact ⟨j + 1, hjl, by go_num, by rw [HY.out HE.out]; go_num, hA, hR, hsz⟩
            case measure => simp [intOf]; omega
        · have hN : cnt (l.take j) x = if (p && !q) = true then 1 else 0 := by
            have e : j = l.length := by omega
            rw [e, List.take_length]
            exact HF3.out
          clear hcl3 HF3
          cases p <;> cases q
          case' true.false => rw [show cnt (l.take j) x = 1 from hN]
          case' true.true => rw [show cnt (l.take j) x = 0 from hN]
          case' false.false => rw [show cnt (l.take j) x = 0 from hN]
          case' false.true => rw [show cnt (l.take j) x = 0 from hN]
          all_goals
            clear hN
            go_wp2_with (first | (go_at_call 37; refine (int_key a b _).mono ?_; rintro e w6 ⟨he6, hb6⟩; rw [RI.out] at he6; subst he6; replace hA := hA.below hb6; clear hb6) | (go_at_call 38; refine (hul_key a b _).mono ?_; rintro e w6 ⟨he6, hb6⟩; rw [RH.out] at he6; subst he6; replace hA := hA.below hb6; clear hb6) | (go_at_call 35; refine (has_key _ _ _).mono ?_; rintro e w6 ⟨he6, hb6⟩; (first | rw [HF1.out] at he6 | rw [HF2.out rfl] at he6); subst he6; replace hA := hA.below hb6; clear hb6))
            go_roundw
            case rel => exact ⟨k + 1, hlt, by go_num, hA⟩
            case measure => simp [intOf]; omega
    · go_wp2_with (go_at_call 21; refine (sane_any _).mono ?_; rintro e w6 ⟨rfl, hb6⟩; replace hA := hA.below hb6; clear hb6)
      go_ret
      exact ⟨rfl, hA.1.1⟩
end Go.Proofs.YthcgigbgkbjfoaaDoor
