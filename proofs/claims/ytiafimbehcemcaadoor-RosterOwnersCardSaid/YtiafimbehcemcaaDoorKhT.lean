/-
  Find of both packages, Has and Without of the reference of chapter 5: what they answer. Conditions: the nodes and the numbers can be read.
-/
import Derived.Test.YtiafimbehcemcaaDoorKgI
namespace Go.Proofs.YtiafimbehcemcaaDoor
open Go.RowKit

/-- The first node with a number. -/
def fndV (l : List Nd) (id : Int) : Nd := (l[plc l id]?).getD Nd.none
theorem fnd_yes {l : List Nd} {id : Int} {k : Nat} (hk : k < l.length) (h1 : l[k].id = id) (h2 : ∀ j (h : j < k), (l[j]'(by omega)).id ≠ id) : fndV l id = l[k] ∧ decide (plc l id < l.length) = true := by
  unfold fndV
  rw [plc_uniq hk h1 h2, List.getElem?_eq_getElem hk]
  exact ⟨rfl, by simpa using hk⟩
theorem fnd_no {l : List Nd} {id : Int} (h : ∀ j (h : j < l.length), l[j].id ≠ id) : fndV l id = Nd.none ∧ decide (plc l id < l.length) = false := by
  unfold fndV
  rw [plc_none h, List.getElem?_eq_none (Nat.le_refl _)]
  exact ⟨rfl, by simp⟩
/-- What Find gives. -/
def FndP (l : List Nd) (id : Int) (w : World) (e : Ending) (w' : World) : Prop := e = .returned (.tuple #[(fndV l id).val, .bool (decide (plc l id < l.length))]) ∧ Below w.heap.size w w'

set_option maxRecDepth 100000 in
set_option maxHeartbeats 1600000 in
theorem rfind_any (A : Option Addr) (l : List Nd) (c : Nat) (id : Int) (w : World) (hl : Nds w w.heap.size A l) (hn : l.length ≤ 100000) :
    Calls Tryd.prog 44 #[.slice A l.length c, .int .i64 id] w (FndP l id w) := by
  have hb0 := (Below.refl w.heap.size w).alloc (Nat.le_refl _) (.cells #[.int .i64 0, .string ⟨#[]⟩, .int .u32 0] 60)
  have hX := Has.new w 60 #[.int .i64 0, .string ⟨#[]⟩, .int .u32 0]
  have HX := Lib.hid hX
  have HB0 := Lib.hid hb0
  have HNO := Lib.hid (fnd_no (l := l) (id := id))
  have HYES := Lib.hid (fun (k : Nat) (hk : k < l.length) => fnd_yes (l := l) (id := id) hk)
  unfold FndP
  generalize fndV l id = V at *
  generalize decide (plc l id < l.length) = D at *
  clear hX hb0
  go_enter Tryd.func44, Tryd.ntmps44
  go_wp2_with fail
  generalize hw1 : (w.alloc (.cells #[.int .i64 0, .string ⟨#[]⟩, .int .u32 0] 60)) = w1 at *
  go_loopw [6] (fun i wr => ∃ k : Nat, k ≤ l.length ∧ i = .int .i64 (k : Int) ∧ w1 = wr ∧ Hid (∀ j (_ : j < k) (h : j < l.length), l[j].id ≠ id)) (fun i _ => l.length - (intOf i).toNat)
  case atStart => exact ⟨0, Nat.zero_le _, rfl, rfl, Lib.hid (fun j h => absurd h (by omega))⟩
  case round =>
    obtain ⟨k, hk, rfl, rfl, HK⟩ := hrel
    have x0 := HX.out.cell 0
    have x1 := HX.out.cell 1
    have x2 := HX.out.cell 2
    have z := fun o => HX.out.frozen o
    by_cases hlt : k < l.length
    · obtain ⟨b, o, hA2, hbl, f1, f2, f3⟩ := hl.at_ hlt
      subst hA2
      replace f1 := (HB0.out.cell (p := ⟨b, o + k * 3, none⟩) hbl).trans f1
      replace f2 := (HB0.out.cell (p := ⟨b, o + k * 3 + 1, none⟩) hbl).trans f2
      replace f3 := (HB0.out.cell (p := ⟨b, o + k * 3 + 2, none⟩) hbl).trans f3
      have HYK := Lib.hid (HYES.out k hlt)
      have HNK := Lib.hid (fun (h : l[k].id ≠ id) (j : Nat) (h1 : j < k + 1) (h2 : j < l.length) => (by
        by_cases e : j = k
        · subst e; exact h
        · exact HK.out j (by omega) h2 : l[j].id ≠ id))
      generalize l[k] = y at *
      obtain ⟨yi, yk, yw⟩ := y
      have i0 : (0 : Int) ≤ (k : Int) := by omega
      have i1 : (k : Int) < (l.length : Int) := by omega
      by_cases he : yi = id
      · subst he
        have HV := Lib.hid (HYK.out rfl fun j h => HK.out j h (by omega))
        have e1 : (yi == yi) = true := by simp
        clear HYK HNK HK HYES HNO
        go_wp2_with fail
        refine bodyPost_ret (v := .tuple #[.agg #[.int .i64 yi, .string yk, .int .u32 (yw : Int)], .bool true]) (by simp [results, Tryd.results44, go_sem, *]) rfl ⟨by rw [HV.out.1, HV.out.2], ?_⟩
        exact ((HB0.out.setCell (Nat.le_refl _) _).setCell (Nat.le_refl _) _).setCell (Nat.le_refl _) _
      · have HZ := Lib.hid (HNK.out he)
        have e1 : (yi == id) = false := by simpa using he
        clear HYK HNK HK
        go_wp2_with fail
        exact ⟨⟨k + 1, hlt, by go_num, trivial, HZ⟩, by simp [intOf]; omega⟩
    · have HV := Lib.hid (HNO.out fun j h => HK.out j (by omega) h)
      have i1 : ¬ (k : Int) < (l.length : Int) := by omega
      clear HK HYES HNO
      go_wp2_with fail
      refine bodyPost_ret (v := .tuple #[.agg #[.int .i64 0, .string ⟨#[]⟩, .int .u32 0], .bool false]) (by simp [results, Tryd.results44, go_sem, *]) rfl ⟨by rw [HV.out.1, HV.out.2]; rfl, ?_⟩
      exact ((HB0.out.setCell (Nat.le_refl _) _).setCell (Nat.le_refl _) _).setCell (Nat.le_refl _) _

set_option maxRecDepth 100000 in
set_option maxHeartbeats 1600000 in
theorem find_any (A : Option Addr) (l : List Nd) (c : Nat) (id : Int) (w : World) (hl : Nds w w.heap.size A l) (hn : l.length ≤ 100000) :
    Calls Tryd.prog 43 #[.slice A l.length c, .int .i64 id] w (FndP l id w) := by
  have hb0 := (Below.refl w.heap.size w).alloc (Nat.le_refl _) (.cells #[.int .i64 0, .string ByteArray.empty, .int .u32 0] 60)
  have hX := Has.new w 60 #[.int .i64 0, .string ByteArray.empty, .int .u32 0]
  have HP := place_any A l c id _ ((hl.below hb0).more hb0.size) hn
  have HX := Lib.hid hX
  have HB0 := Lib.hid hb0
  unfold FndP
  by_cases hf : plc l id < l.length
  · have hz : plcI l id = (plc l id : Int) := if_pos hf
    rw [hz] at HP
    have HP := Lib.hid HP
    obtain ⟨b, o, hA2, hbl, f1, f2, f3⟩ := hl.at_ hf
    subst hA2
    have HV : Hid (fndV l id = l[plc l id]) := Lib.hid (by unfold fndV; rw [List.getElem?_eq_getElem hf]; rfl)
    have hd : decide (plc l id < l.length) = true := by simpa using hf
    rw [hd]
    generalize l[plc l id] = y at *
    generalize plc l id = k at *
    generalize fndV l id = V at *
    obtain ⟨yi, yk, yw⟩ := y
    have i0 : (0 : Int) ≤ (k : Int) := by omega
    have i1 : (k : Int) < (l.length : Int) := by omega
    have i2 : ¬ (k : Int) < 0 := by omega
    clear hz hd hl hX hb0
    go_enter Tryd.func43, Tryd.ntmps43
    go_wp2_with fail
    refine (HP.out).mono ?_
    rintro e w1 ⟨rfl, hb1⟩
    have X1 := HX.out.below hb1
    have x0 := X1.cell 0
    have x1 := X1.cell 1
    have x2 := X1.cell 2
    have z := fun o => X1.frozen o
    have hB1 := HB0.out.trans (hb1.mono HB0.out.size)
    replace f1 := (hB1.cell (p := ⟨b, o + k * 3, none⟩) hbl).trans f1
    replace f2 := (hB1.cell (p := ⟨b, o + k * 3 + 1, none⟩) hbl).trans f2
    replace f3 := (hB1.cell (p := ⟨b, o + k * 3 + 2, none⟩) hbl).trans f3
    have HB1 := Lib.hid hB1
    clear hb1 X1 hB1
    go_wp2_with fail
    refine bodyPost_ret (v := .tuple #[.agg #[.int .i64 yi, .string yk, .int .u32 (yw : Int)], .bool true]) (by simp [results, Tryd.results43, go_sem, *]) rfl ⟨by rw [HV.out], ?_⟩
    exact ((HB1.out.setCell (Nat.le_refl _) _).setCell (Nat.le_refl _) _).setCell (Nat.le_refl _) _
  · have hz : plcI l id = -1 := if_neg hf
    rw [hz] at HP
    have HP := Lib.hid HP
    have HV : Hid (fndV l id = Nd.none) := Lib.hid (by unfold fndV; rw [List.getElem?_eq_none (by omega)]; rfl)
    have hd : decide (plc l id < l.length) = false := by simpa using hf
    rw [hd]
    generalize fndV l id = V at *
    clear hz hd hl hX hb0 hf
    go_enter Tryd.func43, Tryd.ntmps43
    go_wp2_with fail
    refine (HP.out).mono ?_
    rintro e w1 ⟨rfl, hb1⟩
    have X1 := HX.out.below hb1
    have x0 := X1.cell 0
    have x1 := X1.cell 1
    have x2 := X1.cell 2
    have z := fun o => X1.frozen o
    have HB1 := Lib.hid (HB0.out.trans (hb1.mono HB0.out.size))
    clear hb1 X1
    go_wp2_with fail
    refine bodyPost_ret (v := .tuple #[.agg #[.int .i64 0, .string ⟨#[]⟩, .int .u32 0], .bool false]) (by simp [results, Tryd.results43, go_sem, *]) rfl ⟨by rw [HV.out]; rfl, ?_⟩
    exact ((HB1.out.setCell (Nat.le_refl _) _).setCell (Nat.le_refl _) _).setCell (Nat.le_refl _) _

set_option maxRecDepth 100000 in
set_option maxHeartbeats 1600000 in
theorem rhas_any (A : Option Addr) (ids : List Int) (c : Nat) (id : Int) (w : World) (hl : Ins w w.heap.size A ids) (hn : ids.length ≤ 100000) :
    Calls Tryd.prog 111 #[.slice A ids.length c, .int .i64 id] w fun e w' => e = .returned (.bool (ids.contains id)) ∧ w = w' := by
  have HNO : Hid ((∀ j (h : j < ids.length), ids[j] ≠ id) → ids.contains id = false) := Lib.hid fun h => by
    rw [← Bool.not_eq_true, List.contains_iff_mem]
    intro hm
    obtain ⟨j, hj, e⟩ := List.getElem_of_mem hm
    exact h j hj e
  have HYES : Hid (∀ j (h : j < ids.length), ids[j] = id → ids.contains id = true) := Lib.hid fun j h e => by
    rw [List.contains_iff_mem, ← e]
    exact List.getElem_mem h
  generalize ids.contains id = V at *
  go_enter Tryd.func111, Tryd.ntmps111
  go_wp2_with fail
  go_loopw [5] (fun i wr => ∃ k : Nat, k ≤ ids.length ∧ i = .int .i64 (k : Int) ∧ w = wr ∧ Hid (∀ j (_ : j < k) (h : j < ids.length), ids[j] ≠ id)) (fun i _ => ids.length - (intOf i).toNat)
  case atStart => exact ⟨0, Nat.zero_le _, rfl, rfl, Lib.hid (fun j h => absurd h (by omega))⟩
  case round =>
    obtain ⟨k, hk, rfl, rfl, HK⟩ := hrel
    by_cases hlt : k < ids.length
    · obtain ⟨b, o, hA2, hbl, _, f1⟩ := hl.at_ hlt
      subst hA2
      have HYK := Lib.hid (HYES.out k hlt)
      have HNK := Lib.hid (fun (h : ids[k] ≠ id) (j : Nat) (h1 : j < k + 1) (h2 : j < ids.length) => (by
        by_cases e : j = k
        · subst e; exact h
        · exact HK.out j (by omega) h2 : ids[j] ≠ id))
      generalize ids[k] = y at *
      have i0 : (0 : Int) ≤ (k : Int) := by omega
      have i1 : (k : Int) < (ids.length : Int) := by omega
      by_cases he : y = id
      · subst he
        have HV := Lib.hid (HYK.out rfl)
        have e1 : (y == y) = true := by simp
        clear HYK HNK HK HYES HNO
        go_wp2_with fail
        go_ret
        exact ⟨ret_bool HV.out.symm, rfl⟩
      · have HZ := Lib.hid (HNK.out he)
        have e1 : (y == id) = false := by simpa using he
        clear HYK HNK HK
        go_wp2_with fail
        exact ⟨⟨k + 1, hlt, by go_num, trivial, HZ⟩, by simp [intOf]; omega⟩
    · have HV := Lib.hid (HNO.out fun j h => HK.out j (by omega) h)
      have i1 : ¬ (k : Int) < (ids.length : Int) := by omega
      clear HK HYES HNO
      go_wp2_with fail
      go_ret
      exact ⟨ret_bool HV.out.symm, rfl⟩

set_option maxRecDepth 100000 in
set_option maxHeartbeats 1600000 in
theorem rwithout_any (A A2 : Option Addr) (l : List Nd) (c c2 : Nat) (ids : List Int) (w : World) (hl : Nds w w.heap.size A l) (hi : Ins w w.heap.size A2 ids) (hn : l.length ≤ 1000) (hm : ids.length ≤ 1000) :
    Calls Tryd.prog 50 #[.slice A l.length c, .slice A2 ids.length c2] w (NdsP (wout l ids) w) := by
  obtain ⟨inf, hif, hif1, hif2, hif3⟩ := infoN_parts
  have HHA := Lib.hid (fun (W : World) (k : Below w.heap.size w W) (id : Int) => rhas_any A2 ids c2 id W ((hi.keep k.block).more k.size) (by omega))
  go_enter Tryd.func50, Tryd.ntmps50
  go_wp2_with fail
  go_loopw [5, 6] (fun b i wr => ∃ (v1 : Value) (k : Nat) (l1 : List Nd), v1 = b ∧ k ≤ l.length ∧ i = .int .i64 (k : Int) ∧ OwnN wr w.heap.size v1 l1 ∧ Below w.heap.size w wr ∧ Hid (l1 = wout (l.take k) ids) ∧ l1.length ≤ k) (fun _ i _ => l.length - (intOf i).toNat)
  case atStart => exact ⟨_, 0, [], rfl, by omega, rfl, OwnN.nil _ _, Below.refl _ _, Lib.hid (by simp [wout]), by simp⟩
  case round =>
    obtain ⟨v1, k, l1, rfl, hk, rfl, ho1, hB, HL, hlen⟩ := hrel
    by_cases hlt : k < l.length
    · obtain ⟨b, o, hA2, hb, f1, f2, f3⟩ := hl.at_ hlt
      subst hA2
      have HY := Lib.hid (fun (hy : l[k].id ∉ ids) => wout_yes hlt hy)
      have HNo := Lib.hid (fun (hy : l[k].id ∈ ids) => wout_no hlt hy)
      have HC := HHA.out wr hB l[k].id
      replace f1 := (hB.cell (p := ⟨b, o + k * 3, none⟩) hb).trans f1
      replace f2 := (hB.cell (p := ⟨b, o + k * 3 + 1, none⟩) hb).trans f2
      replace f3 := (hB.cell (p := ⟨b, o + k * 3 + 2, none⟩) hb).trans f3
      generalize l[k] = y at *
      obtain ⟨yi, yk, yw⟩ := y
      have i0 : (0 : Int) ≤ (k : Int) := by omega
      have i1 : (k : Int) < (l.length : Int) := by omega
      cases hc : ids.contains yi
      · have hni : yi ∉ ids := fun h => by rw [← List.contains_iff_mem, hc] at h; cases h
        have HZ : Hid (l1 ++ [⟨yi, yk, yw⟩] = wout (l.take (k + 1)) ids) := Lib.hid (by rw [HL.out, HY.out hni])
        simp only [hc] at HC
        have HC := Lib.hid HC
        clear hc hni HY HNo
        go_wp2_with fail
        refine (HC.out).mono ?_
        rintro e w' ⟨rfl, rfl⟩
        have hlen2 : l1.length < 1000000 := by omega
        go_wp2_with (at_builtin; refine wpList_pushN rfl _ _ 23 rfl w.heap.size inf Tryd.underlying23 hif hif1 hif2 hif3 v1 l1 wr ⟨yi, yk, yw⟩ rfl ho1 rfl hlen2 hB.size ?_; intro v2 w2 ho2 hb2)
        exact ⟨⟨v2, k + 1, _, rfl, hlt, by go_num, ho2, hB.trans hb2, HZ, by simp; omega⟩, by simp [intOf]; omega⟩
      · have hni : yi ∈ ids := by rw [← List.contains_iff_mem, hc]
        have HZ : Hid (l1 = wout (l.take (k + 1)) ids) := Lib.hid (by rw [HL.out, HNo.out hni])
        simp only [hc] at HC
        have HC := Lib.hid HC
        clear hc hni HY HNo
        go_wp2_with fail
        refine (HC.out).mono ?_
        rintro e w' ⟨rfl, rfl⟩
        go_wp2_with fail
        exact ⟨⟨v1, k + 1, l1, rfl, hlt, by go_num, ho1, hB, HZ, by omega⟩, by simp [intOf]; omega⟩
    · have HZ : Hid (l1 = wout l ids) := Lib.hid (by rw [HL.out, List.take_of_length_le (by omega)])
      have i1 : ¬ (k : Int) < (l.length : Int) := by omega
      obtain rfl := HZ.out
      obtain ⟨A3, c3, rfl, _⟩ := ho1.read
      go_wp2_with fail
      go_ret
      exact ⟨A3, c3, rfl, ho1, hB⟩
end Go.Proofs.YtiafimbehcemcaaDoor
