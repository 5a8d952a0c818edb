/-
  isCutOut and anyLocked of package locked. Condition: what is read can be read.
-/
import Derived.Test.YtgmffgdhijcfcaaDoorKzR
namespace Go.Proofs.YtgmffgdhijcfcaaDoor
open Go.RowKit Go.Maps
namespace Lk

theorem cutOut1_any (x : Po) (g : Nat) (i : Int) (w : World) (hg : w.cell? ⟨g, 0, none⟩ = some (.int .i64 i)) :
    Calls Tryd.prog 85 #[x.val, .pointer (some ⟨g, 0, none⟩)] w (BoolI (x.cell = i ∧ x.phase = 11) w) := by
  obtain ⟨k, c, ph, pd, sc, nx, rs⟩ := x
  have HX := Lib.hid (Has.new w 52 #[.int .i64 k, .int .i64 c, .int .i64 ph, .int .i64 pd, .int .i64 sc, .int .i64 nx, .bool rs])
  have HB := Lib.hid ((Below.refl w.heap.size w).alloc (Nat.le_refl _) (.cells #[.int .i64 k, .int .i64 c, .int .i64 ph, .int .i64 pd, .int .i64 sc, .int .i64 nx, .bool rs] 52))
  have x1 := HX.out.cell 1
  have x2 := HX.out.cell 2
  have hg2 := (HB.out.cell (p := ⟨g, 0, none⟩) (World.block_lt_of_cell? w _ hg)).trans hg
  have hgz : ¬ w.heap.size = g := fun e => by have := World.block_lt_of_cell? w _ hg; simp only at this; omega
  by_cases h1 : c = i
  · subst h1
    by_cases h2 : ph = 11
    · subst h2
      go_enter Tryd.func85, Tryd.ntmps85
      go_wp2_with fail
      go_ret
      exact ⟨true, rfl, by simp, HB.out⟩
    · have e2 : decide (ph = 11) = false := decide_eq_false h2
      go_enter Tryd.func85, Tryd.ntmps85
      go_wp2_with fail
      go_ret
      exact ⟨_, rfl, by simp, HB.out⟩
  · have e1 : (c == i) = false := by simpa using h1
    have e2 : decide (c = i) = false := decide_eq_false h1
    go_enter Tryd.func85, Tryd.ntmps85
    go_wp2_with fail
    go_ret
    exact ⟨false, rfl, by simp [h1], HB.out⟩
theorem locked1_any (x : Ce) (w : World) : Calls Tryd.prog 67 #[x.val] w (BoolI (x.lock ≠ 0) w) := by
  obtain ⟨k, lf, rg, lo, go⟩ := x
  have HX := Lib.hid (Has.new w 58 #[.string k, .int .i64 lf, .int .i64 rg, .int .i64 lo, .bool go])
  have HB := Lib.hid ((Below.refl w.heap.size w).alloc (Nat.le_refl _) (.cells #[.string k, .int .i64 lf, .int .i64 rg, .int .i64 lo, .bool go] 58))
  have x3 := HX.out.cell 3
  go_enter Tryd.func67, Tryd.ntmps67
  go_wp2_with fail
  go_ret
  exact ⟨_, rfl, by simp, HB.out⟩
set_option maxRecDepth 100000 in
set_option maxHeartbeats 1600000 in
theorem pindex_any (A : Option Addr) (l : List Po) (n c lo : Nat) (g : Nat) (i : Int) (w : World) (hn : l.length = n) (h : RdR Po.row 7 w lo A l) (hm : n ≤ maxLen) (hg : w.cell? ⟨g, 0, none⟩ = some (.int .i64 i)) :
    Calls Tryd.prog 99 #[.slice A n c, .func (.func 85) #[] #[.pointer (some ⟨g, 0, none⟩)]] w fun e w' => ∃ R : Int, e = .returned (.int .i64 R) ∧ (R ≥ 0 ↔ ∃ x ∈ l, x.cell = i ∧ x.phase = 11) ∧ Below w.heap.size w w' := by
  have hml : maxLen ≤ 9223372036854775807 := by decide
  have HN := Lib.hid hn
  have HR := Lib.hid h
  have HCL := Lib.hid (fun (x : Po) (W : World) (k : Below w.heap.size w W) => (cutOut1_any x g i W ((k.cell (p := ⟨g, 0, none⟩) (World.block_lt_of_cell? w _ hg)).trans hg) : Calls Tryd.prog 85 #[x.val, .pointer (some ⟨g, 0, none⟩)] W (BoolI (x.cell = i ∧ x.phase = 11) W)))
  clear h hn
  go_enter Tryd.func99, Tryd.ntmps99
  go_wp2_with fail
  go_loopw [8] (fun vk wr => ∃ k : Nat, vk = .int .i64 (k : Int) ∧ k ≤ n ∧ Below w.heap.size w wr ∧ Hid (∀ j (h : j < k) (h2 : j < l.length), ¬ (fun x : Po => x.cell = i ∧ x.phase = 11) l[j])) (fun vk _ => n - (intOf vk).toNat)
  case atStart => exact ⟨0, rfl, by omega, Below.refl _ _, Lib.hid fun j h => by omega⟩
  case round =>
    obtain ⟨k, rfl, hk, hB, HS⟩ := hrel
    by_cases hlt : k < n
    · have k1 : k < l.length := by rw [HN.out]; exact hlt
      obtain ⟨b, o, e, -, hb, fF⟩ := Pos.at_ HR.out k1
      subst e
      obtain ⟨f0, f1, f2, f3, f4, f5, f6⟩ := fF
      replace f0 := (hB.cell (p := ⟨b, o + k * 7, none⟩) hb).trans f0
      replace f1 := (hB.cell (p := ⟨b, o + k * 7 + 1, none⟩) hb).trans f1
      replace f2 := (hB.cell (p := ⟨b, o + k * 7 + 2, none⟩) hb).trans f2
      replace f3 := (hB.cell (p := ⟨b, o + k * 7 + 3, none⟩) hb).trans f3
      replace f4 := (hB.cell (p := ⟨b, o + k * 7 + 4, none⟩) hb).trans f4
      replace f5 := (hB.cell (p := ⟨b, o + k * 7 + 5, none⟩) hb).trans f5
      replace f6 := (hB.cell (p := ⟨b, o + k * 7 + 6, none⟩) hb).trans f6
      have i0 : (0 : Int) ≤ (k : Int) := by omega
      have i1 : (k : Int) < (n : Int) := by omega
      have HM := Lib.hid (List.getElem_mem k1)
      have HNX := Lib.hid (fun (h1 : ¬ (fun x : Po => x.cell = i ∧ x.phase = 11) l[k]) (j : Nat) (h : j < k + 1) (h2 : j < l.length) => (show ¬ (fun x : Po => x.cell = i ∧ x.phase = 11) l[j] from by
        rcases Nat.lt_or_ge j k with h3 | h3
        · exact HS.out j h3 h2
        · obtain rfl : j = k := by omega
          exact h1))
      generalize l[k] = y at *
      have HC2 := Lib.hid (HCL.out y wr hB)
      have HB := Lib.hid hB
      clear k1 HS hB hb
      obtain ⟨xk, xc, xp, xd, xs, xx, xr⟩ := y
      simp only at f0 f1 f2 f3 f4 f5 f6
      by_cases he : (fun x : Po => x.cell = i ∧ x.phase = 11) ⟨xk, xc, xp, xd, xs, xx, xr⟩
      · have HC3 := Lib.hid (HC2.out.mono fun e w' h => h.yes he)
        have HE := Lib.hid he
        clear he HNX HC2
        go_wp2_with fail
        refine (HC3.out).mono ?_
        rintro e w' ⟨rfl, hb5⟩
        have HB5 := Lib.hid (HB.out.trans (hb5.mono HB.out.size))
        clear hb5
        go_wp2_with fail
        go_ret
        exact ⟨_, rfl, ⟨fun _ => ⟨_, HM.out, HE.out⟩, fun _ => by omega⟩, HB5.out⟩
      · have HC3 := Lib.hid (HC2.out.mono fun e w' h => h.no he)
        have HE := Lib.hid (HNX.out he)
        clear he HNX HC2 HM
        go_wp2_with fail
        refine (HC3.out).mono ?_
        rintro e w' ⟨rfl, hb5⟩
        have HB5 := Lib.hid (HB.out.trans (hb5.mono HB.out.size))
        clear hb5
        go_wp2_with fail
        exact ⟨⟨k + 1, by go_num, hlt, HB5.out, Lib.hid HE.out⟩, by simp [intOf]; omega⟩
    · have HB := Lib.hid hB
      clear hB
      go_wp2_with fail
      go_ret
      refine ⟨-1, rfl, ⟨fun q => by omega, fun q => ?_⟩, HB.out⟩
      obtain ⟨x, hx, q⟩ := q
      obtain ⟨j, hj, rfl⟩ := List.mem_iff_getElem.1 hx
      exact absurd q (HS.out j (by have := HN.out; omega) hj)
theorem pcontains_any (A : Option Addr) (l : List Po) (n c lo : Nat) (g : Nat) (i : Int) (w : World) (hn : l.length = n) (h : RdR Po.row 7 w lo A l) (hm : n ≤ maxLen) (hg : w.cell? ⟨g, 0, none⟩ = some (.int .i64 i)) :
    Calls Tryd.prog 84 #[.slice A n c, .func (.func 85) #[] #[.pointer (some ⟨g, 0, none⟩)]] w (BoolI (∃ x ∈ l, x.cell = i ∧ x.phase = 11) w) := by
  have HI := Lib.hid (pindex_any A l n c lo g i w hn h hm hg)
  clear h hn
  go_enter Tryd.func84, Tryd.ntmps84
  go_wp2_with fail
  refine (HI.out).mono ?_
  rintro e w1 ⟨R, rfl, hr, hb1⟩
  have HR := Lib.hid hr
  have HB := Lib.hid hb1
  clear hr hb1
  go_wp2_with fail
  go_ret
  refine ⟨decide (R ≥ 0), rfl, ?_, HB.out⟩
  rw [decide_eq_true_iff]
  exact HR.out
set_option maxRecDepth 100000 in
set_option maxHeartbeats 1600000 in
theorem cindex_any (A : Option Addr) (l : List Ce) (n c lo : Nat) (w : World) (hn : l.length = n) (h : RdR Ce.row 5 w lo A l) (hm : n ≤ maxLen) :
    Calls Tryd.prog 86 #[.slice A n c, .func (.func 67) #[] #[]] w fun e w' => ∃ R : Int, e = .returned (.int .i64 R) ∧ (R ≥ 0 ↔ ∃ x ∈ l, x.lock ≠ 0) ∧ Below w.heap.size w w' := by
  have hml : maxLen ≤ 9223372036854775807 := by decide
  have HN := Lib.hid hn
  have HR := Lib.hid h
  have HCL := Lib.hid (fun (x : Ce) (W : World) (k : Below w.heap.size w W) => (locked1_any x W : Calls Tryd.prog 67 #[x.val] W (BoolI (x.lock ≠ 0) W)))
  clear h hn
  go_enter Tryd.func86, Tryd.ntmps86
  go_wp2_with fail
  go_loopw [8] (fun vk wr => ∃ k : Nat, vk = .int .i64 (k : Int) ∧ k ≤ n ∧ Below w.heap.size w wr ∧ Hid (∀ j (h : j < k) (h2 : j < l.length), ¬ (fun x : Ce => x.lock ≠ 0) l[j])) (fun vk _ => n - (intOf vk).toNat)
  case atStart => exact ⟨0, rfl, by omega, Below.refl _ _, Lib.hid fun j h => by omega⟩
  case round =>
    obtain ⟨k, rfl, hk, hB, HS⟩ := hrel
    by_cases hlt : k < n
    · have k1 : k < l.length := by rw [HN.out]; exact hlt
      obtain ⟨b, o, e, -, hb, fF⟩ := Ces.at_ HR.out k1
      subst e
      obtain ⟨f0, f1, f2, f3, f4⟩ := fF
      replace f0 := (hB.cell (p := ⟨b, o + k * 5, none⟩) hb).trans f0
      replace f1 := (hB.cell (p := ⟨b, o + k * 5 + 1, none⟩) hb).trans f1
      replace f2 := (hB.cell (p := ⟨b, o + k * 5 + 2, none⟩) hb).trans f2
      replace f3 := (hB.cell (p := ⟨b, o + k * 5 + 3, none⟩) hb).trans f3
      replace f4 := (hB.cell (p := ⟨b, o + k * 5 + 4, none⟩) hb).trans f4
      have i0 : (0 : Int) ≤ (k : Int) := by omega
      have i1 : (k : Int) < (n : Int) := by omega
      have HM := Lib.hid (List.getElem_mem k1)
      have HNX := Lib.hid (fun (h1 : ¬ (fun x : Ce => x.lock ≠ 0) l[k]) (j : Nat) (h : j < k + 1) (h2 : j < l.length) => (show ¬ (fun x : Ce => x.lock ≠ 0) l[j] from by
        rcases Nat.lt_or_ge j k with h3 | h3
        · exact HS.out j h3 h2
        · obtain rfl : j = k := by omega
          exact h1))
      generalize l[k] = y at *
      have HC2 := Lib.hid (HCL.out y wr hB)
      have HB := Lib.hid hB
      clear k1 HS hB hb
      obtain ⟨xk, xl, xr, xo, xg⟩ := y
      simp only at f0 f1 f2 f3 f4
      by_cases he : (fun x : Ce => x.lock ≠ 0) ⟨xk, xl, xr, xo, xg⟩
      · have HC3 := Lib.hid (HC2.out.mono fun e w' h => h.yes he)
        have HE := Lib.hid he
        clear he HNX HC2
        go_wp2_with fail
        refine (HC3.out).mono ?_
        rintro e w' ⟨rfl, hb5⟩
        have HB5 := Lib.hid (HB.out.trans (hb5.mono HB.out.size))
        clear hb5
        go_wp2_with fail
        go_ret
        exact ⟨_, rfl, ⟨fun _ => ⟨_, HM.out, HE.out⟩, fun _ => by omega⟩, HB5.out⟩
      · have HC3 := Lib.hid (HC2.out.mono fun e w' h => h.no he)
        have HE := Lib.hid (HNX.out he)
        clear he HNX HC2 HM
        go_wp2_with fail
        refine (HC3.out).mono ?_
        rintro e w' ⟨rfl, hb5⟩
        have HB5 := Lib.hid (HB.out.trans (hb5.mono HB.out.size))
        clear hb5
        go_wp2_with fail
        exact ⟨⟨k + 1, by go_num, hlt, HB5.out, Lib.hid HE.out⟩, by simp [intOf]; omega⟩
    · have HB := Lib.hid hB
      clear hB
      go_wp2_with fail
      go_ret
      refine ⟨-1, rfl, ⟨fun q => by omega, fun q => ?_⟩, HB.out⟩
      obtain ⟨x, hx, q⟩ := q
      obtain ⟨j, hj, rfl⟩ := List.mem_iff_getElem.1 hx
      exact absurd q (HS.out j (by have := HN.out; omega) hj)
theorem ccontains_any (A : Option Addr) (l : List Ce) (n c lo : Nat) (w : World) (hn : l.length = n) (h : RdR Ce.row 5 w lo A l) (hm : n ≤ maxLen) :
    Calls Tryd.prog 66 #[.slice A n c, .func (.func 67) #[] #[]] w (BoolI (∃ x ∈ l, x.lock ≠ 0) w) := by
  have HI := Lib.hid (cindex_any A l n c lo w hn h hm)
  clear h hn
  go_enter Tryd.func66, Tryd.ntmps66
  go_wp2_with fail
  refine (HI.out).mono ?_
  rintro e w1 ⟨R, rfl, hr, hb1⟩
  have HR := Lib.hid hr
  have HB := Lib.hid hb1
  clear hr hb1
  go_wp2_with fail
  go_ret
  refine ⟨decide (R ≥ 0), rfl, ?_, HB.out⟩
  rw [decide_eq_true_iff]
  exact HR.out
theorem isCutOut_any (A : Option Addr) (l : List Po) (n c : Nat) (i : Nat) (w : World) (hn : l.length = n) (h : Pos w 0 A l) (hm : n ≤ maxLen) :
    Calls Tryd.prog 64 #[.slice A n c, .int .i64 (i : Int)] w (BoolI (∃ x ∈ l, x.cell = (i : Int) ∧ x.phase = 11) w) := by
  have HB := Lib.hid ((Below.refl w.heap.size w).alloc (Nat.le_refl _) (.cells #[.int .i64 (i : Int)] 3))
  have HI := Lib.hid (pcontains_any A l n c 0 w.heap.size (i : Int) _ hn (RdR.below h HB.out) hm ((Has.new w 3 #[.int .i64 (i : Int)]).cell 0))
  clear h hn
  go_enter Tryd.func64, Tryd.ntmps64
  go_wp2_with fail
  refine (HI.out).mono ?_
  rintro e w1 ⟨b, rfl, hb, hb1⟩
  have HR := Lib.hid hb
  have HB1 := Lib.hid (HB.out.trans (hb1.mono HB.out.size))
  clear hb hb1
  go_wp2_with fail
  go_ret
  exact ⟨b, rfl, HR.out, HB1.out⟩
theorem anyLocked_any (A : Option Addr) (l : List Ce) (n c : Nat) (w : World) (hn : l.length = n) (h : Ces w 0 A l) (hm : n ≤ maxLen) :
    Calls Tryd.prog 42 #[.slice A n c] w (BoolI (∃ x ∈ l, x.lock ≠ 0) w) := by
  have HI := Lib.hid (ccontains_any A l n c 0 w hn h hm)
  clear h hn
  go_enter Tryd.func42, Tryd.ntmps42
  go_wp2_with fail
  refine (HI.out).mono ?_
  rintro e w1 ⟨b, rfl, hb, hb1⟩
  have HR := Lib.hid hb
  have HB1 := Lib.hid hb1
  clear hb hb1
  go_wp2_with fail
  go_ret
  exact ⟨b, rfl, HR.out, HB1.out⟩
end Lk
end Go.Proofs.YtgmffgdhijcfcaaDoor
