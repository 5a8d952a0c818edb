/-
  The walk of KeyspaceLattice: from whatever arguments it answers true and only makes memory. Conditions: 'letters' holds six strings of one byte; the first argument reads as a slice of ints.
-/
import Derived.Test.YthcgigbgkbjfoaaDoorKsL
import Derived.Test.YthcgigbgkbjfoaaDoorKsR
import Derived.Deep.DeepCutAuto
namespace Go.Proofs.YthcgigbgkbjfoaaDoor
open Go.RowKit

theorem size_set (w : World) (p : Addr) (u : Value) : (w.setCell p u).heap.size = w.heap.size := by simp [World.setCell]
theorem cell_set_same (w : World) (p : Addr) (u : Value) (h : (w.cell? p).isSome = true) : (w.setCell p u).cell? p = some u := World.cell?_setCell_same' w p u h
theorem isSome_set {w : World} {p q : Addr} {u : Value} (h : (w.cell? q).isSome = true) : ((w.setCell p u).cell? q).isSome = true := by
  by_cases e : p = q
  · subst e
    rw [cell_set_same w p u h]
    rfl
  · rw [World.cell?_setCell_other w p q u e]
    exact h
theorem cel_put {w : World} {D : Nat} (x : Rg) (hD : D < w.heap.size) (o0 : (w.cell? ⟨D, 0, none⟩).isSome = true) (o1 : (w.cell? ⟨D, 1, none⟩).isSome = true) (o2 : (w.cell? ⟨D, 2, none⟩).isSome = true) (o3 : (w.cell? ⟨D, 3, none⟩).isSome = true) :
    Cel ((((w.setCell ⟨D, 0, none⟩ (.string x.lo.key)).setCell ⟨D, 1, none⟩ (.bool x.lo.top)).setCell ⟨D, 2, none⟩ (.string x.hi.key)).setCell ⟨D, 3, none⟩ (.bool x.hi.top)) D x := by
  refine ⟨by simp only [size_set]; exact hD, ?_, ?_, ?_, ?_⟩
  · rw [World.cell?_setCell_other _ _ _ _ (by intro e; cases e), World.cell?_setCell_other _ _ _ _ (by intro e; cases e), World.cell?_setCell_other _ _ _ _ (by intro e; cases e)]
    exact cell_set_same _ _ _ o0
  · rw [World.cell?_setCell_other _ _ _ _ (by intro e; cases e), World.cell?_setCell_other _ _ _ _ (by intro e; cases e)]
    exact cell_set_same _ _ _ (isSome_set o1)
  · rw [World.cell?_setCell_other _ _ _ _ (by intro e; cases e)]
    exact cell_set_same _ _ _ (isSome_set (isSome_set o2))
  · exact cell_set_same _ _ _ (isSome_set (isSome_set (isSome_set o3)))
theorem Cel.far {w : World} {b : Nat} {x : Rg} (h : Cel w b x) {p : Addr} (hp : p.block ≠ b) (u : Value) : Cel (w.setCell p u) b x := by
  have k : ∀ o, (w.setCell p u).cell? ⟨b, o, none⟩ = w.cell? ⟨b, o, none⟩ := fun o => World.cell?_setCell_other w p _ u (fun e => hp (by rw [e]))
  exact ⟨by rw [size_set]; exact h.1, (k 0).trans h.2.1, (k 1).trans h.2.2.1, (k 2).trans h.2.2.2.1, (k 3).trans h.2.2.2.2⟩
theorem cels_put2 {w : World} {D E : Nat} (x y : Rg) (hne : D ≠ E) (hD : D < w.heap.size) (hE : E < w.heap.size) (o0 : (w.cell? ⟨D, 0, none⟩).isSome = true) (o1 : (w.cell? ⟨D, 1, none⟩).isSome = true) (o2 : (w.cell? ⟨D, 2, none⟩).isSome = true) (o3 : (w.cell? ⟨D, 3, none⟩).isSome = true)
    (p0 : (w.cell? ⟨E, 0, none⟩).isSome = true) (p1 : (w.cell? ⟨E, 1, none⟩).isSome = true) (p2 : (w.cell? ⟨E, 2, none⟩).isSome = true) (p3 : (w.cell? ⟨E, 3, none⟩).isSome = true) :
    Cel ((((((((w.setCell ⟨D, 0, none⟩ (.string x.lo.key)).setCell ⟨D, 1, none⟩ (.bool x.lo.top)).setCell ⟨D, 2, none⟩ (.string x.hi.key)).setCell ⟨D, 3, none⟩ (.bool x.hi.top)).setCell ⟨E, 0, none⟩ (.string y.lo.key)).setCell ⟨E, 1, none⟩ (.bool y.lo.top)).setCell ⟨E, 2, none⟩ (.string y.hi.key)).setCell ⟨E, 3, none⟩ (.bool y.hi.top)) D x ∧
    Cel ((((((((w.setCell ⟨D, 0, none⟩ (.string x.lo.key)).setCell ⟨D, 1, none⟩ (.bool x.lo.top)).setCell ⟨D, 2, none⟩ (.string x.hi.key)).setCell ⟨D, 3, none⟩ (.bool x.hi.top)).setCell ⟨E, 0, none⟩ (.string y.lo.key)).setCell ⟨E, 1, none⟩ (.bool y.lo.top)).setCell ⟨E, 2, none⟩ (.string y.hi.key)).setCell ⟨E, 3, none⟩ (.bool y.hi.top)) E y :=
  ⟨((((cel_put x hD o0 o1 o2 o3).far (Ne.symm hne) _).far (Ne.symm hne) _).far (Ne.symm hne) _).far (Ne.symm hne) _,
   cel_put y (by simp only [size_set]; exact hE) (isSome_set (isSome_set (isSome_set (isSome_set p0)))) (isSome_set (isSome_set (isSome_set (isSome_set p1)))) (isSome_set (isSome_set (isSome_set (isSome_set p2)))) (isSome_set (isSome_set (isSome_set (isSome_set p3))))⟩
theorem Cel.drew {w : World} {b : Nat} {x : Rg} (h : Cel w b x) : Cel w.drew b x := h
theorem at_cels {w a b : World} {l : List (Nat × TypeId × Array Value)} {g D E : Nat} {x y : Rg} (h : At w l g a ∧ Cel a D x ∧ Cel a E y) (k : Below a.heap.size a b) : At w l g b ∧ Cel b D x ∧ Cel b E y := ⟨h.1.below k, h.2.1.below k, h.2.2.below k⟩

set_option maxRecDepth 100000 in
set_option maxHeartbeats 12800000 in
theorem lattice_walk (A : Option Addr) (n0 cp : Nat) (w : World) (hl : Lets w) (hw : 0 < w.heap.size) (hnc : n0 ≤ cp) (hc : cp ≤ maxLen) (hN : Nums w w.heap.size A n0) :
    Calls Tryd.prog 8 #[.slice A n0 cp] w (LawP w) := by
  go_enter Tryd.func8, Tryd.ntmps8
  go_wp2_with fail
  refine (new_any A n0 cp _ hl hw hnc hc hN).mono ?_
  rintro e w1 ⟨g, hg1, rfl, hT, hb⟩
  have hA : At w [] g w1 := ⟨(Inv.nil w).below hb, hT⟩
  clear hb hT hl hN hnc hc
  go_wp2_with fail
  refine (range_any g _ hA.2).mono ?_
  rintro e w2 ⟨a, _, _, rfl, hst⟩
  replace hA := hA.step hst hg1 (fun _ h => by cases h)
  clear hst
  go_wp2_with fail
  refine (range_any g _ hA.2).mono ?_
  rintro e w3 ⟨b, _, _, rfl, hst⟩
  replace hA := hA.step hst hg1 (fun _ h => by cases h)
  clear hst
  go_wp2_with fail
  refine (range_any g _ hA.2).mono ?_
  rintro e w4 ⟨c, _, _, rfl, hst⟩
  replace hA := hA.step hst hg1 (fun _ h => by cases h)
  clear hst
  have hB := hA.1.1.size
  replace hA := ((hA.add 34 #[Value.string a.lo.key, Value.bool a.lo.top, Value.string a.hi.key, Value.bool a.hi.top]).add 34 #[Value.string b.lo.key, Value.bool b.lo.top, Value.string b.hi.key, Value.bool b.hi.top]).add 34 #[Value.string c.lo.key, Value.bool c.lo.top, Value.string c.hi.key, Value.bool c.hi.top]
  simp only [World.size_alloc] at hA
  have hgB := hA.2.lt
  simp only [World.size_alloc] at hgB
  generalize hBB : w4.heap.size = B at hA hB hgB
  cases ha : a.emp
  · cases hb : b.emp
    · cases hc : c.emp
      · obtain ⟨i, h, j, m, n, o, hLat⟩ := lattice ha hb hc
        have HL := Lib.hid hLat
        clear hLat
        go_wp2_with (first | (go_at_call 39; refine (emp_ref _ _).mono ?_; rintro e w5 ⟨rfl, hb5⟩; replace hA := hA.below hb5; clear hb5; obtain ⟨c0, f0⟩ := hA.1.hd; obtain ⟨c1, f1⟩ := hA.1.tl.hd; obtain ⟨c2, f2⟩ := hA.1.tl.tl.hd))
        clear c0 c1 c2 f0 f1 f2
        have hbs0 := (hA.1.2 _ (.head _)).lt
        have hbs1 := (hA.1.2 _ (.tail _ (.head _))).lt
        have hbs2 := (hA.1.2 _ (.tail _ (.tail _ (.head _)))).lt
        simp only at hbs0 hbs1 hbs2
        have r0 := fun (w' : World) (h : At w [(B + 1 + 1, 34, #[Value.string c.lo.key, Value.bool c.lo.top, Value.string c.hi.key, Value.bool c.hi.top]), (B + 1, 34, #[Value.string b.lo.key, Value.bool b.lo.top, Value.string b.hi.key, Value.bool b.hi.top]), (B, 34, #[Value.string a.lo.key, Value.bool a.lo.top, Value.string a.hi.key, Value.bool a.hi.top])] g w') => h.1.hd.1
        have r1 := fun (w' : World) (h : At w [(B + 1 + 1, 34, #[Value.string c.lo.key, Value.bool c.lo.top, Value.string c.hi.key, Value.bool c.hi.top]), (B + 1, 34, #[Value.string b.lo.key, Value.bool b.lo.top, Value.string b.hi.key, Value.bool b.hi.top]), (B, 34, #[Value.string a.lo.key, Value.bool a.lo.top, Value.string a.hi.key, Value.bool a.hi.top])] g w') => h.1.tl.hd.1
        have r2 := fun (w' : World) (h : At w [(B + 1 + 1, 34, #[Value.string c.lo.key, Value.bool c.lo.top, Value.string c.hi.key, Value.bool c.hi.top]), (B + 1, 34, #[Value.string b.lo.key, Value.bool b.lo.top, Value.string b.hi.key, Value.bool b.hi.top]), (B, 34, #[Value.string a.lo.key, Value.bool a.lo.top, Value.string a.hi.key, Value.bool a.hi.top])] g w') => h.1.tl.tl.hd.1
        simp only at r0 r1 r2
        go_upto_region 5 with fail
        go_cut [7, 8] (fun s7 s8 wx => ∃ D E : Nat, s7 = .pointer (some ⟨D, 0, none⟩) ∧ s8 = .pointer (some ⟨E, 0, none⟩) ∧ At w [(B + 1 + 1, 34, #[Value.string c.lo.key, Value.bool c.lo.top, Value.string c.hi.key, Value.bool c.hi.top]), (B + 1, 34, #[Value.string b.lo.key, Value.bool b.lo.top, Value.string b.hi.key, Value.bool b.hi.top]), (B, 34, #[Value.string a.lo.key, Value.bool a.lo.top, Value.string a.hi.key, Value.bool a.hi.top])] g wx ∧ Cel wx D i ∧ Cel wx E h)
        case first =>
          go_region_held3 (fun w' => At w [(B + 1 + 1, 34, #[Value.string c.lo.key, Value.bool c.lo.top, Value.string c.hi.key, Value.bool c.hi.top]), (B + 1, 34, #[Value.string b.lo.key, Value.bool b.lo.top, Value.string b.hi.key, Value.bool b.hi.top]), (B, 34, #[Value.string a.lo.key, Value.bool a.lo.top, Value.string a.hi.key, Value.bool a.hi.top])] g w')
            (first | with_reducible exact hS1 | with_reducible exact hA.drew | (repeat' (first | with_reducible assumption | with_reducible refine At.drew ?_ | with_reducible refine At.alloc ?_ _ | with_reducible refine At.setC ?_ (by simp; omega) (by simp; omega) (by simp; omega) _)))
            (first | (go_at_call 37; refine (int_key a b _).mono ?_; rintro e w6 ⟨he6, hb6⟩; rw [HL.out.i1] at he6; subst he6; have hS1 := At.below ‹_› hb6; obtain ⟨k6, l6⟩ := bcell hb6; have hz6 := fun D (hD : D < _) => Nat.lt_of_lt_of_le hD hb6.size; have hy6 := hb6.size; (try simp at hy6); (try (have hv6 : w5.heap.size < w6.heap.size := by omega)); (try (have hv7 : w5.heap.size + 1 < w6.heap.size := by omega)); clear hb6)
                   | (go_at_call 38; refine (hul_key a b _).mono ?_; rintro e w6 ⟨he6, hb6⟩; rw [HL.out.h1] at he6; subst he6; have hS1 := At.below ‹_› hb6; obtain ⟨k6, l6⟩ := bcell hb6; have hz6 := fun D (hD : D < _) => Nat.lt_of_lt_of_le hD hb6.size; have hy6 := hb6.size; (try simp at hy6); (try (have hv6 : w5.heap.size < w6.heap.size := by omega)); (try (have hv7 : w5.heap.size + 1 < w6.heap.size := by omega)); clear hb6))
          all_goals
            go_wp2_with fail
            go_meet
            refine ⟨_, _, rfl, rfl, by with_reducible assumption, ?_⟩
          all_goals first
            | (with_reducible refine cels_put2 i h ?_ ?_ ?_ ?_ ?_ ?_ ?_ ?_ ?_ ?_ ?_
               all_goals first | omega | (go_simp; done))
            | (refine ⟨⟨?_, ?_, ?_, ?_, ?_⟩, ⟨?_, ?_, ?_, ?_, ?_⟩⟩
               all_goals first | omega | (go_simp; done) | (simp; omega))
        case rest =>
          obtain ⟨D, E, rfl, rfl, hA2, hD, hE⟩ := hcut
          clear hA
          have r3 := fun (w' : World) (h : Cel w' D i) => h.2
          have r4 := fun (w' : World) (h : Cel w' E h) => h.2
          go_wp2_with fail
          simp only [List.append_eq, List.cons_append, List.nil_append]
          go_region_held3 (fun w' => At w [(B + 1 + 1, 34, #[Value.string c.lo.key, Value.bool c.lo.top, Value.string c.hi.key, Value.bool c.hi.top]), (B + 1, 34, #[Value.string b.lo.key, Value.bool b.lo.top, Value.string b.hi.key, Value.bool b.hi.top]), (B, 34, #[Value.string a.lo.key, Value.bool a.lo.top, Value.string a.hi.key, Value.bool a.hi.top])] g w' ∧ Cel w' D i ∧ Cel w' E h)
            (first | with_reducible exact hS1 | with_reducible exact ⟨hA2.drew, hD, hE⟩ | exact ⟨hA2.drew, hD.drew, hE.drew⟩ | with_reducible assumption)
            (first | (go_at_call 37; refine (int_key _ _ _).mono ?_; rintro e w6 ⟨he6, hb6⟩; (first | rw [HL.out.i2] at he6 | rw [HL.out.i3] at he6 | rw [HL.out.i4] at he6 | rw [HL.out.i5] at he6 | rw [HL.out.i6] at he6 | rw [HL.out.i7] at he6); subst he6; have hS1 := at_cels ‹_› hb6; clear hb6) | (go_at_call 38; refine (hul_key _ _ _).mono ?_; rintro e w6 ⟨he6, hb6⟩; (first | rw [HL.out.h2] at he6 | rw [HL.out.h3] at he6 | rw [HL.out.h4] at he6 | rw [HL.out.h5] at he6 | rw [HL.out.h6] at he6 | rw [HL.out.h7] at he6); subst he6; have hS1 := at_cels ‹_› hb6; clear hb6) | (go_at_call 21; refine (sane_any _).mono ?_; rintro e w6 ⟨rfl, hb6⟩; have hS1 := at_cels ‹_› hb6; clear hb6))
          go_wp2
          go_ret
          exact ⟨rfl, hS1.1.1.1⟩
      · go_wp2_with (first | (go_at_call 39; refine (emp_ref _ _).mono ?_; rintro e w5 ⟨rfl, hb5⟩; replace hA := hA.below hb5; clear hb5; obtain ⟨c0, f0⟩ := hA.1.hd; obtain ⟨c1, f1⟩ := hA.1.tl.hd; obtain ⟨c2, f2⟩ := hA.1.tl.tl.hd) | (go_at_call 21; refine (sane_any _).mono ?_; rintro e w5 ⟨rfl, hb5⟩; replace hA := hA.below hb5; clear hb5))
        all_goals
          go_ret
          exact ⟨rfl, hA.1.1⟩
    · go_wp2_with (first | (go_at_call 39; refine (emp_ref _ _).mono ?_; rintro e w5 ⟨rfl, hb5⟩; replace hA := hA.below hb5; clear hb5; obtain ⟨c0, f0⟩ := hA.1.hd; obtain ⟨c1, f1⟩ := hA.1.tl.hd; obtain ⟨c2, f2⟩ := hA.1.tl.tl.hd) | (go_at_call 21; refine (sane_any _).mono ?_; rintro e w5 ⟨rfl, hb5⟩; replace hA := hA.below hb5; clear hb5))
      all_goals
        go_ret
        exact ⟨rfl, hA.1.1⟩
  · go_wp2_with (first | (go_at_call 39; refine (emp_ref _ _).mono ?_; rintro e w5 ⟨rfl, hb5⟩; replace hA := hA.below hb5; clear hb5; obtain ⟨c0, f0⟩ := hA.1.hd; obtain ⟨c1, f1⟩ := hA.1.tl.hd; obtain ⟨c2, f2⟩ := hA.1.tl.tl.hd) | (go_at_call 21; refine (sane_any _).mono ?_; rintro e w5 ⟨rfl, hb5⟩; replace hA := hA.below hb5; clear hb5))
    all_goals
      go_ret
      exact ⟨rfl, hA.1.1⟩
end Go.Proofs.YthcgigbgkbjfoaaDoor
