/-
  spoil of chapter 2's statements: what it gives. Conditions: the list can be read, its texts are short; the tape.
-/
import Derived.Test.YtlnmpiigmedgkaaDoorKrH
namespace Go.Proofs.YtlnmpiigmedgkaaDoor
open Go.RowKit

theorem OwnF.thaw {w : World} {base G n c : Nat} {l : List Fd} (h : OwnF w base (.slice (some ⟨G, 0, none⟩) n c) l) : ∀ o, w.frozen? ⟨G, o, none⟩ = false := by
  obtain ⟨_, ⟨h0, _⟩ | ⟨g, cap, cur, e, h4, h5, _⟩⟩ := h
  · cases h0
  · injection e with e1 _ e2
    injection e1 with e1
    injection e1 with e1
    subst e1
    exact fun o => Has.frozen h5 o
theorem Fds.put {w w' : World} {B G k : Nat} {l : List Fd} (h : Fds w B (some ⟨G, 0, none⟩) l) (hk : k < l.length) (f : Fd) (h0 : w'.cell? ⟨G, k * 3, none⟩ = some (.int .i64 f.kind)) (h1 : w'.cell? ⟨G, k * 3 + 1, none⟩ = some (.int .i64 f.num)) (h2 : w'.cell? ⟨G, k * 3 + 2, none⟩ = some (.string f.text))
    (ho : ∀ o, (o < k * 3 ∨ k * 3 + 3 ≤ o) → w'.cell? ⟨G, o, none⟩ = w.cell? ⟨G, o, none⟩) : Fds w' B (some ⟨G, 0, none⟩) (l.set k f) := fun _ => by
  obtain ⟨b, o, e, hb, hc⟩ := h (fun e => by subst e; simp at hk)
  injection e with e
  injection e with e1 e2
  subst e1 e2
  refine ⟨G, 0, rfl, hb, fun i hi => ?_⟩
  have hi' : i < l.length := by simpa using hi
  by_cases hik : i = k
  · subst hik
    simp only [List.getElem_set_self, Nat.zero_add]
    exact ⟨h0, h1, h2⟩
  · have hc' := hc i hi'
    rw [List.getElem_set_ne (Ne.symm hik)]
    simp only [Nat.zero_add] at hc' ⊢
    rw [ho (i * 3) (by omega), ho (i * 3 + 1) (by omega), ho (i * 3 + 2) (by omega)]
    exact hc'
theorem wide_set {l : List Fd} {k : Nat} {f : Fd} (hl : ∀ i (h : i < l.length), l[i].wide) (hf : f.wide) : ∀ i (h : i < (l.set k f).length), (l.set k f)[i].wide := fun i hi => by
  rw [List.getElem_set]
  split
  · exact hf
  · exact hl _ _
theorem wide_snoc {l : List Fd} {f : Fd} (hl : ∀ i (h : i < l.length), l[i].wide) (hf : f.wide) : ∀ i (h : i < (l ++ [f]).length), (l ++ [f])[i].wide := fun i hi => by
  by_cases hil : i < l.length
  · rw [List.getElem_append_left hil]; exact hl i hil
  · have : i = l.length := by simp at hi; omega
    subst this
    simpa using hf
def SpP (g : Nat) (w : World) (e : Ending) (w' : World) : Prop := ∃ A c l, e = .returned (.slice A (l : List Fd).length c) ∧ Fds w' w'.heap.size A l ∧ (l ≠ [] → ∀ b o, A = some ⟨b, o, none⟩ → w.heap.size ≤ b) ∧ (∀ i (h : i < l.length), l[i].wide) ∧ TStep w g w'
theorem spP_own {g : Nat} {w w' : World} {v : Value} {l : List Fd} (ho : OwnF w' w.heap.size v l) (hw : ∀ i (h : i < l.length), l[i].wide) (ht : TStep w g w') : SpP g w (.returned v) w' := by
  by_cases hl : l = []
  · subst hl
    obtain ⟨A, c, rfl, hr⟩ := ho.read
    exact ⟨A, c, [], rfl, fun h => absurd rfl h, fun h => absurd rfl h, hw, ht⟩
  · obtain ⟨G, cap, rfl, h1, h2, h3, h4, hr⟩ := ho.open_ hl
    exact ⟨_, cap, l, rfl, hr, fun _ b o e => by injection e with e; injection e with e; omega, hw, ht⟩

theorem spP_put {g : Nat} {w w3 w' : World} {G k cp : Nat} {l : List Fd} {F : Fd} (hr : Fds w' w3.heap.size (some ⟨G, 0, none⟩) (l.set k F)) (hz : w3.heap.size ≤ w'.heap.size) (hG : w.heap.size ≤ G) (hw : ∀ i (h : i < l.length), l[i].wide) (hF : F.wide) (ht : TStep w g w') : SpP g w (.returned (.slice (some ⟨G, 0, none⟩) l.length cp)) w' :=
  ⟨_, cp, l.set k F, by rw [List.length_set], hr.more hz, fun _ b o e => by injection e with e; injection e with e; omega, wide_set hw hF, ht⟩
theorem wrap64_wide (n : Int) : -9223372036854775808 ≤ wrap64 n ∧ wrap64 n ≤ 9223372036854775807 := by unfold wrap64; omega
theorem set_size (w : World) (p : Addr) (u : Value) : (w.setCell p u).heap.size = w.heap.size := by simp [World.setCell]
theorem cell_same {w : World} {p : Addr} {v u : Value} (h : w.cell? p = some v) : (w.setCell p u).cell? p = some u := World.cell?_setCell_same _ _ _ h
theorem cell_other {w : World} {G o o' : Nat} {u : Value} (h : o ≠ o') : (w.setCell ⟨G, o', none⟩ u).cell? ⟨G, o, none⟩ = w.cell? ⟨G, o, none⟩ := World.cell?_setCell_other _ _ _ _ (fun e => by injection e with _ e; omega)

set_option maxRecDepth 100000 in
set_option maxHeartbeats 3200000 in
theorem spoil_any (A : Option Addr) (l : List Fd) (c : Nat) (g : Nat) (w : World) (hl : Fds w w.heap.size A l) (hw : ∀ i (h : i < l.length), l[i].wide) (hn : l.length ≤ 1000) (hx : ∀ i (h : i < l.length), l[i].text.size ≤ 1000) (ht : Tape w g) :
    Calls Tryd.prog 19 #[.pointer (some ⟨g, 0, none⟩), .slice A l.length c] w (SpP g w) := by
  have hg := ht.lt
  obtain ⟨inf, hif, hif1, hif2, hif3⟩ := infoF_parts
  have hst := TStep.refl ht
  have hbe := (Below.refl w.heap.size w).alloc (Nat.le_refl _) (.cells #[] 98)
  have hl1 := hl.below hbe
  have hEm := OwnF.empty w
  have HW := Lib.hid hw
  have HX := Lib.hid hx
  clear hw hx
  by_cases hne : l = []
  · subst hne
    go_enter Tryd.func19, Tryd.ntmps19
    go_wp2_with (at_builtin; refine wpList_pushFs rfl _ _ 24 rfl w.heap.size inf Tryd.underlying24 hif hif1 hif2 hif3 (.slice (some ⟨w.heap.size, 0, none⟩) 0 0) [] rfl hEm w.heap.size A [] 0 c rfl rfl hl1 (by simp) hbe.size ?_; intro v1 w1 ho1 hb1; rw [List.nil_append] at ho1; obtain ⟨A1, k1, rfl, -⟩ := ho1.read)
    have s1 := hst.over hg (hbe.trans hb1)
    refine (next_any g _ _ s1.1 (by omega)).mono ?_
    rintro e w2 ⟨r, r0, r1, rfl, hst2⟩
    have s2 := s1.trans hst2
    have ho2 := ho1.step hg hst2
    have hbs := s2.2.size
    clear hst2 ho1 s1 hst hb1 hl1 hEm hl
    have hwr : IntKind.i64.wrap (r - 1) = r - 1 := IntWalk.i64_in _ (by omega)
    go_wp2_with (at_builtin; refine wpList_pushF rfl _ _ 24 rfl w.heap.size inf Tryd.underlying24 hif hif1 hif2 hif3 (.slice A1 0 k1) [] _ ⟨_, _, _⟩ rfl ho2 rfl (by simp) hbs ?_; intro v2 w3 ho3 hb3)
    go_ret
    exact spP_own ho3 (wide_snoc (fun i h => by simp at h) (by constructor <;> simp)) (s2.over hg hb3)
  · have hpos : 0 < l.length := List.length_pos_iff.2 hne
    have hz : ((l.length : Int) == 0) = false := by rw [beq_eq_false_iff_ne]; omega
    go_enter Tryd.func19, Tryd.ntmps19
    go_wp2_with (at_builtin; refine wpList_pushFs rfl _ _ 24 rfl w.heap.size inf Tryd.underlying24 hif hif1 hif2 hif3 (.slice (some ⟨w.heap.size, 0, none⟩) 0 0) [] rfl hEm w.heap.size A l l.length c rfl rfl hl1 (by simp; omega) hbe.size ?_; intro v1 w1 ho1 hb1; rw [List.nil_append] at ho1; obtain ⟨G, cp, rfl, hG, -, hcp, hcm, -⟩ := ho1.open_ hne)
    have s1 := hst.over hg (hbe.trans hb1)
    refine (next_any g _ _ s1.1 (by omega)).mono ?_
    rintro e w2 ⟨r, r0, r1, rfl, hst2⟩
    have s2 := s1.trans hst2
    have ho2 := ho1.step hg hst2
    clear hst2 ho1 s1 hst hb1 hl1 hEm hl
    obtain ⟨k, rfl⟩ : ∃ k : Nat, r = (k : Int) := ⟨r.toNat, by omega⟩
    have hk : k < l.length := by omega
    have i1 : (k : Int) < (l.length : Int) := by omega
    clear r1
    go_wp2_with fail
    refine (next_any g _ _ s2.1 (by omega)).mono ?_
    rintro e w3 ⟨q, q0, q1, rfl, hst3⟩
    have s3 := s2.trans hst3
    have ho3 := ho2.step hg hst3
    clear hst3 ho2 s2
    have hw3 := ho3.thaw
    obtain ⟨G', cp', hv, -, hG3, -, -, hr3⟩ := ho3.open_ hne
    injection hv with e1 _ e2
    injection e1 with e1
    injection e1 with e1
    subst e1 e2
    obtain ⟨b9, o9, e9, -, f1, f2, f3⟩ := hr3.at_ hk
    injection e9 with e9
    injection e9 with e1 e2
    subst e1 e2
    simp only [Nat.zero_add] at f1 f2 f3
    have HPUT := Lib.hid (fun W f h0 h1 h2 ho => Fds.put (w' := W) hr3 hk f h0 h1 h2 ho)
    have HWF := HW.out k hk
    have HXF := HX.out k hk
    generalize hfe : l[k] = f at *
    have HFE := Lib.hid hfe
    clear hfe
    obtain ⟨fk, fn, ft⟩ := f
    have fx : ft.size ≤ 1000 := HXF
    have fw : -9223372036854775808 ≤ fn ∧ fn ≤ 9223372036854775807 := HWF
    obtain ⟨fw1, fw2⟩ := fw
    clear hr3 HXF HWF HX
    by_cases q9 : q = 0
    · subst q9
      have HOK := Lib.hid ho3
      clear ho3
      go_wp2_with fail
      refine (next_any g _ _ s3.1 (by omega)).mono ?_
      rintro e w4 ⟨p, p0, p1, rfl, hst4⟩
      have s4 := s3.trans hst4
      have hh := hst4.keeps
      have hgG : G ≠ g := by omega
      have fz : ∀ o, w4.frozen? ⟨G, o, none⟩ = false := fun o => (hh.2.1 G o hG3 hgG).trans (hw3 o)
      have g1 := (hh.1 G (k * 3) hG3 hgG).trans f1
      have g2 := (hh.1 G (k * 3 + 1) hG3 hgG).trans f2
      have g3 := (hh.1 G (k * 3 + 2) hG3 hgG).trans f3
      have hwr : IntKind.i64.wrap (p - 1) = p - 1 := IntWalk.i64_in _ (by omega)
      go_wp2_with fail
      go_ret
      exact spP_put (HPUT.out (w4.setCell ⟨G, k * 3, none⟩ (.int .i64 (p - 1))) ⟨p - 1, fn, ft⟩ (cell_same g1) ((cell_other (by omega)).trans g2) ((cell_other (by omega)).trans g3) (fun o ho => (cell_other (by omega)).trans (hh.1 G o hG3 hgG))) (by rw [set_size]; exact hh.2.2) hG HW.out ⟨fw1, fw2⟩ (s4.set hG hg _)
    · by_cases q8 : q = 1
      · subst q8
        go_wp2_with fail
        go_ret
        exact spP_put (HPUT.out (w3.setCell ⟨G, k * 3 + 1, none⟩ (.int .i64 (wrap64 (fn + 1)))) ⟨fk, wrap64 (fn + 1), ft⟩ ((cell_other (by omega)).trans f1) (cell_same f2) ((cell_other (by omega)).trans f3) (fun o ho => cell_other (by omega))) (by rw [set_size]; exact Nat.le_refl _) hG HW.out (wrap64_wide _) (s3.set hG hg _)
      · by_cases q7 : q = 2
        · subst q7
          go_wp2_with fail
          go_ret
          exact spP_put (HPUT.out (w3.setCell ⟨G, k * 3 + 2, none⟩ (.string (ft ++ ⟨#[48, 49, 50, 51, 52, 53, 54, 55, 56, 57, 97, 98, 99, 100, 101, 102]⟩))) ⟨fk, fn, ft ++ ⟨#[48, 49, 50, 51, 52, 53, 54, 55, 56, 57, 97, 98, 99, 100, 101, 102]⟩⟩ ((cell_other (by omega)).trans f1) ((cell_other (by omega)).trans f2) (cell_same f3) (fun o ho => cell_other (by omega))) (by rw [set_size]; exact Nat.le_refl _) hG HW.out ⟨fw1, fw2⟩ (s3.set hG hg _)
        · have t0 : (q == 0) = false := by simpa using q9
          have t1 : (q == 1) = false := by simpa using q8
          have t2 : (q == 2) = false := by simpa using q7
          have hbs := s3.2.size
          go_wp2_with (at_builtin; refine wpList_pushF rfl _ _ 24 rfl w.heap.size inf Tryd.underlying24 hif hif1 hif2 hif3 (.slice (some ⟨G, 0, none⟩) l.length cp) l _ ⟨fk, fn, ft⟩ rfl ho3 rfl (by omega) hbs ?_; intro v2 w6 ho6 hb6)
          go_ret
          exact spP_own ho6 (wide_snoc HW.out ⟨fw1, fw2⟩) (s3.over hg hb6)
end Go.Proofs.YtlnmpiigmedgkaaDoor
