/-
  The walk of CompositeTurns: from whatever numbers it answers true and only makes memory. Conditions: the argument reads as a slice of ints; 'texts' holds eight strings of at most two bytes.
-/
import Derived.Test.YtihlkgnholnjlaaDoorKcV
import Derived.Test.YtihlkgnholnjlaaDoorKcB
namespace Go.Proofs.YtihlkgnholnjlaaDoor
open Go.RowKit

theorem OwnC.cols {w : World} {base G n cap : Nat} {l : List Col} (h : OwnC w base (.slice (some ⟨G, 0, none⟩) n cap) l) : Cols w w.heap.size (some ⟨G, 0, none⟩) l := by
  obtain ⟨_, _, er, -, hc⟩ := h.read
  injection er with e1 _ _
  rw [e1]; exact hc
theorem OwnC.flat {w : World} {base G n cap : Nat} {l : List Col} (h : OwnC w base (.slice (some ⟨G, 0, none⟩) n cap) l) (hl : l ≠ []) : ∀ j u, (flatC l)[j]? = some u → w.cell? ⟨G, j, none⟩ = some u := by
  obtain ⟨_, _, e9, _, _, _, hf, _⟩ := h.open_ hl
  injection e9 with e9 _ _
  injection e9 with e9
  injection e9 with e9 _
  rw [e9]; exact hf
theorem OwnC.thaw {w : World} {base G n cap : Nat} {l : List Col} (h : OwnC w base (.slice (some ⟨G, 0, none⟩) n cap) l) (hl : l ≠ []) : ∀ j, w.frozen? ⟨G, j, none⟩ = false := by
  obtain ⟨_, _, e9, _, _, _, _, hf⟩ := h.open_ hl
  injection e9 with e9 _ _
  injection e9 with e9
  injection e9 with e9 _
  rw [e9]; exact hf
theorem OwnF.fds {w : World} {base n cap : Nat} {A : Option Addr} {l : List Fd} (h : OwnF w base (.slice A n cap) l) : Fds w w.heap.size A l := by
  obtain ⟨_, _, er, hc⟩ := h.read
  injection er with e1 _ _
  rw [e1]; exact hc
theorem mix_get (cs : List Col) (k : Nat) (h : k < cs.length) : ((cs.map Col.flip).take k ++ cs.drop k)[k]? = some cs[k] := by
  have hl : ((cs.map Col.flip).take k).length = k := by simp; omega
  rw [List.getElem?_append_right (by omega), hl, Nat.sub_self, List.getElem?_drop]
  simp [h]
theorem mix_set (cs : List Col) (k : Nat) (h : k < cs.length) : ((cs.map Col.flip).take k ++ cs.drop k).set k cs[k].flip = (cs.map Col.flip).take (k + 1) ++ cs.drop (k + 1) := by
  have hl : ((cs.map Col.flip).take k).length = k := by simp; omega
  rw [List.set_append_right _ _ (by omega), hl, Nat.sub_self, List.drop_eq_getElem_cons h, List.set_cons_zero, List.take_succ_eq_append_getElem (by simpa using h), List.getElem_map, List.append_assoc]
  rfl

set_option maxRecDepth 100000 in
set_option maxHeartbeats 6400000 in
theorem turns_walk (A : Option Addr) (n0 cp : Nat) (w : World) (hnc : n0 ≤ cp) (hc : cp ≤ maxLen) (hN : Nums w w.heap.size A n0) (hx : Txts w) :
    Calls Tryd.prog 8 #[.slice A n0 cp] w (LawP w) := by
  obtain ⟨inf, hif, hif1, hif2, hif3⟩ := infoC_parts
  go_enter Tryd.func8, Tryd.ntmps8
  go_wp2_with fail
  refine (new_any A n0 cp _ hnc hc hN).mono ?_
  rintro e w1 ⟨g, hg, rfl, ht1, hb1⟩
  have hne : 0 ≠ g := by have := hx.lt; omega
  have x1 := hx.below hb1
  clear hx
  go_wp2_with fail
  refine (schema_any g _ ht1).mono ?_
  rintro e w2 ⟨AS, cS, cs, rfl, hS, hs1, hs4, hok, hst2⟩
  have hg1 := ht1.lt
  have x2 := x1.step hne hst2
  obtain ⟨GS, capS, eS, hGS, hGS2, hcapS, hflS, hfzS⟩ := hS.open_ (by intro e; rw [e] at hs1; simp at hs1)
  injection eS with e1 _ e2
  subst e1 e2
  obtain ⟨_, _, er, -, hcols2⟩ := hS.read
  injection er with e1 _ e2
  subst e1 e2
  have HOK := Lib.hid hok
  have f1 := Lib.hid (fields_any (some ⟨GS, 0, none⟩) cs cS cs.length g w2 (Nat.le_refl _) (by omega) hcols2 (fun b o e => by injection e with e; injection e with e _; omega) hok hst2.1 x2 hne)
  clear hok
  go_wp2_with fail
  refine (f1.out).mono ?_
  rintro e w3 ⟨AA, cA, a, rfl, hA, hal, haf, haw, hst3⟩
  have hS3 := hS.keep (w' := w3) (fun i h1 hi => hst3.2.block i hi (fun e => by have := Option.some.inj e; omega))
  have x3 := x2.step hne hst3
  have f2 := Lib.hid (fields_any (some ⟨GS, 0, none⟩) cs cS cs.length g w3 (Nat.le_refl _) (by omega) hS3.cols (fun b o e => by injection e with e; injection e with e _; omega) HOK.out hst3.1 x3 hne)
  clear f1
  go_wp2_with fail
  refine (f2.out).mono ?_
  rintro e w4 ⟨AB, cB, b, rfl, hB, hbl, hbf, hbw, hst4⟩
  have z2 := hst2.2.size
  have z3 := hst3.2.size
  have z4 := hst4.2.size
  have hS4 := hS3.keep (w' := w4) (fun i h1 hi => hst4.2.block i hi (fun e => by have := Option.some.inj e; omega))
  have hA4 := hA.keep (w' := w4) (fun i h1 hi => hst4.2.block i hi (fun e => by have := Option.some.inj e; omega))
  have hbW : Below w.heap.size w w4 := by
    have h := (hst2.trans hst3).trans hst4
    refine ⟨h.2.os.trans hb1.os, h.2.tape.trans hb1.tape, h.2.output.trans hb1.output, Nat.le_trans hb1.size h.2.size, fun i hi => ?_⟩
    exact (h.2.block i (by have := hb1.size; omega) (fun e => by have := Option.some.inj e; omega)).trans (hb1.block i hi)
  have hflS4 := hS4.flat (by intro e; rw [e] at hs1; simp at hs1)
  have hal4 := (Below.refl w4.heap.size w4).alloc (Nat.le_refl _) (.cells #[] 33)
  have hE := OwnC.empty w4
  have hflE : ∀ j u, (flatC cs)[j]? = some u → (w4.alloc (.cells #[] 33)).cell? ⟨GS, j, none⟩ = some u := fun j u hj => (hal4.cell (p := ⟨GS, j, none⟩) (show GS < w4.heap.size by omega)).trans (hflS4 j u hj)
  have HFE := Lib.hid hflE
  clear f2 hflE hflS hflS4 hfzS hcols2 hS hS3 x1 x2 x3 ht1 hst2 hst3 hA hN
  go_wp2_with (at_builtin; refine wpList_pushCs rfl _ _ 23 rfl w4.heap.size inf Tryd.underlying23 hif hif1 hif2 hif3 (.slice (some ⟨w4.heap.size, 0, none⟩) 0 0) [] _ cs GS cS (by rfl) hE (by rfl) HFE.out (by simp; omega) (by rw [World.size_alloc]; omega) ?_; intro v6 w6 ho6 hb6; rw [List.nil_append] at ho6; obtain ⟨R, cR, rfl, hR1, hR2, -, -, -⟩ := ho6.open_ (by intro e; rw [e] at hs1; simp at hs1))
  have hneC : cs ≠ [] := by intro e; rw [e] at hs1; simp at hs1
  go_loopw [8] (fun i wr => ∃ (k : Nat) (M : List Col), k ≤ cs.length ∧ i = .int .i64 (k : Int) ∧ M.length = cs.length ∧ OwnC wr w4.heap.size (.slice (some ⟨R, 0, none⟩) cs.length cR) M ∧ Below w4.heap.size w4 wr ∧ Hid (M = (cs.map Col.flip).take k ++ cs.drop k)) (fun i _ => cs.length - (intOf i).toNat)
  case atStart => exact ⟨0, cs, by omega, rfl, rfl, ho6, hal4.trans hb6, Lib.hid (by simp)⟩
  case round =>
    clear ho6 hb6
    obtain ⟨k, M, hk, rfl, hML, hoM, hbM, HM⟩ := hrel
    have hMne : M ≠ [] := by intro e; rw [e] at hML; simp at hML; omega
    by_cases hlt : k < cs.length
    · have hkM : k < M.length := by omega
      have hMk : M[k] = cs[k] := by
        have h := mix_get cs k hlt
        rw [← HM.out, List.getElem?_eq_getElem hkM] at h
        exact Option.some.inj h
      have hd := hoM.flat hMne _ _ (flatC_at M k hkM).2
      have hz := hoM.thaw hMne
      rw [hMk] at hd
      have hT : OwnC (wr.setCell ⟨R, k * 2 + 1, none⟩ (.bool (!cs[k].desc))) w4.heap.size (.slice (some ⟨R, 0, none⟩) cs.length cR) (M.set k cs[k].flip) := by
        have h := (hML ▸ hoM : OwnC wr w4.heap.size (.slice (some ⟨R, 0, none⟩) M.length cR) M).turn k hkM (!cs[k].desc)
        rw [hMk, hML] at h
        exact h
      have HN : Hid (M.set k cs[k].flip = (cs.map Col.flip).take (k + 1) ++ cs.drop (k + 1)) := Lib.hid (by rw [HM.out, mix_set cs k hlt])
      have HT := Lib.hid hT
      have hbN := hbM.setCell (p := ⟨R, k * 2 + 1, none⟩) hR1 (.bool (!cs[k].desc))
      have hlN : (M.set k cs[k].flip).length = cs.length := by rw [List.length_set]; exact hML
      generalize cs[k].desc = d at *
      generalize M.set k cs[k].flip = M2 at *
      have i0 : (0 : Int) ≤ (k : Int) := by omega
      have i1 : (k : Int) < (cs.length : Int) := by omega
      have HLN := Lib.hid hlN
      clear hT hMk hlN hML hoM
      go_wp2_with fail
      exact ⟨⟨k + 1, M2, hlt, by go_num, HLN.out, HT.out, hbN, HN⟩, by simp [intOf]; omega⟩
    · have hMf : M = cs.map Col.flip := by rw [HM.out, List.take_of_length_le (by simp; omega), List.drop_eq_nil_of_le (by omega), List.append_nil]
      have hzz := hbM.size
      have hSr := (hS4.cols.below hbM).more hzz
      have hAr := (hA4.fds.below hbM).more hzz
      have hBr := (hB.fds.below hbM).more hzz
      have hRr := hoM.cols
      have E1 := Lib.hid (fun W (k : Below wr.heap.size wr W) => (by
        have h := encode_any (some ⟨GS, 0, none⟩) AA cs a cS cA W ((hSr.below k).more k.size) ((hAr.below k).more k.size) (by omega) haw
        rw [hal] at h
        exact h : Calls Tryd.prog 22 #[.slice (some ⟨GS, 0, none⟩) cs.length cS, .slice AA cs.length cA] W (EncB (encV cs a) W)))
      have E2 := Lib.hid (fun W (k : Below wr.heap.size wr W) => (by
        have h := encode_any (some ⟨R, 0, none⟩) AA M a cR cA W ((hRr.below k).more k.size) ((hAr.below k).more k.size) (by omega) haw
        rw [hML, hal] at h
        exact h : Calls Tryd.prog 22 #[.slice (some ⟨R, 0, none⟩) cs.length cR, .slice AA cs.length cA] W (EncB (encV M a) W)))
      have C1 := Lib.hid (fun W (k : Below wr.heap.size wr W) => (by
        have h := compare_any (some ⟨R, 0, none⟩) AA AB M a b cR cA cB W ((hRr.below k).more k.size) ((hAr.below k).more k.size) ((hBr.below k).more k.size) (by omega)
        rw [hML, hal, hbl, hMf, cmpL_flip cs a b (by omega) (by omega)] at h
        exact h : Calls Tryd.prog 23 #[.slice (some ⟨R, 0, none⟩) cs.length cR, .slice AA cs.length cA, .slice AB cs.length cB] W (IntB (cmpL cs b a) W)))
      have C2 := Lib.hid (fun W (k : Below wr.heap.size wr W) => (by
        have h := compare_any (some ⟨GS, 0, none⟩) AB AA cs b a cS cB cA W ((hSr.below k).more k.size) ((hBr.below k).more k.size) ((hAr.below k).more k.size) (by omega)
        rw [hal, hbl] at h
        exact h : Calls Tryd.prog 23 #[.slice (some ⟨GS, 0, none⟩) cs.length cS, .slice AB cs.length cB, .slice AA cs.length cA] W (IntB (cmpL cs b a) W)))
      have C3 := Lib.hid (fun W (k : Below wr.heap.size wr W) => (by
        have h := compare_any (some ⟨GS, 0, none⟩) AA AA cs a a cS cA cA W ((hSr.below k).more k.size) ((hAr.below k).more k.size) ((hAr.below k).more k.size) (by omega)
        rw [hal, cmpL_self] at h
        exact h : Calls Tryd.prog 23 #[.slice (some ⟨GS, 0, none⟩) cs.length cS, .slice AA cs.length cA, .slice AA cs.length cA] W (IntB 0 W)))
      have hev := encV_flip cs a
      rw [← hMf] at hev
      have hbW2 := hbW.trans (hbM.mono hbW.size)
      clear hMf hSr hAr hBr hRr HM hoM hML hMne hS4 hA4 hB hbM hbW haw hbw haf hbf hst4
      generalize encV cs a = V1 at *
      generalize encV M a = V2 at *
      generalize cmpL cs b a = z at *
      obtain ⟨x, e1⟩ := V1
      obtain ⟨y, e2⟩ := V2
      obtain ⟨he12, hsz⟩ := hev
      simp only at he12 hsz
      subst he12
      go_wp2_with fail
      refine (E1.out _ (Below.refl _ _)).mono ?_
      rintro e w7 ⟨rfl, hb7⟩
      go_wp2_with fail
      refine (E2.out _ hb7).mono ?_
      rintro e w8 ⟨rfl, hb8⟩
      have hb8' := hb7.trans (hb8.mono hb7.size)
      go_wp2_with fail
      refine (C1.out _ hb8').mono ?_
      rintro e w9 ⟨rfl, hb9⟩
      have hb9' := hb8'.trans (hb9.mono hb8'.size)
      go_wp2_with fail
      refine (C2.out _ hb9').mono ?_
      rintro e w10 ⟨rfl, hb10⟩
      have hb10' := hb9'.trans (hb10.mono hb9'.size)
      clear hb7 hb8 hb9 hb10 hb8' hb9'
      go_wp2_with fail
      refine (C3.out _ hb10').mono ?_
      rintro e w11 ⟨rfl, hb11⟩
      have hb11' := hb10'.trans (hb11.mono hb10'.size)
      clear hb10' hb11
      go_wp2_with fail
      refine (sane_any _).mono ?_
      rintro e w12 ⟨rfl, hb12⟩
      go_wp2_with fail
      go_ret
      exact ⟨rfl, hbW2.trans ((hb11'.trans (hb12.mono hb11'.size)).mono hbW2.size)⟩
end Go.Proofs.YtihlkgnholnjlaaDoor
