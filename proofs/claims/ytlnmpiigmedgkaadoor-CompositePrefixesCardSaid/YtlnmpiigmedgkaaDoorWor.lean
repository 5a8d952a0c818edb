/-
  The walk of CompositeOrder: from whatever numbers it answers true and only makes memory. Conditions: the argument reads as a slice of ints; 'texts' holds eight strings of at most two bytes.
-/
import Derived.Test.YtlnmpiigmedgkaaDoorKcK
import Derived.Test.YtlnmpiigmedgkaaDoorKcB
import Derived.Test.YtlnmpiigmedgkaaDoorWrt
import Derived.Deep.CutRange
import Derived.Deep.CutBlock
import Derived.Deep.DeepCutAuto
namespace Go.Proofs.YtlnmpiigmedgkaaDoor
open Go.RowKit

/-- A schema and two lists, each of which fits, in a world. -/
def Two (w w0 : World) (AS : Option Addr) (cs : List Col) (AA : Option Addr) (a : List Fd) (AB : Option Addr) (b : List Fd) : Prop :=
  Below w0.heap.size w0 w ∧ Cols w w.heap.size AS cs ∧ Fds w w.heap.size AA a ∧ Fds w w.heap.size AB b ∧ fitsR cs a = true ∧ fitsR cs b = true ∧ (∀ i (h : i < a.length), a[i].wide) ∧ (∀ i (h : i < b.length), b[i].wide)

theorem OwnF.form {w : World} {base : Nat} {v : Value} {l : List Fd} (h : OwnF w base v l) : (v = .slice none 0 0 ∧ l = []) ∨ ∃ G cap, v = .slice (some ⟨G, 0, none⟩) l.length cap ∧ l.length ≤ cap ∧ Fds w w.heap.size (some ⟨G, 0, none⟩) l := by
  obtain ⟨A, c, rfl, hr⟩ := h.read
  obtain ⟨h1, ⟨h0, h2⟩ | ⟨g, cap, cur, e, h4, h5, h6, h7, _⟩⟩ := h
  · exact .inl ⟨h0, List.eq_nil_of_length_eq_zero h2⟩
  · injection e with e1 _ e2
    subst e1 e2
    exact .inr ⟨g, c, rfl, h6, hr⟩
theorem fitsR_mix : ∀ (s : List Col) (a b : List Fd), fitsR s a = true → fitsR s b = true → fitsR s (a ++ b.drop a.length) = true
  | s, [], b, _, h => h
  | [], _ :: _, _, h, _ => by cases h
  | c :: s, f :: x, [], h, _ => by simpa using h
  | c :: s, f :: x, g :: y, h1, h2 => by
    simp only [fitsR, Bool.and_eq_true] at h1 h2
    show (f.fits c && fitsR s (x ++ y.drop x.length)) = true
    rw [h1.1, fitsR_mix s x y h1.2 h2.2]
    rfl
theorem drop_min (a b : List Fd) : b.drop (min a.length b.length) = b.drop a.length := by
  rcases Nat.le_total a.length b.length with h | h
  · rw [Nat.min_eq_left h]
  · rw [Nat.min_eq_right h, List.drop_eq_nil_of_le (Nat.le_refl _), List.drop_eq_nil_of_le h]
theorem two_app {w w0 w' : World} {AS : Option Addr} {cs : List Col} {AA : Option Addr} {a : List Fd} {AB : Option Addr} {b : List Fd} (h : Two w w0 AS cs AA a AB b) (k : Below w.heap.size w w') {A3 : Option Addr} (N : Nat)
    (hr : Fds w' w'.heap.size A3 ([] ++ a ++ b.drop N)) (hN : min a.length b.length = N) : Two w' w0 AS cs AA a A3 ([] ++ a ++ b.drop N) := by
  obtain ⟨h1, h2, h3, h4, h5, h6, h7, h8⟩ := h
  subst hN
  rw [List.nil_append, drop_min] at hr ⊢
  refine ⟨h1.trans (k.mono h1.size), (h2.below k).more k.size, (h3.below k).more k.size, hr, h5, fitsR_mix cs a b h5 h6, h7, fun i hi => ?_⟩
  by_cases hia : i < a.length
  · rw [List.getElem_append_left hia]; exact h7 i hia
  · rw [List.getElem_append_right (by omega), List.getElem_drop]
    exact h8 _ _
set_option maxRecDepth 100000 in
set_option maxHeartbeats 6400000 in
theorem order_walk (A : Option Addr) (n0 cp : Nat) (w : World) (hnc : n0 ≤ cp) (hc : cp ≤ maxLen) (hN : Nums w w.heap.size A n0) (hx : Txts w) :
    Calls Tryd.prog 5 #[.slice A n0 cp] w (LawP w) := by
  obtain ⟨inf, hif, hif1, hif2, hif3⟩ := infoF_parts
  go_enter Tryd.func5, Tryd.ntmps5
  go_wp2_with fail
  refine (new_any A n0 cp _ hnc hc hN).mono ?_
  rintro e w1 ⟨g, hg, rfl, ht1, hb1⟩
  have hne : 0 ≠ g := by have := hx.lt; omega
  have x1 := hx.below hb1
  clear hx
  go_wp2_with fail
  refine (schema_any g _ ht1).mono ?_
  rintro e w2 ⟨AS, cS, cs, rfl, hS, hs1, hs4, hok, hst2⟩
  have hg1 := ht1.lt
  have x2 := x1.step hne hst2
  have z1 := hb1.size
  have z2 := hst2.2.size
  have hsg : ∀ b o, AS = some ⟨b, o, none⟩ → b ≠ g := fun b o e => by
    obtain ⟨_, _, e9, h9, _⟩ := hS.open_ (by intro e; rw [e] at hs1; simp at hs1)
    injection e9 with e9 _ _
    rw [e] at e9
    injection e9 with e9
    injection e9 with e9 _
    omega
  have HSG := Lib.hid hsg
  have HOK := Lib.hid hok
  clear hok hsg hN
  go_wp2_with fail
  refine (next_any g _ _ hst2.1 (by omega)).mono ?_
  rintro e w3 ⟨r, r0, r1, rfl, hst3⟩
  obtain ⟨n1, rfl⟩ := Int.eq_ofNat_of_zero_le r0
  have hn1 : n1 ≤ cs.length := by omega
  have x3 := x2.step hne hst3
  have c3 := hS.cols2.stepG (Nat.le_refl _) HSG.out hst3
  have z3 := hst3.2.size
  have F1 := Lib.hid (fields_any AS cs cS n1 g w3 hn1 (by omega) (c3.more z3) HSG.out HOK.out hst3.1 x3 hne)
  clear r0 r1
  go_wp2_with fail
  refine (F1.out).mono ?_
  rintro e w4 ⟨AA, cA, a, rfl, hA, hal, haf, haw, hst4⟩
  clear F1
  have x4 := x3.step hne hst4
  have z4 := hst4.2.size
  have c4 := c3.stepG (by omega) HSG.out hst4
  have HAL := Lib.hid hal
  have hac : a.length ≤ cs.length := by omega
  have HAF := Lib.hid haf
  have HAW := Lib.hid haw
  clear hal haf haw
  go_wp2_with fail
  refine (next_any g _ _ hst4.1 (by omega)).mono ?_
  rintro e w5 ⟨r, r0, r1, rfl, hst5⟩
  obtain ⟨n2, rfl⟩ := Int.eq_ofNat_of_zero_le r0
  have hn2 : n2 ≤ cs.length := by omega
  have x5 := x4.step hne hst5
  have z5 := hst5.2.size
  have c5 := c4.stepG (by omega) HSG.out hst5
  have a5 := hA.step (g := g) (by omega) hst5
  have F2 := Lib.hid (fields_any AS cs cS n2 g w5 hn2 (by omega) (c5.more (by omega)) HSG.out HOK.out hst5.1 x5 hne)
  clear r0 r1
  go_wp2_with fail
  refine (F2.out).mono ?_
  rintro e w6 ⟨AB, cB, b, rfl, hB, hbl, hbf, hbw, hst6⟩
  clear F2
  have z6 := hst6.2.size
  have c6 := c5.stepG (by omega) HSG.out hst6
  have a6 := a5.step (g := g) (by omega) hst6
  have HBL := Lib.hid hbl
  have hbc : b.length ≤ cs.length := by omega
  have HBF := Lib.hid hbf
  have HBW := Lib.hid hbw
  clear hbl hbf hbw
  go_wp2_with fail
  refine (bool_any g _ _ hst6.1 (by omega) (by omega)).mono ?_
  rintro e w7 ⟨q, rfl, hst7⟩
  have z7 := hst7.2.size
  have c7 := (c6.stepG (by omega) HSG.out hst7).more (B' := w7.heap.size) (by omega)
  have a7 := (a6.step (g := g) (by omega) hst7).fds2
  have b7o := hB.step (g := g) (by omega) hst7
  have b7 := b7o.fds2
  have stA := ((((hst2.trans hst3).trans hst4).trans hst5).trans hst6).trans hst7
  have hbW : Below w.heap.size w w7 := ⟨stA.2.os.trans hb1.os, stA.2.tape.trans hb1.tape, stA.2.output.trans hb1.output, by omega, fun i hi => (stA.2.block i (by omega) (fun e => by have := Option.some.inj e; omega)).trans (hb1.block i hi)⟩
  have hT : Two w7 w AS cs AA a AB b := ⟨hbW, c7, a7, b7, HAF.out, HBF.out, HAW.out, HBW.out⟩
  have HSC := Lib.hid (schOk_of hs1 hs4 HOK.out)
  clear stA hst2 hst3 hst4 hst5 hst6 hst7 x1 x2 x3 x4 x5 c3 c4 c5 c6 a5 a6 hA hB hb1 HSG HOK HAL HBL z1 z2 z3 z4 z5 z6 z7 ht1 hS
  go_upto_if 33 with fail
  go_cut [6] (fun s6 wx => ∃ (A9 : Option Addr) (c9 : Nat) (b9 : List Fd), s6 = .slice A9 b9.length c9 ∧ b9.length ≤ 1000 ∧ Hid (Two wx w AS cs AA a A9 b9))
  case first =>
    cases q
    · go_wp2_with fail
      go_meet
      exact ⟨AB, cB, b, rfl, by omega, Lib.hid hT⟩
    · have HT := Lib.hid hT
      rcases b7o.form with ⟨hv, hb0⟩ | ⟨GB, capB, hv, hcapB, hrB⟩
      · injection hv with e1 _ e2
        subst e1 e2 hb0
        have hdr : Fds w7 w7.heap.size none (([] : List Fd).drop 0) := Fds.nil _
        have hmin : min a.length ([] : List Fd).length = 0 := by simp
        clear b7 c7
        by_cases ha0 : a = []
        · subst ha0
          go_wp2_with fail
          have hbe := ((Below.refl w7.heap.size w7).alloc (Nat.le_refl _) (.cells #[] 98)).drew
          have hEm : OwnF (w7.alloc (.cells #[] 98)).drew w7.heap.size (.slice (some ⟨w7.heap.size, 0, none⟩) 0 0) [] := OwnF.empty w7
          have ha9 := a7.below hbe
          have q1 : 0 + 0 ≤ 1000000 := by omega
          have q2 : w7.heap.size ≤ (World.drew (World.alloc w7 (.cells #[] 98))).heap.size := hbe.size
          have q3 : ([] ++ ([] : List Fd)).length + 0 ≤ 1000000 := by simp
          have HD := Lib.hid hdr
          have QL := Lib.hid (show (([] : List Fd).drop 0).length = 0 from rfl)
          go_region_held3 (fun w' => Below w7.heap.size w7 w') (first | with_reducible exact hb10 | with_reducible exact hb9 | with_reducible exact hbe | with_reducible exact (Below.refl _ _).drew | with_reducible assumption) (first | (refine step_pushFs (w := World.drew (World.alloc w7 (.cells #[] 98))) (o := ⟨some 36, _, _, _, _, _⟩) rfl (.tmp 34) (.tmp 35) 24 (by rfl) w7.heap.size inf Tryd.underlying24 hif hif1 hif2 hif3 (.slice (some ⟨w7.heap.size, 0, none⟩) 0 0) [] (by simp [Act.eval]) hEm w7.heap.size AA ([] : List Fd) 0 cA (by rfl) (by simp [Act.eval]) ha9 q1 q2 ?_; intro v1 wa ho1 hba; have hb9 := hbe.trans hba) | (refine step_pushFs (w := wa) (o := ⟨some 44, _, _, _, _, _⟩) rfl (.tmp 36) (.tmp 43) 24 (by rfl) w7.heap.size inf Tryd.underlying24 hif hif1 hif2 hif3 v1 ([] ++ ([] : List Fd)) (by simp [Act.eval]) ho1 w7.heap.size none (([] : List Fd).drop 0) 0 0 QL.out (by simp [Act.eval]) (HD.out.below hb9) q3 hb9.size ?_; intro v2 wb ho2 hbb; have hb10 := hb9.trans hbb))
          all_goals
            obtain ⟨A3, c3, rfl, hr3⟩ := ho2.read
            obtain ⟨b9, hb9e⟩ : ∃ b9, b9 = [] ++ ([] : List Fd) ++ ([] : List Fd).drop 0 := ⟨_, rfl⟩
            rw [← hb9e] at ho2 hr3 ⊢
            have hl9 : b9.length ≤ 1000 := by rw [hb9e]; simp
            have HT9 : Hid (Two wb w AS cs AA ([] : List Fd) A3 b9) := Lib.hid (by subst hb9e; exact two_app HT.out hb10 0 hr3 hmin)
            clear hb9e
            go_wp2_with fail
            go_meet
            exact ⟨A3, c3, b9, rfl, hl9, HT9⟩
        · have h2 : (0 : Int) < (a.length : Int) := by
            have : a.length ≠ 0 := fun e => ha0 (List.eq_nil_of_length_eq_zero e)
            omega
          have m1 : 0 < a.length := by omega
          go_wp2_with fail
          have hbe := ((Below.refl w7.heap.size w7).alloc (Nat.le_refl _) (.cells #[] 98)).drew
          have hEm : OwnF (w7.alloc (.cells #[] 98)).drew w7.heap.size (.slice (some ⟨w7.heap.size, 0, none⟩) 0 0) [] := OwnF.empty w7
          have ha9 := a7.below hbe
          have q1 : 0 + a.length ≤ 1000000 := by omega
          have q2 : w7.heap.size ≤ (World.drew (World.alloc w7 (.cells #[] 98))).heap.size := hbe.size
          have q3 : ([] ++ a).length + 0 ≤ 1000000 := by simp; omega
          have HD := Lib.hid hdr
          have QL := Lib.hid (show (([] : List Fd).drop 0).length = 0 from by simp)
          go_region_held3 (fun w' => Below w7.heap.size w7 w') (first | with_reducible exact hb10 | with_reducible exact hb9 | with_reducible exact hbe | with_reducible exact (Below.refl _ _).drew | with_reducible assumption) (first | (refine step_pushFs (w := World.drew (World.alloc w7 (.cells #[] 98))) (o := ⟨some 36, _, _, _, _, _⟩) rfl (.tmp 34) (.tmp 35) 24 (by rfl) w7.heap.size inf Tryd.underlying24 hif hif1 hif2 hif3 (.slice (some ⟨w7.heap.size, 0, none⟩) 0 0) [] (by simp [Act.eval]) hEm w7.heap.size AA a a.length cA (by rfl) (by simp [Act.eval]) ha9 q1 q2 ?_; intro v1 wa ho1 hba; have hb9 := hbe.trans hba) | (refine step_pushFs (w := wa) (o := ⟨some 44, _, _, _, _, _⟩) rfl (.tmp 36) (.tmp 43) 24 (by rfl) w7.heap.size inf Tryd.underlying24 hif hif1 hif2 hif3 v1 ([] ++ a) (by simp [Act.eval]) ho1 w7.heap.size none (([] : List Fd).drop 0) 0 0 QL.out (by simp [Act.eval]) (HD.out.below hb9) q3 hb9.size ?_; intro v2 wb ho2 hbb; have hb10 := hb9.trans hbb))
          all_goals
            obtain ⟨A3, c3, rfl, hr3⟩ := ho2.read
            obtain ⟨b9, hb9e⟩ : ∃ b9, b9 = [] ++ a ++ ([] : List Fd).drop 0 := ⟨_, rfl⟩
            rw [← hb9e] at ho2 hr3 ⊢
            have hl9 : b9.length ≤ 1000 := by rw [hb9e]; simp; omega
            have HT9 : Hid (Two wb w AS cs AA a A3 b9) := Lib.hid (by subst hb9e; exact two_app HT.out hb10 0 hr3 hmin)
            clear hb9e
            go_wp2_with fail
            go_meet
            exact ⟨A3, c3, b9, rfl, hl9, HT9⟩
      · injection hv with e1 _ e2
        subst e1 e2
        clear b7 c7
        have j1 : (b.length : Int) ≤ (cB : Int) := by omega
        by_cases hab : a.length ≤ b.length
        · have i1 : (a.length : Int) ≤ (b.length : Int) := by omega
          have i3 : (a.length : Int) ≤ (cB : Int) := by omega
          have i2 : (0 : Int) ≤ (a.length : Int) := by omega
          have hmin : min a.length b.length = a.length := by omega
          have m1 : ¬ ((b.length : Int) < (a.length : Int)) := by omega
          have m2 : ¬ (b.length < a.length) := by omega
          by_cases hcn : cB = a.length
          · have hdr : Fds w7 w7.heap.size (some ⟨GB, 0, none⟩) (b.drop a.length) := by
              rw [List.drop_eq_nil_of_le (by omega)]
              exact Fds.nil _
            subst hcn
            go_wp2_with fail
            have hbe := ((Below.refl w7.heap.size w7).alloc (Nat.le_refl _) (.cells #[] 98)).drew
            have hEm : OwnF (w7.alloc (.cells #[] 98)).drew w7.heap.size (.slice (some ⟨w7.heap.size, 0, none⟩) 0 0) [] := OwnF.empty w7
            have ha9 := a7.below hbe
            have q1 : 0 + a.length ≤ 1000000 := by omega
            have q2 : w7.heap.size ≤ (World.drew (World.alloc w7 (.cells #[] 98))).heap.size := hbe.size
            have q3 : ([] ++ a).length + 0 ≤ 1000000 := by simp; omega
            have HD := Lib.hid hdr
            have QL := Lib.hid (show (b.drop a.length).length = 0 from (by simp; omega))
            go_region_held3 (fun w' => Below w7.heap.size w7 w') (first | with_reducible exact hb10 | with_reducible exact hb9 | with_reducible exact hbe | with_reducible exact (Below.refl _ _).drew | with_reducible assumption) (first | (refine step_pushFs (w := World.drew (World.alloc w7 (.cells #[] 98))) (o := ⟨some 36, _, _, _, _, _⟩) rfl (.tmp 34) (.tmp 35) 24 (by rfl) w7.heap.size inf Tryd.underlying24 hif hif1 hif2 hif3 (.slice (some ⟨w7.heap.size, 0, none⟩) 0 0) [] (by simp [Act.eval]) hEm w7.heap.size AA a a.length cA (by rfl) (by simp [Act.eval]) ha9 q1 q2 ?_; intro v1 wa ho1 hba; have hb9 := hbe.trans hba) | (refine step_pushFs (w := wa) (o := ⟨some 44, _, _, _, _, _⟩) rfl (.tmp 36) (.tmp 43) 24 (by rfl) w7.heap.size inf Tryd.underlying24 hif hif1 hif2 hif3 v1 ([] ++ a) (by simp [Act.eval]) ho1 w7.heap.size (some ⟨GB, 0, none⟩) (b.drop a.length) 0 0 QL.out (by simp [Act.eval]) (HD.out.below hb9) q3 hb9.size ?_; intro v2 wb ho2 hbb; have hb10 := hb9.trans hbb))
            all_goals
              obtain ⟨A3, c3, rfl, hr3⟩ := ho2.read
              obtain ⟨b9, hb9e⟩ : ∃ b9, b9 = [] ++ a ++ b.drop a.length := ⟨_, rfl⟩
              rw [← hb9e] at ho2 hr3 ⊢
              have hl9 : b9.length ≤ 1000 := by rw [hb9e]; simp; omega
              have HT9 : Hid (Two wb w AS cs AA a A3 b9) := Lib.hid (by subst hb9e; exact two_app HT.out hb10 a.length hr3 hmin)
              clear hb9e
              go_wp2_with fail
              go_meet
              exact ⟨A3, c3, b9, rfl, hl9, HT9⟩
          · have hdr := hrB.cut a.length
            go_wp2_with fail
            have hbe := ((Below.refl w7.heap.size w7).alloc (Nat.le_refl _) (.cells #[] 98)).drew
            have hEm : OwnF (w7.alloc (.cells #[] 98)).drew w7.heap.size (.slice (some ⟨w7.heap.size, 0, none⟩) 0 0) [] := OwnF.empty w7
            have ha9 := a7.below hbe
            have q1 : 0 + a.length ≤ 1000000 := by omega
            have q2 : w7.heap.size ≤ (World.drew (World.alloc w7 (.cells #[] 98))).heap.size := hbe.size
            have q3 : ([] ++ a).length + (b.length - a.length) ≤ 1000000 := by simp; omega
            have HD := Lib.hid hdr
            have QL := Lib.hid (show (b.drop a.length).length = (b.length - a.length) from by simp)
            go_region_held3 (fun w' => Below w7.heap.size w7 w') (first | with_reducible exact hb10 | with_reducible exact hb9 | with_reducible exact hbe | with_reducible exact (Below.refl _ _).drew | with_reducible assumption) (first | (refine step_pushFs (w := World.drew (World.alloc w7 (.cells #[] 98))) (o := ⟨some 36, _, _, _, _, _⟩) rfl (.tmp 34) (.tmp 35) 24 (by rfl) w7.heap.size inf Tryd.underlying24 hif hif1 hif2 hif3 (.slice (some ⟨w7.heap.size, 0, none⟩) 0 0) [] (by simp [Act.eval]) hEm w7.heap.size AA a a.length cA (by rfl) (by simp [Act.eval]) ha9 q1 q2 ?_; intro v1 wa ho1 hba; have hb9 := hbe.trans hba) | (refine step_pushFs (w := wa) (o := ⟨some 44, _, _, _, _, _⟩) rfl (.tmp 36) (.tmp 43) 24 (by rfl) w7.heap.size inf Tryd.underlying24 hif hif1 hif2 hif3 v1 ([] ++ a) (by simp [Act.eval]) ho1 w7.heap.size (some ⟨GB, a.length * 3, none⟩) (b.drop a.length) (b.length - a.length) (cB - a.length) QL.out (by simp [Act.eval]) (HD.out.below hb9) q3 hb9.size ?_; intro v2 wb ho2 hbb; have hb10 := hb9.trans hbb))
            all_goals
              obtain ⟨A3, c3, rfl, hr3⟩ := ho2.read
              obtain ⟨b9, hb9e⟩ : ∃ b9, b9 = [] ++ a ++ b.drop a.length := ⟨_, rfl⟩
              rw [← hb9e] at ho2 hr3 ⊢
              have hl9 : b9.length ≤ 1000 := by rw [hb9e]; simp; omega
              have HT9 : Hid (Two wb w AS cs AA a A3 b9) := Lib.hid (by subst hb9e; exact two_app HT.out hb10 a.length hr3 hmin)
              clear hb9e
              go_wp2_with fail
              go_meet
              exact ⟨A3, c3, b9, rfl, hl9, HT9⟩
        · have i1 : ¬ ((a.length : Int) ≤ (b.length : Int)) := by omega
          have i0 : (b.length : Int) < (a.length : Int) := by omega
          have i2 : (0 : Int) ≤ (b.length : Int) := by omega
          have hmin : min a.length b.length = b.length := by omega
          by_cases hcn : cB = b.length
          · have hdr : Fds w7 w7.heap.size (some ⟨GB, 0, none⟩) (b.drop b.length) := by
              rw [List.drop_eq_nil_of_le (by omega)]
              exact Fds.nil _
            subst hcn
            go_wp2_with fail
            have hbe := ((Below.refl w7.heap.size w7).alloc (Nat.le_refl _) (.cells #[] 98)).drew
            have hEm : OwnF (w7.alloc (.cells #[] 98)).drew w7.heap.size (.slice (some ⟨w7.heap.size, 0, none⟩) 0 0) [] := OwnF.empty w7
            have ha9 := a7.below hbe
            have q1 : 0 + a.length ≤ 1000000 := by omega
            have q2 : w7.heap.size ≤ (World.drew (World.alloc w7 (.cells #[] 98))).heap.size := hbe.size
            have q3 : ([] ++ a).length + 0 ≤ 1000000 := by simp; omega
            have HD := Lib.hid hdr
            have QL := Lib.hid (show (b.drop b.length).length = 0 from by simp)
            go_region_held3 (fun w' => Below w7.heap.size w7 w') (first | with_reducible exact hb10 | with_reducible exact hb9 | with_reducible exact hbe | with_reducible exact (Below.refl _ _).drew | with_reducible assumption) (first | (refine step_pushFs (w := World.drew (World.alloc w7 (.cells #[] 98))) (o := ⟨some 36, _, _, _, _, _⟩) rfl (.tmp 34) (.tmp 35) 24 (by rfl) w7.heap.size inf Tryd.underlying24 hif hif1 hif2 hif3 (.slice (some ⟨w7.heap.size, 0, none⟩) 0 0) [] (by simp [Act.eval]) hEm w7.heap.size AA a a.length cA (by rfl) (by simp [Act.eval]) ha9 q1 q2 ?_; intro v1 wa ho1 hba; have hb9 := hbe.trans hba) | (refine step_pushFs (w := wa) (o := ⟨some 44, _, _, _, _, _⟩) rfl (.tmp 36) (.tmp 43) 24 (by rfl) w7.heap.size inf Tryd.underlying24 hif hif1 hif2 hif3 v1 ([] ++ a) (by simp [Act.eval]) ho1 w7.heap.size (some ⟨GB, 0, none⟩) (b.drop b.length) 0 0 QL.out (by simp [Act.eval]) (HD.out.below hb9) q3 hb9.size ?_; intro v2 wb ho2 hbb; have hb10 := hb9.trans hbb))
            all_goals
              obtain ⟨A3, c3, rfl, hr3⟩ := ho2.read
              obtain ⟨b9, hb9e⟩ : ∃ b9, b9 = [] ++ a ++ b.drop b.length := ⟨_, rfl⟩
              rw [← hb9e] at ho2 hr3 ⊢
              have hl9 : b9.length ≤ 1000 := by rw [hb9e]; simp; omega
              have HT9 : Hid (Two wb w AS cs AA a A3 b9) := Lib.hid (by subst hb9e; exact two_app HT.out hb10 b.length hr3 hmin)
              clear hb9e
              go_wp2_with fail
              go_meet
              exact ⟨A3, c3, b9, rfl, hl9, HT9⟩
          · have hdr := hrB.cut b.length
            go_wp2_with fail
            have hbe := ((Below.refl w7.heap.size w7).alloc (Nat.le_refl _) (.cells #[] 98)).drew
            have hEm : OwnF (w7.alloc (.cells #[] 98)).drew w7.heap.size (.slice (some ⟨w7.heap.size, 0, none⟩) 0 0) [] := OwnF.empty w7
            have ha9 := a7.below hbe
            have q1 : 0 + a.length ≤ 1000000 := by omega
            have q2 : w7.heap.size ≤ (World.drew (World.alloc w7 (.cells #[] 98))).heap.size := hbe.size
            have q3 : ([] ++ a).length + (b.length - b.length) ≤ 1000000 := by simp; omega
            have HD := Lib.hid hdr
            have QL := Lib.hid (show (b.drop b.length).length = (b.length - b.length) from by simp)
            go_region_held3 (fun w' => Below w7.heap.size w7 w') (first | with_reducible exact hb10 | with_reducible exact hb9 | with_reducible exact hbe | with_reducible exact (Below.refl _ _).drew | with_reducible assumption) (first | (refine step_pushFs (w := World.drew (World.alloc w7 (.cells #[] 98))) (o := ⟨some 36, _, _, _, _, _⟩) rfl (.tmp 34) (.tmp 35) 24 (by rfl) w7.heap.size inf Tryd.underlying24 hif hif1 hif2 hif3 (.slice (some ⟨w7.heap.size, 0, none⟩) 0 0) [] (by simp [Act.eval]) hEm w7.heap.size AA a a.length cA (by rfl) (by simp [Act.eval]) ha9 q1 q2 ?_; intro v1 wa ho1 hba; have hb9 := hbe.trans hba) | (refine step_pushFs (w := wa) (o := ⟨some 44, _, _, _, _, _⟩) rfl (.tmp 36) (.tmp 43) 24 (by rfl) w7.heap.size inf Tryd.underlying24 hif hif1 hif2 hif3 v1 ([] ++ a) (by simp [Act.eval]) ho1 w7.heap.size (some ⟨GB, b.length * 3, none⟩) (b.drop b.length) (b.length - b.length) (cB - b.length) QL.out (by simp [Act.eval]) (HD.out.below hb9) q3 hb9.size ?_; intro v2 wb ho2 hbb; have hb10 := hb9.trans hbb))
            all_goals
              obtain ⟨A3, c3, rfl, hr3⟩ := ho2.read
              obtain ⟨b9, hb9e⟩ : ∃ b9, b9 = [] ++ a ++ b.drop b.length := ⟨_, rfl⟩
              rw [← hb9e] at ho2 hr3 ⊢
              have hl9 : b9.length ≤ 1000 := by rw [hb9e]; simp; omega
              have HT9 : Hid (Two wb w AS cs AA a A3 b9) := Lib.hid (by subst hb9e; exact two_app HT.out hb10 b.length hr3 hmin)
              clear hb9e
              go_wp2_with fail
              go_meet
              exact ⟨A3, c3, b9, rfl, hl9, HT9⟩
  case rest =>
    obtain ⟨A9, c9, b9, rfl, hl9, HT9⟩ := hcut
    obtain ⟨hB9, hC, hA9, hBb, haf, hbf, haw, hbw⟩ := HT9.out
    have hsc := HSC.out
    have E1 := encode_any AS AA cs a cS cA wc hC hA9 (by omega) haw
    have E2 := fun (W : World) (k : Below wc.heap.size wc W) => encode_any AS A9 cs b9 cS c9 W ((hC.below k).more k.size) ((hBb.below k).more k.size) (by omega) hbw
    have C1 := fun (W : World) (k : Below wc.heap.size wc W) => compare_any AS AA A9 cs a b9 cS cA c9 W ((hC.below k).more k.size) ((hA9.below k).more k.size) ((hBb.below k).more k.size) (by omega)
    have C2 := fun (W : World) (k : Below wc.heap.size wc W) => compare_any AS A9 AA cs b9 a cS c9 cA W ((hC.below k).more k.size) ((hBb.below k).more k.size) ((hA9.below k).more k.size) (by omega)
    have hwa : ∀ f ∈ a, f.wide := fun f hf => by
      obtain ⟨i, hi, rfl⟩ := List.mem_iff_getElem.1 hf
      exact haw i hi
    have hwb : ∀ f ∈ b9, f.wide := fun f hf => by
      obtain ⟨i, hi, rfl⟩ := List.mem_iff_getElem.1 hf
      exact hbw i hi
    have hz1 : cmpL cs a b9 = lx (encR cs a) (encR cs b9) := by
      unfold cmpL fitsL
      rw [hsc, haf, hbf, encR_lx cs a b9 haf hbf hwa hwb]
      rfl
    have hz2 : cmpL cs b9 a = lx (encR cs b9) (encR cs a) := by
      unfold cmpL fitsL
      rw [hsc, haf, hbf, encR_lx cs b9 a hbf haf hwb hwa]
      rfl
    rw [hz1] at C1
    rw [hz2] at C2
    by_cases ha64 : (encR cs a).length ≤ 64
    · rw [enc_short hsc haf ha64] at E1
      by_cases hb64 : (encR cs b9).length ≤ 64
      · rw [enc_short hsc hbf hb64] at E2
        have hx1 : (⟨(encR cs a).toArray⟩ : ByteArray).data.toList = encR cs a := rfl
        have hx2 : (⟨(encR cs b9).toArray⟩ : ByteArray).data.toList = encR cs b9 := rfl
        generalize (⟨(encR cs a).toArray⟩ : ByteArray) = x at *
        generalize (⟨(encR cs b9).toArray⟩ : ByteArray) = y at *
        rw [← hx1, ← hx2] at C1 C2
        have l1 := lx_lt x.data.toList y.data.toList
        have l2 := lx_lt y.data.toList x.data.toList
        have lb := lx_bd x.data.toList y.data.toList
        have lb2 := lx_bd y.data.toList x.data.toList
        have k1 := kl_iff x y
        have k2 := kl_iff y x
        rw [toList_data, toList_data] at k1 k2
        generalize lx x.data.toList y.data.toList = z at *
        generalize lx y.data.toList x.data.toList = z2 at *
        have hz : (z = -1 ∧ z2 = 1 ∧ kl x y = true) ∨ (z = 1 ∧ z2 = -1 ∧ kl x y = false ∧ (x.toList == y.toList) = false) ∨ (z = 0 ∧ z2 = 0 ∧ kl x y = false ∧ (x.toList == y.toList) = true) := by
          rcases lb with rfl | rfl | rfl
          · have h1 := l1.1.1 rfl
            exact .inl ⟨rfl, l2.2.2 h1, k1.2 h1⟩
          · have n1 : ¬ x.data.toList < y.data.toList := fun h => by have := l1.1.2 h; omega
            have n2 : ¬ y.data.toList < x.data.toList := fun h => by have := l1.2.2 h; omega
            have e1 : kl x y = false := by rw [← Bool.not_eq_true, k1]; exact n1
            have e2 : kl y x = false := by rw [← Bool.not_eq_true, k2]; exact n2
            have e3 := kl_tri e1 e2
            refine .inr (.inr ⟨rfl, ?_, e1, by rw [e3]; simp⟩)
            rcases lb2 with h | h | h
            · exact absurd (l2.1.1 h) n2
            · exact h
            · exact absurd (l2.2.1 h) n1
          · have h1 := l1.2.1 rfl
            have n1 : ¬ x.data.toList < y.data.toList := fun h => by have := l1.1.2 h; omega
            have e1 : kl x y = false := by rw [← Bool.not_eq_true, k1]; exact n1
            refine .inr (.inl ⟨rfl, l2.1.2 h1, e1, ?_⟩)
            rw [beq_eq_false_iff_ne]
            intro e
            have e3 := toList_inj e
            subst e3
            exact absurd h1 (List.lt_irrefl _)
        clear l1 l2 lb lb2 k1 k2 hx1 hx2 hz1 hz2
        have HE1 := Lib.hid E1
        have HE2 := Lib.hid E2
        have HC1 := Lib.hid C1
        have HC2 := Lib.hid C2
        clear E1 E2 C1 C2 HT9 hC hA9 hBb haf hbf haw hbw hwa hwb hsc ha64 hb64 HAF HBF HAW HBW HSC hbc hac
        rcases hz with ⟨rfl, rfl, hk⟩ | ⟨rfl, rfl, hk, hq⟩ | ⟨rfl, rfl, hk, hq⟩
        all_goals
          replace hk : Op.bytesLess x.toList y.toList = _ := hk
          go_wp2_with fail
          refine (HE1.out).mono ?_
          rintro e w8 ⟨rfl, hb8⟩
          clear HE1
          go_wp2_with fail
          refine (HE2.out _ hb8).mono ?_
          rintro e w9 ⟨rfl, hb9⟩
          have hb9' := hb8.trans (hb9.mono hb8.size)
          clear HE2
          go_wp2_with fail
          refine (HC1.out _ hb9').mono ?_
          rintro e w10 ⟨rfl, hb10⟩
          have hb10' := hb9'.trans (hb10.mono hb9'.size)
          clear HC1
          go_wp2_with fail
          refine (HC2.out _ hb10').mono ?_
          rintro e w11 ⟨rfl, hb11⟩
          have hb11' := hb10'.trans (hb11.mono hb10'.size)
          clear HC2
          go_wp2_with fail
          refine (sane_any _).mono ?_
          rintro e w12 ⟨rfl, hb12⟩
          go_wp2_with fail
          go_ret
          exact ⟨rfl, hB9.trans ((hb11'.trans (hb12.mono hb11'.size)).mono hB9.size)⟩
      · rw [enc_long hsc hbf hb64] at E2
        have HE1 := Lib.hid E1
        have HE2 := Lib.hid E2
        generalize (⟨(encR cs a).toArray⟩ : ByteArray) = x at *
        clear E1 E2 C1 C2 HT9 hC hA9 hBb haf hbf haw hbw hwa hwb hsc ha64 hb64 HAF HBF HAW HBW HSC hbc hac hz1 hz2
        go_wp2_with fail
        refine (HE1.out).mono ?_
        rintro e w8 ⟨rfl, hb8⟩
        clear HE1
        go_wp2_with fail
        refine (HE2.out _ hb8).mono ?_
        rintro e w9 ⟨rfl, hb9⟩
        have hb9' := hb8.trans (hb9.mono hb8.size)
        clear HE2
        go_wp2_with fail
        refine (sane_any _).mono ?_
        rintro e w12 ⟨rfl, hb12⟩
        go_wp2_with fail
        go_ret
        exact ⟨rfl, hB9.trans ((hb9'.trans (hb12.mono hb9'.size)).mono hB9.size)⟩
    · rw [enc_long hsc haf ha64] at E1
      have HE1 := Lib.hid E1
      have HE2 := Lib.hid E2
      generalize encV cs b9 = vb at *
      obtain ⟨y, f⟩ := vb
      clear E1 E2 C1 C2 HT9 hC hA9 hBb haf hbf haw hbw hwa hwb hsc ha64 HAF HBF HAW HBW HSC hbc hac hz1 hz2
      go_wp2_with fail
      refine (HE1.out).mono ?_
      rintro e w8 ⟨rfl, hb8⟩
      clear HE1
      go_wp2_with fail
      refine (HE2.out _ hb8).mono ?_
      rintro e w9 ⟨rfl, hb9⟩
      have hb9' := hb8.trans (hb9.mono hb8.size)
      clear HE2
      go_wp2_with fail
      refine (sane_any _).mono ?_
      rintro e w12 ⟨rfl, hb12⟩
      go_wp2_with fail
      go_ret
      exact ⟨rfl, hB9.trans ((hb9'.trans (hb12.mono hb9'.size)).mono hB9.size)⟩
end Go.Proofs.YtlnmpiigmedgkaaDoor
