/-
  The walk of KeyspaceJoins: from whatever arguments it answers true and only makes memory. Conditions: 'letters' holds six strings of one byte; the first argument reads as a slice of ints.
-/
import Derived.Test.YtofandkijmbplaaDoorKtE
import Derived.Test.YtofandkijmbplaaDoorK6
namespace Go.Proofs.YtofandkijmbplaaDoor
open Go.RowKit

theorem rgs_new_drew (W : World) (l : List Rg) : Rgs (W.alloc (.cells (flat l).toArray 30)).drew (W.alloc (.cells (flat l).toArray 30)).drew.heap.size (some ⟨W.heap.size, 0, none⟩) l := rgs_new W l
theorem at_cels5 {w a b : World} {l : List (Nat × TypeId × Array Value)} {g D E G1 G2 G3 : Nat} {x y r y' x' : Rg} (h : At w l g a ∧ Cel a D x ∧ Cel a E y ∧ Cel a G1 r ∧ Cel a G2 y' ∧ Cel a G3 x') (k : Below a.heap.size a b) : At w l g b ∧ Cel b D x ∧ Cel b E y ∧ Cel b G1 r ∧ Cel b G2 y' ∧ Cel b G3 x' :=
  ⟨h.1.below k, h.2.1.below k, h.2.2.1.below k, h.2.2.2.1.below k, h.2.2.2.2.1.below k, h.2.2.2.2.2.below k⟩
theorem own_one {w : World} {base : Nat} {v : Value} {r : Rg} (h : w.ownsRow base 30 4 v [r].length (flat [r])) : ∃ G cap, v = .slice (some ⟨G, 0, none⟩) 1 cap ∧ 1 ≤ cap ∧ Cel w G r := by
  obtain ⟨G, cap, cur, rfl, _, hb, h1, _, ht⟩ := own_row h rfl (by simp)
  obtain ⟨x1, x2, x3, x4⟩ := row_cells hb (row_of_take ht) (n := 0) (by simp)
  exact ⟨G, cap, rfl, h1, Has.lt hb, x1, x2, x3, x4⟩

set_option maxRecDepth 100000 in
set_option maxHeartbeats 3200000 in
theorem joins_walk (A : Option Addr) (n0 cp : Nat) (w : World) (hl : Lets w) (hw : 0 < w.heap.size) (hnc : n0 ≤ cp) (hc : cp ≤ maxLen) (hN : Nums w w.heap.size A n0) :
    Calls Tryd.prog 7 #[.slice A n0 cp] w (LawP w) := by
  go_enter Tryd.func7, Tryd.ntmps7
  go_wp2_with fail
  refine (new_any A n0 cp _ hl hw hnc hc hN).mono ?_
  rintro e w1 ⟨g, hg1, rfl, hT, hb⟩
  have hA : At w [] g w1 := ⟨(Inv.nil w).below hb, hT⟩
  clear hb hT hl hN hnc hc
  go_wp2_with fail
  refine (range_any g _ hA.2).mono ?_
  rintro e w2 ⟨r, _, _, rfl, hst⟩
  replace hA := hA.step hst hg1 (fun _ h => by cases h)
  clear hst
  go_wp2_with fail
  refine (key_any g _ hA.2).mono ?_
  rintro e w3 ⟨kk, hkk, rfl, hst⟩
  replace hA := hA.step hst hg1 (fun _ h => by cases h)
  clear hst
  have hbok : Bd.ok ⟨kk, false⟩ = true := by (show vk kk = true); unfold vk; simp; omega
  have hB := hA.1.1.size
  have hgB := hA.2.lt
  replace hA := (hA.add 30 #[Value.string r.lo.key, Value.bool r.lo.top, Value.string r.hi.key, Value.bool r.hi.top]).add 28 #[Value.string kk, Value.bool false]
  simp only [World.size_alloc] at hA
  generalize hBB : w3.heap.size = B at hA hB hgB
  obtain ⟨ev, hev⟩ : ∃ ev, r.emp = ev := ⟨_, rfl⟩
  have HE := Lib.hid hev
  cases ev
  · by_cases h1 : r.lo.cmp ⟨kk, false⟩ < 0
    · by_cases h2 : Bd.cmp ⟨kk, false⟩ r.hi < 0
      · have HP0 := Lib.hid (parts hev hbok h1 h2)
        clear hev
        go_wp2_with (first | (go_at_call 32; (with_reducible refine (emp_ref r _).mono ?_); rintro e w5 ⟨he5, hb5⟩; rw [HE.out] at he5; subst he5; replace hA := hA.below hb5; clear hb5; (try clear c0 f0 c1 f1); obtain ⟨c0, f0⟩ := hA.1.hd; obtain ⟨c1, f1⟩ := hA.1.tl.hd; simp only at c0 f0 c1 f1) | (go_at_call 33; (with_reducible refine (cmp_ref r.lo ⟨kk, false⟩ _).mono ?_); rintro e w5 ⟨rfl, hb5⟩; replace hA := hA.below hb5; clear hb5; (try clear c0 f0 c1 f1); obtain ⟨c0, f0⟩ := hA.1.hd; obtain ⟨c1, f1⟩ := hA.1.tl.hd; simp only at c0 f0 c1 f1) | (go_at_call 33; (with_reducible refine (cmp_ref ⟨kk, false⟩ r.hi _).mono ?_); rintro e w5 ⟨rfl, hb5⟩; replace hA := hA.below hb5; clear hb5; (try clear c0 f0 c1 f1); obtain ⟨c0, f0⟩ := hA.1.hd; obtain ⟨c1, f1⟩ := hA.1.tl.hd; simp only at c0 f0 c1 f1) | (go_at_call 23; (with_reducible refine (sane_any _).mono ?_); rintro e w5 ⟨rfl, hb5⟩; replace hA := hA.below hb5; clear hb5; (try clear c0 f0 c1 f1); obtain ⟨c0, f0⟩ := hA.1.hd; obtain ⟨c1, f1⟩ := hA.1.tl.hd; simp only at c0 f0 c1 f1))
        clear c0 c1 f0 f1
        have hbs0 := (hA.1.2 _ (.head _)).lt
        have hbs1 := (hA.1.2 _ (.tail _ (.head _))).lt
        simp only at hbs0 hbs1
        have r0 := fun (w' : World) (h : At w [(B + 1, 28, #[Value.string kk, Value.bool false]), (B, 30, #[Value.string r.lo.key, Value.bool r.lo.top, Value.string r.hi.key, Value.bool r.hi.top])] g w') => h.1.hd.1
        have r1 := fun (w' : World) (h : At w [(B + 1, 28, #[Value.string kk, Value.bool false]), (B, 30, #[Value.string r.lo.key, Value.bool r.lo.top, Value.string r.hi.key, Value.bool r.hi.top])] g w') => h.1.tl.hd.1
        simp only at r0 r1
        clear h1 h2
        go_upto_region 5 with fail
        go_cut [6, 7] (fun s6 s7 wx => ∃ (x y : Rg) (D E : Nat), Hid (Parts r x y) ∧ s6 = .pointer (some ⟨D, 0, none⟩) ∧ s7 = .pointer (some ⟨E, 0, none⟩) ∧ At w [(B + 1, 28, #[Value.string kk, Value.bool false]), (B, 30, #[Value.string r.lo.key, Value.bool r.lo.top, Value.string r.hi.key, Value.bool r.hi.top])] g wx ∧ Cel wx D x ∧ Cel wx E y)
        case first =>
          go_region_held3 (fun w' => At w [(B + 1, 28, #[Value.string kk, Value.bool false]), (B, 30, #[Value.string r.lo.key, Value.bool r.lo.top, Value.string r.hi.key, Value.bool r.hi.top])] g w')
            (first | with_reducible exact hA.drew | (repeat' (first | with_reducible assumption | with_reducible refine At.drew ?_ | with_reducible refine At.alloc ?_ _ | with_reducible refine At.setC ?_ (by simp; omega) (by simp; omega) (by simp; omega) _)))
            (fail)
          all_goals
            go_wp2_with fail
            go_meet
            refine ⟨⟨r.lo, ⟨kk, false⟩⟩, ⟨⟨kk, false⟩, r.hi⟩, _, _, HP0, rfl, rfl, by with_reducible assumption, ?_⟩
          all_goals first
            | (with_reducible refine cels_put2 ⟨r.lo, ⟨kk, false⟩⟩ ⟨⟨kk, false⟩, r.hi⟩ ?_ ?_ ?_ ?_ ?_ ?_ ?_ ?_ ?_ ?_ ?_
               all_goals first | omega | (go_simp; done))
            | (refine ⟨⟨?_, ?_, ?_, ?_, ?_⟩, ⟨?_, ?_, ?_, ?_, ?_⟩⟩
               all_goals first | omega | (go_simp; done) | (simp; omega))
        case rest =>
          obtain ⟨x, y, D, E, HP, rfl, rfl, hA2, hD, hE⟩ := hcut
          clear hA HP0
          obtain ⟨ri, hri⟩ : ∃ ri, x.intK y = ri := ⟨_, rfl⟩
          have RE := Lib.hid (show ri.emp = true from hri ▸ HP.out.int)
          have RI := Lib.hid hri
          clear hri
          have r3 := fun (w' : World) (h : Cel w' D x) => h.2
          have r4 := fun (w' : World) (h : Cel w' E y) => h.2
          go_wp2_with fail
          go_region_held3 (fun w' => At w [(B + 1, 28, #[Value.string kk, Value.bool false]), (B, 30, #[Value.string r.lo.key, Value.bool r.lo.top, Value.string r.hi.key, Value.bool r.hi.top])] g w' ∧ Cel w' D x ∧ Cel w' E y)
            (first | with_reducible exact hS1 | with_reducible exact ⟨hA2.drew, hD, hE⟩ | exact ⟨hA2.drew, hD.drew, hE.drew⟩ | with_reducible assumption | exact at_cels ‹_› ((Below.refl _ _).alloc (Nat.le_refl _) _))
            (first | (go_at_call 19; refine (union_key [y, x] _ 2 _ (rgs_new_drew _ _) (by simp) (by simp) (by decide)).mono ?_; rintro e w6 ⟨u, hu, v6, rfl, ho6, hb6⟩; obtain rfl := HP.out.uni u hu; obtain ⟨G1, k1, rfl, g1, CU⟩ := own_one ho6; have r5 := fun (wz : World) (h : Cel wz G1 r) => h.2; have hS1 := at_cels ‹_› hb6; clear hb6 ho6 hu) | (go_at_call 34; (with_reducible refine (sub_key r x _).mono ?_); rintro e w6 ⟨v6, rfl, ho6, hb6⟩; rw [HP.out.sub] at ho6; obtain ⟨G2, k2, rfl, g2, CV⟩ := own_one ho6; have r6 := fun (wz : World) (h : Cel wz G2 y) => h.2; have hS1 := at_cels ‹_› hb6; replace CU := CU.below hb6; clear hb6 ho6) | (go_at_call 34; (with_reducible refine (sub_key r y _).mono ?_); rintro e w6 ⟨v6, rfl, ho6, hb6⟩; rw [HP.out.sub'] at ho6; obtain ⟨G3, k3, rfl, g3, CW⟩ := own_one ho6; have r7 := fun (wz : World) (h : Cel wz G3 x) => h.2; have hS1 := at_cels ‹_› hb6; replace CU := CU.below hb6; replace CV := CV.below hb6; clear hb6 ho6))
          clear hA2 hD hE
          obtain ⟨hA2, hD, hE⟩ := hS1
          go_wp2_with fail
          simp only [List.append_eq, List.cons_append, List.nil_append]
          go_region_held3 (fun w' => At w [(B + 1, 28, #[Value.string kk, Value.bool false]), (B, 30, #[Value.string r.lo.key, Value.bool r.lo.top, Value.string r.hi.key, Value.bool r.hi.top])] g w' ∧ Cel w' D x ∧ Cel w' E y ∧ Cel w' G1 r ∧ Cel w' G2 y ∧ Cel w' G3 x)
            (first | with_reducible exact hS1 | with_reducible exact ⟨hA2.drew, hD, hE, CU, CV, CW⟩ | exact ⟨hA2.drew, hD.drew, hE.drew, CU.drew, CV.drew, CW.drew⟩ | with_reducible assumption)
            (first | (go_at_call 35; (with_reducible refine (adj_key x y _).mono ?_); rintro e w6 ⟨he6, hb6⟩; rw [HP.out.adj] at he6; subst he6; have hS1 := at_cels5 ‹_› hb6; clear hb6) | (go_at_call 35; (with_reducible refine (adj_key y x _).mono ?_); rintro e w6 ⟨he6, hb6⟩; rw [HP.out.adj'] at he6; subst he6; have hS1 := at_cels5 ‹_› hb6; clear hb6) | (go_at_call 37; (with_reducible refine (int_key x y _).mono ?_); rintro e w6 ⟨he6, hb6⟩; rw [RI.out] at he6; subst he6; have hS1 := at_cels5 ‹_› hb6; clear hb6) | (go_at_call 36; (with_reducible refine (emp_key ri _).mono ?_); rintro e w6 ⟨he6, hb6⟩; rw [RE.out] at he6; subst he6; have hS1 := at_cels5 ‹_› hb6; clear hb6) | (go_at_call 38; (with_reducible refine (hul_key x y _).mono ?_); rintro e w6 ⟨he6, hb6⟩; rw [HP.out.hul] at he6; subst he6; have hS1 := at_cels5 ‹_› hb6; clear hb6) | (go_at_call 38; (with_reducible refine (hul_key y x _).mono ?_); rintro e w6 ⟨he6, hb6⟩; rw [HP.out.hul'] at he6; subst he6; have hS1 := at_cels5 ‹_› hb6; clear hb6) | (go_at_call 23; (with_reducible refine (sane_any _).mono ?_); rintro e w6 ⟨rfl, hb6⟩; have hS1 := at_cels5 ‹_› hb6; clear hb6))
          go_wp2
          go_ret
          exact ⟨rfl, hS1.1.1.1⟩
      · clear hev
        go_wp2_with (first | (go_at_call 32; (with_reducible refine (emp_ref r _).mono ?_); rintro e w5 ⟨he5, hb5⟩; rw [HE.out] at he5; subst he5; replace hA := hA.below hb5; clear hb5; (try clear c0 f0 c1 f1); obtain ⟨c0, f0⟩ := hA.1.hd; obtain ⟨c1, f1⟩ := hA.1.tl.hd; simp only at c0 f0 c1 f1) | (go_at_call 33; (with_reducible refine (cmp_ref r.lo ⟨kk, false⟩ _).mono ?_); rintro e w5 ⟨rfl, hb5⟩; replace hA := hA.below hb5; clear hb5; (try clear c0 f0 c1 f1); obtain ⟨c0, f0⟩ := hA.1.hd; obtain ⟨c1, f1⟩ := hA.1.tl.hd; simp only at c0 f0 c1 f1) | (go_at_call 33; (with_reducible refine (cmp_ref ⟨kk, false⟩ r.hi _).mono ?_); rintro e w5 ⟨rfl, hb5⟩; replace hA := hA.below hb5; clear hb5; (try clear c0 f0 c1 f1); obtain ⟨c0, f0⟩ := hA.1.hd; obtain ⟨c1, f1⟩ := hA.1.tl.hd; simp only at c0 f0 c1 f1) | (go_at_call 23; (with_reducible refine (sane_any _).mono ?_); rintro e w5 ⟨rfl, hb5⟩; replace hA := hA.below hb5; clear hb5; (try clear c0 f0 c1 f1); obtain ⟨c0, f0⟩ := hA.1.hd; obtain ⟨c1, f1⟩ := hA.1.tl.hd; simp only at c0 f0 c1 f1))
        all_goals
          go_ret
          exact ⟨rfl, hA.1.1⟩
    · clear hev
      go_wp2_with (first | (go_at_call 32; (with_reducible refine (emp_ref r _).mono ?_); rintro e w5 ⟨he5, hb5⟩; rw [HE.out] at he5; subst he5; replace hA := hA.below hb5; clear hb5; (try clear c0 f0 c1 f1); obtain ⟨c0, f0⟩ := hA.1.hd; obtain ⟨c1, f1⟩ := hA.1.tl.hd; simp only at c0 f0 c1 f1) | (go_at_call 33; (with_reducible refine (cmp_ref r.lo ⟨kk, false⟩ _).mono ?_); rintro e w5 ⟨rfl, hb5⟩; replace hA := hA.below hb5; clear hb5; (try clear c0 f0 c1 f1); obtain ⟨c0, f0⟩ := hA.1.hd; obtain ⟨c1, f1⟩ := hA.1.tl.hd; simp only at c0 f0 c1 f1) | (go_at_call 33; (with_reducible refine (cmp_ref ⟨kk, false⟩ r.hi _).mono ?_); rintro e w5 ⟨rfl, hb5⟩; replace hA := hA.below hb5; clear hb5; (try clear c0 f0 c1 f1); obtain ⟨c0, f0⟩ := hA.1.hd; obtain ⟨c1, f1⟩ := hA.1.tl.hd; simp only at c0 f0 c1 f1) | (go_at_call 23; (with_reducible refine (sane_any _).mono ?_); rintro e w5 ⟨rfl, hb5⟩; replace hA := hA.below hb5; clear hb5; (try clear c0 f0 c1 f1); obtain ⟨c0, f0⟩ := hA.1.hd; obtain ⟨c1, f1⟩ := hA.1.tl.hd; simp only at c0 f0 c1 f1))
      all_goals
        go_ret
        exact ⟨rfl, hA.1.1⟩
  · clear hev
    go_wp2_with (first | (go_at_call 32; (with_reducible refine (emp_ref r _).mono ?_); rintro e w5 ⟨he5, hb5⟩; rw [HE.out] at he5; subst he5; replace hA := hA.below hb5; clear hb5; (try clear c0 f0 c1 f1); obtain ⟨c0, f0⟩ := hA.1.hd; obtain ⟨c1, f1⟩ := hA.1.tl.hd; simp only at c0 f0 c1 f1) | (go_at_call 33; (with_reducible refine (cmp_ref r.lo ⟨kk, false⟩ _).mono ?_); rintro e w5 ⟨rfl, hb5⟩; replace hA := hA.below hb5; clear hb5; (try clear c0 f0 c1 f1); obtain ⟨c0, f0⟩ := hA.1.hd; obtain ⟨c1, f1⟩ := hA.1.tl.hd; simp only at c0 f0 c1 f1) | (go_at_call 33; (with_reducible refine (cmp_ref ⟨kk, false⟩ r.hi _).mono ?_); rintro e w5 ⟨rfl, hb5⟩; replace hA := hA.below hb5; clear hb5; (try clear c0 f0 c1 f1); obtain ⟨c0, f0⟩ := hA.1.hd; obtain ⟨c1, f1⟩ := hA.1.tl.hd; simp only at c0 f0 c1 f1) | (go_at_call 23; (with_reducible refine (sane_any _).mono ?_); rintro e w5 ⟨rfl, hb5⟩; replace hA := hA.below hb5; clear hb5; (try clear c0 f0 c1 f1); obtain ⟨c0, f0⟩ := hA.1.hd; obtain ⟨c1, f1⟩ := hA.1.tl.hd; simp only at c0 f0 c1 f1))
    all_goals
      go_ret
      exact ⟨rfl, hA.1.1⟩
end Go.Proofs.YtofandkijmbplaaDoor
