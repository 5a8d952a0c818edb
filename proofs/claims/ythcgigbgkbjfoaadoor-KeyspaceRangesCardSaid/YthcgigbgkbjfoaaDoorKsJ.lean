/-
  Subtract of the reference: what it answers, in a new row, in every world; it only makes memory. No condition.
-/
import Derived.Test.YthcgigbgkbjfoaaDoorKsY
import Derived.Test.YthcgigbgkbjfoaaDoorKsD
namespace Go.Proofs.YthcgigbgkbjfoaaDoor
open Go.RowKit

theorem below_of_grown {a b : World} (h : a.grownBy b none) : Below a.heap.size a b := ⟨h.os, h.tape, h.output, h.size, fun k hk => h.block k hk (by simp)⟩

set_option maxRecDepth 100000 in
set_option maxHeartbeats 6400000 in
theorem sub_ref (a b : Rg) (w : World) :
    Calls Tryd.prog 51 #[a.val, b.val] w (OwnP (a.subR b) w) := by
  obtain ⟨i0, hi0, hz0, hz1, hz2⟩ := info_parts infoRange
  obtain ⟨⟨ak, at'⟩, ⟨bk, bt⟩⟩ := a
  obtain ⟨⟨ck, ct⟩, ⟨dk, dt⟩⟩ := b
  have hI := (((Inv.nil w).add 34 #[.string ak, .bool at', .string bk, .bool bt]).add 34 #[.string ck, .bool ct, .string dk, .bool dt])
  simp only [World.size_alloc] at hI
  cases he : Rg.emp ⟨⟨ak, at'⟩, ⟨bk, bt⟩⟩
  · go_enter Tryd.func51, Tryd.ntmps51
    go_wp2_with fail
    refine (emp_ref ⟨⟨_, _⟩, ⟨_, _⟩⟩ _).mono ?_
    rintro e w1 ⟨rfl, hb⟩
    replace hI := hI.below hb
    clear hb
    obtain ⟨c0, f0⟩ := hI.hd
    obtain ⟨c1, f1⟩ := hI.tl.hd
    go_wp2_with fail
    refine (int_ref ⟨⟨_, _⟩, ⟨_, _⟩⟩ ⟨⟨_, _⟩, ⟨_, _⟩⟩ _).mono ?_
    rintro e w2 ⟨he2, hb⟩
    rw [intR_eq] at he2
    generalize hr : Rg.intK _ _ = m at he2
    obtain ⟨⟨mk, mt⟩, ⟨nk, nt⟩⟩ := m
    subst he2
    have HM := Lib.hid hr
    clear hr c0 f0 c1 f1
    replace hI := (hI.below hb).add 34 #[.string mk, .bool mt, .string nk, .bool nt]
    clear hb
    have hp1 := (hI.tl.2 _ (.head _)).lt
    have hp0 := (hI.tl.tl.2 _ (.head _)).lt
    generalize hpp : w2.heap.size = p at *
    go_wp2_with fail
    refine (emp_ref ⟨⟨_, _⟩, ⟨_, _⟩⟩ _).mono ?_
    rintro e w3 ⟨he3, hb⟩
    replace hI := hI.below hb
    clear hb hp1 hp0
    obtain ⟨c0, f0⟩ := hI.hd
    obtain ⟨c1, f1⟩ := hI.tl.hd
    obtain ⟨c2, f2⟩ := hI.tl.tl.hd
    cases hm : Rg.emp ⟨⟨mk, mt⟩, ⟨nk, nt⟩⟩
    · rw [hm] at he3
      subst he3
      go_wp2_with fail
      refine (emp_ref ⟨⟨_, _⟩, ⟨_, _⟩⟩ _).mono ?_
      rintro e w4 ⟨he4, hb⟩
      have HS : ∀ u v, Rg.emp ⟨⟨ak, at'⟩, ⟨mk, mt⟩⟩ = u → Rg.emp ⟨⟨nk, nt⟩, ⟨bk, bt⟩⟩ = v → Rg.subR ⟨⟨ak, at'⟩, ⟨bk, bt⟩⟩ ⟨⟨ck, ct⟩, ⟨dk, dt⟩⟩ = (if u then [] else [⟨⟨ak, at'⟩, ⟨mk, mt⟩⟩]) ++ (if v then [] else [⟨⟨nk, nt⟩, ⟨bk, bt⟩⟩]) := by
        intro u v hu hv
        unfold Rg.subR
        rw [he, HM.out, hm]
        simp only [Bool.false_eq_true, if_false]
        rw [keep_cons, keep_cons, keep_nil, List.append_nil, hu, hv]
      replace HS := fun {u v} a b => Lib.hid (HS u v a b)
      replace hI := (hI.add 34 #[.string ak, .bool at', .string mk, .bool mt]).below hb
      clear hb c0 c1 c2 f0 f1 f2
      obtain ⟨c3, f3⟩ := hI.hd
      obtain ⟨c0, f0⟩ := hI.tl.hd
      obtain ⟨c2, f2⟩ := hI.tl.tl.tl.hd
      cases h1 : Rg.emp ⟨⟨ak, at'⟩, ⟨mk, mt⟩⟩
      · rw [h1] at he4
        subst he4
        go_wp2_with (at_builtin; refine wpList_append_own _ rfl _ _ 39 rfl w.heap.size 34 i0 _ 4 48 Tryd.underlying39 hi0 hz0 hz1 hz2 rfl (by decide) _ _ _ rfl (World.ownsRow_nil _ _ _ _) ⟨w4.heap.size, 0, none⟩ 1 1 [.string ak, .bool at', .string mk, .bool mt] rfl rfl ?c1 ?c2 ?c3 ?c4 ?c5 ?_)
        case c1 =>
          have hN := Has.new w4 34 #[.string ak, .bool at', .string mk, .bool mt]
          intro j u hj
          match j, hj with
          | 0, hj => simp at hj; subst hj; exact hN.cell 0
          | 1, hj => simp at hj; subst hj; exact hN.cell 1
          | 2, hj => simp at hj; subst hj; exact hN.cell 2
          | 3, hj => simp at hj; subst hj; exact hN.cell 3
        case c2 => intro u hu; simp at hu; rcases hu with rfl | rfl | rfl | rfl <;> rfl
        case c3 => decide
        case c4 => decide
        case c5 => have := hI.1.size; simp; omega
        all_goals
          intro v w5 hown hgrow hnil
          replace hI := (hI.alloc _).below (below_of_grown hgrow)
          clear c0 c2 c3 f0 f2 f3 hgrow hnil
          obtain ⟨c0, f0⟩ := hI.tl.hd
          obtain ⟨c2, f2⟩ := hI.tl.tl.tl.hd
          go_wp2_with fail
          generalize h5 : w5.heap.size = p5 at *
          refine (emp_ref ⟨⟨_, _⟩, ⟨_, _⟩⟩ _).mono ?_
          rintro e w6 ⟨he6, hb6⟩
          have ho6 := own_below hown (((Below.refl _ _).alloc (Nat.le_refl _) _).trans (hb6.mono (by simp)))
          replace hI := (hI.add 34 #[.string nk, .bool nt, .string bk, .bool bt]).below hb6
          clear hb6
          obtain ⟨c4, f4⟩ := hI.hd
          cases h2 : Rg.emp ⟨⟨nk, nt⟩, ⟨bk, bt⟩⟩
          · rw [h2] at he6
            subst he6
            rw [h5] at *
            go_wp2_with (at_builtin; refine wpList_append_own _ rfl _ _ 39 rfl w.heap.size 34 i0 _ 4 48 Tryd.underlying39 hi0 hz0 hz1 hz2 rfl (by decide) _ _ _ rfl (own_below ho6 ((Below.refl _ _).alloc (Nat.le_refl _) _)) ⟨w6.heap.size, 0, none⟩ 1 1 [.string nk, .bool nt, .string bk, .bool bt] rfl rfl ?c1 ?c2 ?c3 ?c4 ?c5 ?_)
            case c1 =>
              have hN := Has.new w6 34 #[.string nk, .bool nt, .string bk, .bool bt]
              intro j u hj
              match j, hj with
              | 0, hj => simp at hj; subst hj; exact hN.cell 0
              | 1, hj => simp at hj; subst hj; exact hN.cell 1
              | 2, hj => simp at hj; subst hj; exact hN.cell 2
              | 3, hj => simp at hj; subst hj; exact hN.cell 3
            case c2 => intro u hu; simp at hu; rcases hu with rfl | rfl | rfl | rfl <;> rfl
            case c3 => decide
            case c4 => decide
            case c5 => have := hI.1.size; simp; omega
            all_goals
              intro v' w7 hown' hgrow hnil
              go_wp2
              go_ret
              rw [(HS h1 h2).out]
              exact ownP_mk hown' ((hI.alloc _).1.grown hgrow (by have := hI.1.size; simp; omega) (fun g hg => own_base ho6 hg))
          · rw [h2] at he6
            subst he6
            go_wp2
            go_ret
            rw [(HS h1 h2).out]
            exact ownP_mk ho6 hI.1
      · rw [h1] at he4
        subst he4
        have hown := World.ownsRow_nil w4 w.heap.size 34 4
        have hw5 : ∃ w5, w5 = w4 := ⟨_, rfl⟩
        obtain ⟨w5, rfl⟩ := hw5
        go_wp2_with fail
        generalize h5 : w5.heap.size = p5 at *
        refine (emp_ref ⟨⟨_, _⟩, ⟨_, _⟩⟩ _).mono ?_
        rintro e w6 ⟨he6, hb6⟩
        have ho6 := own_below hown (((Below.refl _ _).alloc (Nat.le_refl _) _).trans (hb6.mono (by simp)))
        replace hI := (hI.add 34 #[.string nk, .bool nt, .string bk, .bool bt]).below hb6
        clear hb6
        obtain ⟨c4, f4⟩ := hI.hd
        cases h2 : Rg.emp ⟨⟨nk, nt⟩, ⟨bk, bt⟩⟩
        · rw [h2] at he6
          subst he6
          rw [h5] at *
          go_wp2_with (at_builtin; refine wpList_append_own _ rfl _ _ 39 rfl w.heap.size 34 i0 _ 4 48 Tryd.underlying39 hi0 hz0 hz1 hz2 rfl (by decide) _ _ _ rfl (own_below ho6 ((Below.refl _ _).alloc (Nat.le_refl _) _)) ⟨w6.heap.size, 0, none⟩ 1 1 [.string nk, .bool nt, .string bk, .bool bt] rfl rfl ?c1 ?c2 ?c3 ?c4 ?c5 ?_)
          case c1 =>
            have hN := Has.new w6 34 #[.string nk, .bool nt, .string bk, .bool bt]
            intro j u hj
            match j, hj with
            | 0, hj => simp at hj; subst hj; exact hN.cell 0
            | 1, hj => simp at hj; subst hj; exact hN.cell 1
            | 2, hj => simp at hj; subst hj; exact hN.cell 2
            | 3, hj => simp at hj; subst hj; exact hN.cell 3
          case c2 => intro u hu; simp at hu; rcases hu with rfl | rfl | rfl | rfl <;> rfl
          case c3 => decide
          case c4 => decide
          case c5 => have := hI.1.size; simp; omega
          all_goals
            intro v' w7 hown' hgrow hnil
            go_wp2
            go_ret
            rw [(HS h1 h2).out]
            exact ownP_mk hown' ((hI.alloc _).1.grown hgrow (by have := hI.1.size; simp; omega) (fun g hg => own_base ho6 hg))
        · rw [h2] at he6
          subst he6
          go_wp2
          go_ret
          rw [(HS h1 h2).out]
          exact ownP_mk ho6 hI.1
    · rw [hm] at he3
      subst he3
      go_wp2
      go_ret
      have HS : Rg.subR ⟨⟨ak, at'⟩, ⟨bk, bt⟩⟩ ⟨⟨ck, ct⟩, ⟨dk, dt⟩⟩ = [⟨⟨ak, at'⟩, ⟨bk, bt⟩⟩] := by unfold Rg.subR; rw [he, HM.out, hm]; rfl
      rw [HS]
      exact ownP_mk (World.ownsRow_lit w3 _ 1 hI.1.size (by decide) rfl) (hI.1.alloc hI.1.size _)
  · go_enter Tryd.func51, Tryd.ntmps51
    go_wp2_with fail
    refine (emp_ref ⟨⟨_, _⟩, ⟨_, _⟩⟩ _).mono ?_
    rintro e w1 ⟨rfl, hb⟩
    replace hI := hI.below hb
    go_wp2
    go_ret
    have HS : Rg.subR ⟨⟨ak, at'⟩, ⟨bk, bt⟩⟩ ⟨⟨ck, ct⟩, ⟨dk, dt⟩⟩ = [] := by unfold Rg.subR; rw [he]; rfl
    rw [HS]
    exact ownP_mk (own_nil _ _) hI.1
end Go.Proofs.YthcgigbgkbjfoaaDoor
