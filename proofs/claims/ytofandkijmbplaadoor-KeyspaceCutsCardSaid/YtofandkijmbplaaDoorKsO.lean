/-
  Tiles of the reference: what it answers for whatever ranges, in every world in which the list can be read; it only makes memory. Condition: the list's cells lie below the call's own memory.
-/
import Derived.Test.YtofandkijmbplaaDoorKsE
import Derived.Deep.RegionHeld3
namespace Go.Proofs.YtofandkijmbplaaDoor
open Go.RowKit

theorem cells_below {w w' : World} {b o : Nat} {u1 u2 u3 u4 : Value} (hb : b < w.heap.size) (h : w.cell? ⟨b, o, none⟩ = some u1 ∧ w.cell? ⟨b, o + 1, none⟩ = some u2 ∧ w.cell? ⟨b, o + 2, none⟩ = some u3 ∧ w.cell? ⟨b, o + 3, none⟩ = some u4) (k : Below w.heap.size w w') :
    w'.cell? ⟨b, o, none⟩ = some u1 ∧ w'.cell? ⟨b, o + 1, none⟩ = some u2 ∧ w'.cell? ⟨b, o + 2, none⟩ = some u3 ∧ w'.cell? ⟨b, o + 3, none⟩ = some u4 :=
  ⟨(k.cell (p := ⟨b, o, none⟩) hb).trans h.1, (k.cell (p := ⟨b, o + 1, none⟩) hb).trans h.2.1, (k.cell (p := ⟨b, o + 2, none⟩) hb).trans h.2.2.1, (k.cell (p := ⟨b, o + 3, none⟩) hb).trans h.2.2.2⟩

theorem tileK_emp {x : Rg} {pos fin : Bd} (h : x.emp = true) : tileK x pos fin = 1 := by unfold tileK; rw [h]; rfl
theorem tileK_gap {x : Rg} {pos fin : Bd} (h : x.emp = false) (h1 : 0 < x.lo.cmp pos) : tileK x pos fin = 9 := by unfold tileK; rw [h]; simp only [Bool.false_eq_true, if_false]; rw [if_pos h1]
theorem tileK_over {x : Rg} {pos fin : Bd} (h : x.emp = false) (h1 : x.lo.cmp pos < 0) : tileK x pos fin = 10 := by unfold tileK; rw [h]; simp only [Bool.false_eq_true, if_false]; rw [if_neg (by omega), if_pos h1]
theorem tileK_range {x : Rg} {pos fin : Bd} (h : x.emp = false) (h1 : x.lo.cmp pos = 0) (h2 : 0 < x.hi.cmp fin) : tileK x pos fin = 2 := by unfold tileK; rw [h]; simp only [Bool.false_eq_true, if_false]; rw [if_neg (by omega), if_neg (by omega), if_pos h2]
theorem tileK_ok {x : Rg} {pos fin : Bd} (h : x.emp = false) (h1 : x.lo.cmp pos = 0) (h2 : x.hi.cmp fin ≤ 0) : tileK x pos fin = 0 := by unfold tileK; rw [h]; simp only [Bool.false_eq_true, if_false]; rw [if_neg (by omega), if_neg (by omega), if_neg (by omega)]

set_option maxHeartbeats 3200000 in
theorem tiles_ref (l : List Rg) (r : Rg) (A : Option Addr) (c : Nat) (w : World) (hl : Rgs w w.heap.size A l) (hc : l.length ≤ c) (hm : c ≤ maxLen) :
    Calls Tryd.prog 27 #[.slice A l.length c, r.val] w (TilesP l r w) := by
  unfold maxLen at hm
  obtain ⟨⟨ak, at'⟩, ⟨bk, bt⟩⟩ := r
  have hI := ((Inv.nil w).add 30 #[.string ak, .bool at', .string bk, .bool bt])
  cases he : Rg.ok ⟨⟨ak, at'⟩, ⟨bk, bt⟩⟩
  · go_enter Tryd.func27, Tryd.ntmps27
    go_wp2_with ((go_at_call 65; refine (rok_ref ⟨⟨_, _⟩, ⟨_, _⟩⟩ _).mono ?_; rintro e w1 ⟨rfl, hb1⟩; replace hI := hI.below hb1; clear hb1; obtain ⟨c0, f0⟩ := hI.hd))
    go_ret2
    exact tilesP_mk (by unfold tilesK; rw [he]; rfl) (by unfold tilesK; rw [he]; rfl) hI.1
  · have HT := Lib.hid (show tilesK l ⟨⟨ak, at'⟩, ⟨bk, bt⟩⟩ = tilesF l 0 ⟨ak, at'⟩ ⟨bk, bt⟩ by unfold tilesK; rw [he]; rfl)
    go_enter Tryd.func27, Tryd.ntmps27
    go_wp2_with ((go_at_call 65; refine (rok_ref ⟨⟨_, _⟩, ⟨_, _⟩⟩ _).mono ?_; rintro e w1 ⟨rfl, hb1⟩; replace hI := hI.below hb1; clear hb1; obtain ⟨c0, f0⟩ := hI.hd))
    have hp : w.heap.size < w1.heap.size := (hI.2 _ (.head _)).lt
    replace hI := hI.add 28 #[.string ak, .bool at']
    generalize w1.heap.size = p at *
    clear c0 f0
    have hne : ∀ pos : Bd, ∀ q ∈ [(w.heap.size, 30, #[Value.string ak, Value.bool at', Value.string bk, Value.bool bt])], q.1 ≠ p := by intro _; simp; omega

    go_loopw [7] (fun i wr => ∃ (k : Nat) (pos : Bd), k ≤ l.length ∧ i = .int .i64 k ∧ Inv w [(p, 28, #[Value.string pos.key, Value.bool pos.top]), (w.heap.size, 30, #[Value.string ak, Value.bool at', Value.string bk, Value.bool bt])] wr ∧ Hid (tilesF (l.drop k) k pos ⟨bk, bt⟩ = tilesF l 0 ⟨ak, at'⟩ ⟨bk, bt⟩)) (fun i _ => l.length - (intOf i).toNat)
    case atStart => exact ⟨0, ⟨ak, at'⟩, Nat.zero_le _, rfl, hI, Lib.hid rfl⟩
    case round =>
      clear hI
      obtain ⟨k, ⟨pk, pt⟩, hk, rfl, hI, HP⟩ := hrel
      obtain ⟨cp, fp⟩ := hI.hd
      obtain ⟨cr, fr⟩ := hI.tl.hd
      by_cases hlt : k < l.length
      · obtain ⟨b, o, hA, hb, hcell⟩ := hl (by intro e; rw [e] at hlt; simp at hlt)
        subst hA
        obtain ⟨h1, h2, h3, h4⟩ := hcell k hlt
        have HX := Lib.hid (tilesF_at hlt k ⟨pk, pt⟩ ⟨bk, bt⟩)
        generalize l[k] = x at *
        obtain ⟨⟨xk, xt⟩, ⟨yk, yt⟩⟩ := x
        simp only at h1 h2 h3 h4
        clear hcell
        have hcl : ∀ wx, Inv w [(p, 28, #[Value.string pk, Value.bool pt]), (w.heap.size, 30, #[Value.string ak, Value.bool at', Value.string bk, Value.bool bt])] wx → wx.cell? ⟨b, o + k * 4, none⟩ = some (.string xk) ∧ wx.cell? ⟨b, o + k * 4 + 1, none⟩ = some (.bool xt) ∧ wx.cell? ⟨b, o + k * 4 + 2, none⟩ = some (.string yk) ∧ wx.cell? ⟨b, o + k * 4 + 3, none⟩ = some (.bool yt) := fun wx hx => cells_below hb ⟨h1, h2, h3, h4⟩ hx.1
        clear h1 h2 h3 h4
        have r1 := fun (w' : World) (h : Inv w [(p, 28, #[Value.string pk, Value.bool pt]), (w.heap.size, 30, #[Value.string ak, Value.bool at', Value.string bk, Value.bool bt])] w') => h.hd.1
        have r2 := fun (w' : World) (h : Inv w [(p, 28, #[Value.string pk, Value.bool pt]), (w.heap.size, 30, #[Value.string ak, Value.bool at', Value.string bk, Value.bool bt])] w') => h.tl.hd.1
        simp only at r1 r2
        obtain ⟨x1, x2, x3, x4⟩ := hcl _ hI
        have i0 : (0 : Int) ≤ (k : Int) := by omega
        have i1 : (k : Int) < (l.length : Int) := by omega
        cases he : Rg.emp ⟨⟨xk, xt⟩, ⟨yk, yt⟩⟩
        · have HM := Lib.hid he
          go_wp2_with (go_at_call 32; refine (emp_ref ⟨⟨_, _⟩, ⟨_, _⟩⟩ _).mono ?_; rintro e w2 ⟨he2, hb2⟩; rw [HM.out] at he2; subst he2; replace hI := hI.below hb2; clear hb2)
          clear x1 x2 x3 x4 cp fp cr fr
          go_region_held3 (fun w' => Inv w [(p, 28, #[Value.string pk, Value.bool pt]), (w.heap.size, 30, #[Value.string ak, Value.bool at', Value.string bk, Value.bool bt])] w') (first | with_reducible exact hS1 | with_reducible exact hI.drew | with_reducible assumption) ((go_at_call 33; refine (cmp_ref ⟨_, _⟩ ⟨_, _⟩ _).mono ?_; rintro e w2 ⟨rfl, hb2⟩; have hS1 := Inv.below ‹_› hb2; clear hb2))
          clear hI
          have hI := hS1
          clear hS1
          go_wp2_with fail
          · go_ret2
            have hT : tileK ⟨⟨xk, xt⟩, ⟨yk, yt⟩⟩ ⟨pk, pt⟩ ⟨bk, bt⟩ = _ := tileK_gap HM.out (by omega)
            have hZ : tilesK l ⟨⟨ak, at'⟩, ⟨bk, bt⟩⟩ = (k, 9) := by rw [HT.out, ← HP.out, HX.out, hT]; rfl
            exact tilesP_mk (by rw [hZ]) (by rw [hZ]) hI.1
          · go_region_held3 (fun w' => Inv w [(p, 28, #[Value.string pk, Value.bool pt]), (w.heap.size, 30, #[Value.string ak, Value.bool at', Value.string bk, Value.bool bt])] w') (first | with_reducible exact hS1 | with_reducible exact hI.drew | with_reducible assumption) ((go_at_call 33; refine (cmp_ref ⟨_, _⟩ ⟨_, _⟩ _).mono ?_; rintro e w2 ⟨rfl, hb2⟩; have hS1 := Inv.below ‹_› hb2; clear hb2))
            clear hI
            have hI := hS1
            clear hS1
            go_wp2_with fail
            · go_ret2
              have hT : tileK ⟨⟨xk, xt⟩, ⟨yk, yt⟩⟩ ⟨pk, pt⟩ ⟨bk, bt⟩ = _ := tileK_over HM.out (by omega)
              have hZ : tilesK l ⟨⟨ak, at'⟩, ⟨bk, bt⟩⟩ = (k, 10) := by rw [HT.out, ← HP.out, HX.out, hT]; rfl
              exact tilesP_mk (by rw [hZ]) (by rw [hZ]) hI.1
            · go_region_held3 (fun w' => Inv w [(p, 28, #[Value.string pk, Value.bool pt]), (w.heap.size, 30, #[Value.string ak, Value.bool at', Value.string bk, Value.bool bt])] w') (first | with_reducible exact hS1 | with_reducible exact hI.drew | with_reducible assumption) ((go_at_call 33; refine (cmp_ref ⟨_, _⟩ ⟨_, _⟩ _).mono ?_; rintro e w2 ⟨rfl, hb2⟩; have hS1 := Inv.below ‹_› hb2; clear hb2))
              clear hI
              have hI := hS1
              clear hS1
              have hpl := (hI.2 _ (.head _)).lt
              have hwl := (hI.2 _ (.tail _ (.head _))).lt
              simp only at hpl hwl
              obtain ⟨x1, x2, x3, x4⟩ := hcl _ hI
              obtain ⟨cp, fp⟩ := hI.hd
              obtain ⟨cr, fr⟩ := hI.tl.hd
              simp only at cp fp cr fr
              have f0 := fp 0
              have f1 := fp 1
              clear hcl r1 r2
              go_wp2_with fail
              · go_ret2
                have hT : tileK ⟨⟨xk, xt⟩, ⟨yk, yt⟩⟩ ⟨pk, pt⟩ ⟨bk, bt⟩ = _ := tileK_range HM.out (show Bd.cmp ⟨xk, xt⟩ ⟨pk, pt⟩ = 0 by omega) (by omega)
                have hZ : tilesK l ⟨⟨ak, at'⟩, ⟨bk, bt⟩⟩ = (k, 2) := by rw [HT.out, ← HP.out, HX.out, hT]; rfl
                exact tilesP_mk (by rw [hZ]) (by rw [hZ]) hI.1
              · have hT := Lib.hid (tileK_ok HM.out (show Bd.cmp ⟨xk, xt⟩ ⟨pk, pt⟩ = 0 by omega) (show Bd.cmp ⟨yk, yt⟩ ⟨bk, bt⟩ ≤ 0 by omega))
                go_roundw
                case rel => exact ⟨k + 1, ⟨yk, yt⟩, hlt, by go_num, hI.put2 (by omega) (hne ⟨yk, yt⟩), Lib.hid (by rw [← HP.out, HX.out, if_pos hT.out])⟩
                case measure => simp [intOf]; omega
        · have HM := Lib.hid he
          go_wp2_with (first | (go_at_call 32; refine (emp_ref ⟨⟨_, _⟩, ⟨_, _⟩⟩ _).mono ?_; rintro e w2 ⟨he2, hb2⟩; rw [HM.out] at he2; subst he2; replace hI := hI.below hb2; clear hb2))
          go_ret2
          have hZ : tilesK l ⟨⟨ak, at'⟩, ⟨bk, bt⟩⟩ = (k, 1) := by rw [HT.out, ← HP.out, HX.out, tileK_emp HM.out]; rfl
          exact tilesP_mk (by rw [hZ]) (by rw [hZ]) hI.1
      · have hkl : k = l.length := by omega
        have HE := Lib.hid (tilesF_end (l := l) (n := k) (by omega) k ⟨pk, pt⟩ ⟨bk, bt⟩)
        have HK := Lib.hid hkl
        clear hkl
        go_wp2_with ((go_at_call 33; refine (cmp_ref ⟨_, _⟩ ⟨_, _⟩ _).mono ?_; rintro e w1 ⟨rfl, hb1⟩; replace hI := hI.below hb1; clear hb1; obtain ⟨c0, f0⟩ := hI.hd; obtain ⟨c1, f1⟩ := hI.tl.hd))
        all_goals
          go_ret2
          have hT := HT.out.trans (HP.out.symm.trans HE.out)
          by_cases h9 : Bd.cmp ⟨pk, pt⟩ ⟨bk, bt⟩ < 0
          · rw [if_pos h9] at hT
            first
              | (exfalso; omega)
              | exact tilesP_mk (by rw [hT]; exact congrArg (fun x : Nat => (x : Int)) HK.out) (by rw [hT]) hI.1
          · rw [if_neg h9] at hT
            first
              | (exfalso; omega)
              | exact tilesP_mk (by rw [hT]; exact congrArg (fun x : Nat => (x : Int)) HK.out) (by rw [hT]) hI.1

end Go.Proofs.YtofandkijmbplaaDoor
