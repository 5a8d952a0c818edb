/-
  The walk of KeyspaceCuts: from whatever arguments it answers true and only makes memory. Conditions: 'letters' holds six strings of one byte; the first argument reads as a slice of ints.
-/
import Derived.Test.YtofandkijmbplaaDoorKtF
import Derived.Deep.RegionLawGrows
import Derived.Deep.DeepCutAuto
import Derived.Deep.QuietTactic
import Derived.BigQuiet
namespace Go.Proofs.YtofandkijmbplaaDoor
open Go.RowKit

theorem Cel.drew' {w : World} {b : Nat} {x : Rg} (h : Cel w b x) : Cel w.drew b x := h
theorem tiles_key9 (l : List Rg) (N : Nat) (r : Rg) (A : Option Addr) (c : Nat) (w : World) (hN : N = l.length) (hl : Rgs w w.heap.size A l) (hc : N ≤ c) (hm : c ≤ maxLen) :
    Calls Tryd.prog 26 #[.slice A N c, r.val] w (TilesP l r w) := by subst hN; exact tiles_key l r A c w hl hc hm
theorem own_uno {w : World} {base : Nat} {v : Value} {r : Rg} (h : w.ownsRow base 30 4 v [r].length (flat [r])) : ∃ G cap, v = .slice (some ⟨G, 0, none⟩) 1 cap ∧ 1 ≤ cap ∧ Cel w G r := by
  obtain ⟨G, cap, cur, rfl, _, hb, h1, _, ht⟩ := own_row h rfl (by simp)
  obtain ⟨x1, x2, x3, x4⟩ := row_cells hb (row_of_take ht) (n := 0) (by simp)
  exact ⟨G, cap, rfl, h1, Has.lt hb, x1, x2, x3, x4⟩
theorem rgs_named {w : World} {base n : Nat} {v : Value} {a b : List Rg} (h : w.ownsRow base 30 4 v n (flat a ++ flat b)) (hn : n = (a ++ b).length) : ∃ (N : Nat) (A : Option Addr) (c : Nat), v = .slice A N c ∧ Hid (N = (a ++ b).length) ∧ N ≤ c ∧ c ≤ maxLen ∧ Rgs w w.heap.size A (a ++ b) := by
  subst hn
  rw [← flat_append] at h
  obtain ⟨A, c, h1, h2, h3, h4⟩ := own_rgs5 h
  exact ⟨_, A, c, h1, Lib.hid rfl, h2, h3, h4⟩
theorem rgs_named3 {w : World} {base n : Nat} {v : Value} {a b : List Rg} {y : Rg} (h : w.ownsRow base 30 4 v n (flat a ++ [.string y.lo.key, .bool y.lo.top, .string y.hi.key, .bool y.hi.top] ++ flat b)) (hn : n = (a ++ [y] ++ b).length) : ∃ (N : Nat) (A : Option Addr) (c : Nat), v = .slice A N c ∧ Hid (N = (a ++ [y] ++ b).length) ∧ N ≤ c ∧ c ≤ maxLen ∧ Rgs w w.heap.size A (a ++ [y] ++ b) := by
  rw [← flat_snoc] at h
  exact rgs_named h hn

set_option maxRecDepth 100000 in
set_option maxHeartbeats 6400000 in
theorem cuts_walk (A : Option Addr) (n0 cp : Nat) (w : World) (hl : Lets w) (hw : 0 < w.heap.size) (hnc : n0 ≤ cp) (hc : cp ≤ maxLen) (hN : Nums w w.heap.size A n0) :
    Calls Tryd.prog 6 #[.slice A n0 cp] w (LawP w) := by
  obtain ⟨i0, hi0, hz0, hz1, hz2⟩ := info_parts infoRange
  go_enter Tryd.func6, Tryd.ntmps6
  go_wp2_with fail
  refine (new_any A n0 cp _ hl hw hnc hc hN).mono ?_
  rintro e w1 ⟨g, hg1, rfl, hT, hb⟩
  have hA : At w [] g w1 := ⟨(Inv.nil w).below hb, hT⟩
  clear hb hT hl hN hnc hc
  go_wp2_with fail
  refine (range_any g _ hA.2).mono ?_
  rintro e w2 ⟨r, _, _, rfl, hst⟩
  replace hA := hA.step hst hg1 (fun _ h => by cases h)
  clear hst
  have hB := hA.1.1.size
  have hgB := hA.2.lt
  replace hA := hA.add 30 #[Value.string r.lo.key, Value.bool r.lo.top, Value.string r.hi.key, Value.bool r.hi.top]
  generalize hBB : w2.heap.size = B at hA hB hgB
  obtain ⟨ev, hev⟩ : ∃ ev, r.emp = ev := ⟨_, rfl⟩
  have HE := Lib.hid hev
  have hneB : ∀ q ∈ [(B, 30, #[Value.string r.lo.key, Value.bool r.lo.top, Value.string r.hi.key, Value.bool r.hi.top])], q.1 ≠ g := by (simp; omega)
  cases ev
  · clear hev
    go_wp2_with (go_at_call 32; (with_reducible refine (emp_ref r _).mono ?_); rintro e w5 ⟨he5, hb5⟩; rw [HE.out] at he5; subst he5; replace hA := hA.below hb5; clear hb5; (try clear c0 f0); obtain ⟨c0, f0⟩ := hA.1.hd; simp only at c0 f0)
    have hg5 := hA.2.lt
    refine (pieces_any r g _ hA.2).mono ?_
    rintro e w3 ⟨l, v, hl1, hl5, hch, rfl, hown, hst⟩
    have HCH := Lib.hid (hch HE.out)
    replace hA := hA.step hst hg1 hneB
    have hw3 := hst.2.size
    have hBs := (hA.1.2 _ (.head _)).lt
    clear hst hch c0 f0
    have hgw := hA.2.lt
    obtain ⟨G, cap, cur, rfl, hG, hblk, hlcap, hcapm, htk⟩ := own_row hown rfl (by omega)
    have hGlt := Has.lt hblk
    have hGg : G ≠ g := by omega
    have hcapm' := hcapm
    unfold maxLen at hcapm
    have HTK := Lib.hid htk
    have hR := rgs_of_row hblk (row_of_take htk)
    have HC0 := Lib.hid (cuts HE.out HCH.out (i := 0) (by omega))
    clear htk hown
    have HB := Lib.hid hblk
    clear hblk
    obtain ⟨c0, f0⟩ := hA.1.hd
    simp only at c0 f0
    go_wp2_with (first | (go_at_call 26; refine (tiles_key l r _ _ _ hR hlcap hcapm').mono ?_; rintro e w5 ⟨he5, hb5⟩; rw [HC0.out.all] at he5; subst he5; replace hR := rgs_on hR hb5; replace HB := Lib.hid (Has.below HB.out hb5); replace hA := hA.below hb5; clear hb5; (try clear c0 f0); obtain ⟨c0, f0⟩ := hA.1.hd; simp only at c0 f0) | (go_at_call 19; refine (union_key l _ _ _ hR (by omega) hlcap hcapm').mono ?_; rintro e w5 ⟨u, hu, v6, rfl, ho6, hb5⟩; obtain rfl := HC0.out.uni u hu; obtain ⟨G1, k1, rfl, g1, CU⟩ := own_uno ho6; obtain ⟨y1, y2, y3, y4⟩ := CU.2; replace hR := rgs_on hR hb5; replace HB := Lib.hid (Has.below HB.out hb5); clear ho6 hu; replace hA := hA.below hb5; clear hb5; (try clear c0 f0); obtain ⟨c0, f0⟩ := hA.1.hd; simp only at c0 f0))
    clear y1 y2 y3 y4 c0 f0
    have r0 := fun (wz : World) (h : At w [(B, 30, #[Value.string r.lo.key, Value.bool r.lo.top, Value.string r.hi.key, Value.bool r.hi.top])] g wz) => h.1.hd.1
    have r5 := fun (wz : World) (h : Cel wz G1 r) => h.2
    simp only at r0
    go_region_held3 (fun wz => At w [(B, 30, #[Value.string r.lo.key, Value.bool r.lo.top, Value.string r.hi.key, Value.bool r.hi.top])] g wz ∧ Cel wz G1 r) (first | with_reducible exact ⟨hA.drew, CU⟩ | exact ⟨hA.drew, CU.drew'⟩ | with_reducible assumption) (fail)
    go_wp2_with fail
    replace hA := hA.drew
    replace HB : Hid (Has w5.drew G 30 cur) := HB
    clear CU r0 r5
    refine (next_any g _ _ hA.2 (by omega)).mono ?_
    rintro e w6 ⟨q, q0, q1, rfl, hst⟩
    have hq : q < l.length := by omega
    obtain ⟨n, rfl⟩ := Int.eq_ofNat_of_zero_le q0
    have hHas : Hid (Has w6 G 30 cur) := Lib.hid (hst.blk HB.out hGg)
    replace hA := hA.step hst hg1 hneB
    clear hst HB q0 q1
    obtain ⟨y, hy⟩ : ∃ y, y = l[n]'(by omega) := ⟨_, rfl⟩
    have HC := Lib.hid (cuts HE.out HCH.out (i := n) (by omega))
    rw [← hy] at HC
    have HY := Lib.hid hy
    clear hy
    have c0 : (0 : Int) ≤ (n : Int) := by omega
    have c1' : (n : Int) ≤ (l.length : Int) := by omega
    have c2 : (n : Int) + 1 ≤ (l.length : Int) := by omega
    have c3 : (n : Int) ≤ (cap : Int) := by omega
    have c4 : (l.length : Int) ≤ (cap : Int) := by omega
    have c5 : (n : Int) + 1 ≤ (cap : Int) := by omega
    have c6 : (n : Int) < (l.length : Int) := by omega
    go_upto_region 11 with fail
    go_cut [10] (fun s10 wx => ∃ (N : Nat) (A' : Option Addr) (c' : Nat), s10 = .slice A' N c' ∧ Hid (N = (l.take n ++ l.drop (n + 1)).length) ∧ N ≤ c' ∧ c' ≤ maxLen ∧ At w [(B, 30, #[Value.string r.lo.key, Value.bool r.lo.top, Value.string r.hi.key, Value.bool r.hi.top])] g wx ∧ Hid (Has wx G 30 cur) ∧ Rgs wx wx.heap.size A' (l.take n ++ l.drop (n + 1)))
    case first =>
      by_cases hlast : n + 1 = l.length
      · by_cases hcap : cap = n + 1
        · subst hcap
          have d9 : (n : Int) ≤ (n : Int) + 1 := by omega
          have p3 : ([] : List Value).length = 0 * 4 := by simp <;> omega
          have p4 : n + 0 ≤ n := by omega
          have p6 := Lib.hid (show n + 0 = n by omega)
          have hdr : l.take n ++ l.drop (n + 1) = l.take n := by rw [List.drop_eq_nil_of_le (by omega), List.append_nil]
          have hR' : Rgs w6.drew w6.drew.heap.size (some ⟨G, 0, none⟩) (l.take n ++ l.drop (n + 1)) := by rw [hdr]; exact rgs_of_row (w := w6.drew) hHas.out (row_take (row_of_take HTK.out) n)
          have HLN := Lib.hid (show n = (l.take n ++ l.drop (n + 1)).length by rw [hdr, List.length_take]; omega)
          have hnm9 := Lib.hid (show n ≤ maxLen by unfold maxLen; omega)
          clear hdr hlast
          have e2 : (0 : Int) ≤ (n : Int) + 1 := by omega
          have e3 : ((n : Int) + 1).toNat = n + 1 := by omega
          have e1 : IntKind.i64.wrap ((n : Int) + 1) = (n : Int) + 1 := IntWalk.i64_in _ (by omega)
          go_region_law ((refine step_append_room rfl (.tmp 61) (.tmp 65) 23 (by rfl) 30 i0 4 Tryd.underlying23 hi0 hz1 G 0 n n (by simp [Act.eval, Act.put]) ⟨G, 0, none⟩ 0 0 [] (by simp [Act.eval, Act.put]) p3 (fun j u h => by simp at h) (fun u h => by cases h) p4 (fun j h => by simp at h) ?_; rw [p6.out]))
          clear e1 e2 e3
          simp only [World.setCells]
          go_wp2_with fail
          go_meet
          exact ⟨_, _, _, rfl, HLN, Nat.le_refl _, hnm9.out, hA.drew, hHas, hR'⟩
        · have d9 : (n : Int) ≤ (n : Int) + 1 := by omega
          have p3 : ([] : List Value).length = (l.length - (n + 1)) * 4 := by simp <;> omega
          have p4 : n + (l.length - (n + 1)) ≤ n := by omega
          have p6 := Lib.hid (show n + (l.length - (n + 1)) = n by omega)
          have hdr : l.take n ++ l.drop (n + 1) = l.take n := by rw [List.drop_eq_nil_of_le (by omega), List.append_nil]
          have hR' : Rgs w6.drew w6.drew.heap.size (some ⟨G, 0, none⟩) (l.take n ++ l.drop (n + 1)) := by rw [hdr]; exact rgs_of_row (w := w6.drew) hHas.out (row_take (row_of_take HTK.out) n)
          have HLN := Lib.hid (show n = (l.take n ++ l.drop (n + 1)).length by rw [hdr, List.length_take]; omega)
          have hnm9 := Lib.hid (show n ≤ maxLen by unfold maxLen; omega)
          clear hdr hlast
          have e2 : (0 : Int) ≤ (n : Int) + 1 := by omega
          have e3 : ((n : Int) + 1).toNat = n + 1 := by omega
          have e1 : IntKind.i64.wrap ((n : Int) + 1) = (n : Int) + 1 := IntWalk.i64_in _ (by omega)
          go_region_law ((refine step_append_room rfl (.tmp 61) (.tmp 65) 23 (by rfl) 30 i0 4 Tryd.underlying23 hi0 hz1 G 0 n n (by simp [Act.eval, Act.put]) ⟨G, (n + 1) * 4, none⟩ (l.length - (n + 1)) (cap - (n + 1)) [] (by simp [Act.eval, Act.put]) p3 (fun j u h => by simp at h) (fun u h => by cases h) p4 (fun j h => by simp at h) ?_; rw [p6.out]))
          clear e1 e2 e3
          simp only [World.setCells]
          go_wp2_with fail
          go_meet
          exact ⟨_, _, _, rfl, HLN, Nat.le_refl _, hnm9.out, hA.drew, hHas, hR'⟩
      · have d1 : ¬ cap = n + 1 := by omega
        have p1 : n ≤ l.length := by omega
        have p2 : n + 1 ≤ l.length := by omega
        have p3 : n < n + (l.length - (n + 1)) := by omega
        have p4 : n + (l.length - (n + 1)) ≤ maxLen := by unfold maxLen; omega
        have p5 : (n + (l.length - (n + 1))) * 48 ≤ 140737488355328 := by omega
        have p6 := Lib.hid (show n + (l.length - (n + 1)) = (l.take n ++ l.drop (n + 1)).length by rw [List.length_append, List.length_take, List.length_drop]; omega)
        have e2 : (0 : Int) ≤ (n : Int) + 1 := by omega
        have e3 : ((n : Int) + 1).toNat = n + 1 := by omega
        have e1 : IntKind.i64.wrap ((n : Int) + 1) = (n : Int) + 1 := IntWalk.i64_in _ (by omega)
        go_region_law ((refine step_append_grows rfl (.tmp 61) (.tmp 65) 23 (by rfl) 30 i0 _ 4 48 Tryd.underlying23 hi0 hz0 hz1 hz2 rfl (by decide) (some ⟨G, 0, none⟩) n n (flat (l.take n)) (by simp [Act.eval, Act.put]) (fun e => by cases e) (flat_take_len p1) (fun b e => by (cases e; exact cells_take (w := w6.drew) hHas.out HTK.out p1)) ⟨G, (n + 1) * 4, none⟩ (l.length - (n + 1)) (cap - (n + 1)) (flat (l.drop (n + 1))) (by simp [Act.eval, Act.put]) flat_drop_len (cells_drop (w := w6.drew) hHas.out HTK.out p2) (flat_ones _) p3 p4 p5 ?_; intro v' wx hown' hgrow; obtain ⟨N, A', c', rfl, hN, hlc', hcm', hR'⟩ := rgs_named hown' p6.out))
        clear e1 e2 e3
        go_wp2_with fail
        go_meet
        exact ⟨_, _, _, rfl, hN, hlc', hcm', hA.drew.below (blw_grown hgrow), Lib.hid (has_grown (w := w6.drew) hHas.out hgrow), hR'⟩
    case rest =>
      obtain ⟨N, A', c', rfl, hN, hlc', hcm', hA2, hHas2, hR'⟩ := hcut
      clear hA hHas
      have hA := hA2
      have hHas := hHas2
      clear hA2 hHas2
      have d1 : ¬ cap = n := by omega
      have p1 : n ≤ l.length := by omega
      have p3 : n < n + 1 := by omega
      have p4 : n + 1 ≤ maxLen := by unfold maxLen; omega
      have p5 : (n + 1) * 48 ≤ 140737488355328 := by omega
      have q4 : n + 1 + (l.length - n) ≤ maxLen := by unfold maxLen; omega
      have q5 : (n + 1 + (l.length - n)) * 48 ≤ 140737488355328 := by omega
      have q6 := Lib.hid (show n + 1 + (l.length - n) = (l.take n ++ [y] ++ l.drop n).length by rw [List.length_append, List.length_append, List.length_take, List.length_drop]; simp; omega)
      obtain ⟨x1, x2, x3, x4⟩ := row_cells hHas.out (row_of_take HTK.out) (n := n) (by omega)
      rw [← HY.out] at x1 x2 x3 x4
      go_wp2_with fail
      go_region_law (first | (refine step_append_grows rfl (.tmp 70) (.tmp 75) 23 (by rfl) 30 i0 _ 4 48 Tryd.underlying23 hi0 hz0 hz1 hz2 rfl (by decide) (some ⟨G, 0, none⟩) n n (flat (l.take n)) (by simp [Act.eval]) (fun e => by cases e) (flat_take_len p1) (fun b e => by (cases e; exact cells_take (w := wc.drew.alloc (.cells #[Value.string y.lo.key, Value.bool y.lo.top, Value.string y.hi.key, Value.bool y.hi.top] 30)) (Has.alloc (w := wc.drew) hHas.out _) HTK.out p1)) ⟨wc.drew.heap.size, 0, none⟩ 1 1 [.string y.lo.key, .bool y.lo.top, .string y.hi.key, .bool y.hi.top] (by simp [Act.eval]) rfl (news4 wc.drew _ _ _ _ _) (ones4 _ _ _ _) p3 p4 p5 ?_; intro v' wa hown' hgrow) | (refine step_append_ownv rfl (.tmp 76) (.tmp 79) 23 (by rfl) _ 30 i0 _ 4 48 Tryd.underlying23 hi0 hz0 hz1 hz2 rfl (by decide) v' (n + 1) (flat (l.take n) ++ [.string y.lo.key, .bool y.lo.top, .string y.hi.key, .bool y.hi.top]) (by simp [Act.eval]) hown' ⟨G, n * 4, none⟩ (l.length - n) (cap - n) (flat (l.drop n)) (by simp [Act.eval]) flat_drop_len (cells_drop (has_grown (Has.alloc (w := wc.drew) hHas.out (.cells #[Value.string y.lo.key, Value.bool y.lo.top, Value.string y.hi.key, Value.bool y.hi.top] 30)) hgrow) HTK.out p1) (flat_ones _) q4 q5 hgrow.size ?_; intro v'' wx hown'' hgrow' _; obtain ⟨N2, A2, c2, rfl, hN2, hlc2, hcm2, hR2⟩ := rgs_named3 hown'' q6.out))
      have hBW : Below (wc.drew.alloc (.cells #[Value.string y.lo.key, Value.bool y.lo.top, Value.string y.hi.key, Value.bool y.hi.top] 30)).heap.size (wc.drew.alloc (.cells #[Value.string y.lo.key, Value.bool y.lo.top, Value.string y.hi.key, Value.bool y.hi.top] 30)) wx := (blw_grown hgrow).grown hgrow' hgrow.size (fun i hi => own_base hown' hi)
      replace hA := (hA.drew.alloc (.cells #[Value.string y.lo.key, Value.bool y.lo.top, Value.string y.hi.key, Value.bool y.hi.top] 30)).below hBW
      replace hR' := rgs_on hR' (show Below wc.heap.size wc wx from ((Below.refl _ _).drew.alloc (Nat.le_refl _) (.cells #[Value.string y.lo.key, Value.bool y.lo.top, Value.string y.hi.key, Value.bool y.hi.top] 30)).trans (hBW.mono (by simp)))
      clear hgrow hgrow' hown' hown'' x1 x2 x3 x4 hBW d1
      obtain ⟨c0, f0⟩ := hA.1.hd
      simp only at c0 f0
      go_wp2_with (first | (go_at_call 26; (with_reducible refine (tiles_key9 (l.take n ++ l.drop (n + 1)) N r A' c' _ hN.out hR' hlc' hcm').mono ?_); rintro e w8 ⟨he8, hb8⟩; rw [HC.out.out] at he8; subst he8; replace hA := hA.below hb8; replace hR2 := rgs_on hR2 hb8; clear hb8 c0 f0; obtain ⟨c0, f0⟩ := hA.1.hd; simp only at c0 f0) | (go_at_call 26; (with_reducible refine (tiles_key9 (l.take n ++ [y] ++ l.drop n) N2 r A2 c2 _ hN2.out hR2 hlc2 hcm2).mono ?_); rintro e w8 ⟨he8, hb8⟩; rw [HC.out.twice] at he8; subst he8; replace hA := hA.below hb8; clear hb8 c0 f0; obtain ⟨c0, f0⟩ := hA.1.hd; simp only at c0 f0) | (go_at_call 23; (with_reducible refine (sane_any _).mono ?_); rintro e w5 ⟨rfl, hb5⟩; replace hA := hA.below hb5; clear hb5; (try clear c0 f0); obtain ⟨c0, f0⟩ := hA.1.hd; simp only at c0 f0))
      go_ret
      exact ⟨rfl, hA.1.1⟩
  · clear hev
    go_wp2_with (first | (go_at_call 32; (with_reducible refine (emp_ref r _).mono ?_); rintro e w5 ⟨he5, hb5⟩; rw [HE.out] at he5; subst he5; replace hA := hA.below hb5; clear hb5; (try clear c0 f0); obtain ⟨c0, f0⟩ := hA.1.hd; simp only at c0 f0) | (go_at_call 23; (with_reducible refine (sane_any _).mono ?_); rintro e w5 ⟨rfl, hb5⟩; replace hA := hA.below hb5; clear hb5; (try clear c0 f0); obtain ⟨c0, f0⟩ := hA.1.hd; simp only at c0 f0))
    go_ret
    exact ⟨rfl, hA.1.1⟩
end Go.Proofs.YtofandkijmbplaaDoor
