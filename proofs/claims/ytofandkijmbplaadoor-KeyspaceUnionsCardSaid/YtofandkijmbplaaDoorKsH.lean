/-
  notEmpty of package keyspace: the ranges of a list that are not Empty, in a new row, in every world in which the list can be read; it only makes memory. Conditions: the list's cells lie below the call's own memory; at most 1000 ranges.
-/
import Derived.Test.YtofandkijmbplaaDoorKsE
import Derived.OwnWalk
namespace Go.Proofs.YtofandkijmbplaaDoor
open Go.RowKit

/-- The cells of a list of ranges. -/
def flat (l : List Rg) : List Value := l.flatMap fun r => [.string r.lo.key, .bool r.lo.top, .string r.hi.key, .bool r.hi.top]
theorem flat_len (l : List Rg) : (flat l).length = l.length * 4 := by
  induction l with
  | nil => rfl
  | cons x l ih => show (_ ++ flat l).length = _; rw [List.length_append, ih]; simp; omega
theorem flat_snoc (l : List Rg) (r : Rg) : flat (l ++ [r]) = flat l ++ [.string r.lo.key, .bool r.lo.top, .string r.hi.key, .bool r.hi.top] := by unfold flat; rw [List.flatMap_append]; rfl

theorem own_below {w w' : World} {base : Nat} {e : TypeId} {size n : Nat} {v : Value} {xs : List Value} (h : w.ownsRow base e size v n xs) (k : Below w.heap.size w w') : w'.ownsRow base e size v n xs := by
  obtain ⟨h1, h2 | ⟨g, cap, cur, h3, h4, h5, h6⟩⟩ := h
  · exact ⟨h1, .inl h2⟩
  · exact ⟨h1, .inr ⟨g, cap, cur, h3, h4, (k.block g (Has.lt h5)).trans h5, h6⟩⟩
theorem own_lt {w : World} {base : Nat} {e : TypeId} {size n g cap : Nat} {xs : List Value} (h : w.ownsRow base e size (.slice (some ⟨g, 0, none⟩) n cap) n xs) : g < w.heap.size := by
  obtain ⟨_, h2 | ⟨g', cap', cur, h3, h4, h5, h6⟩⟩ := h
  · cases h2.1
  · injection h3 with h3
    injection h3 with h3
    injection h3 with h3
    subst h3
    exact Has.lt h5

theorem own_base {w : World} {base : Nat} {e : TypeId} {size n g : Nat} {v : Value} {xs : List Value} (h : w.ownsRow base e size v n xs) (hg : v.ownBlock = some g) : base ≤ g := by
  obtain ⟨_, ⟨rfl, _⟩ | ⟨g', cap', cur, rfl, h4, _⟩⟩ := h
  · cases hg
  · cases hg; exact h4

def keep (l : List Rg) : List Rg := l.filter fun r => !r.emp
theorem keep_le (l : List Rg) : (keep l).length ≤ l.length := List.length_filter_le _ _
theorem keep_yes {l : List Rg} {k : Nat} (hk : k < l.length) (h : l[k].emp = false) : keep (l.take (k + 1)) = keep (l.take k) ++ [l[k]] := by
  rw [List.take_succ_eq_append_getElem hk]; unfold keep; rw [List.filter_append]; simp [h]
theorem keep_no {l : List Rg} {k : Nat} (hk : k < l.length) (h : l[k].emp = true) : keep (l.take (k + 1)) = keep (l.take k) := by
  rw [List.take_succ_eq_append_getElem hk]; unfold keep; rw [List.filter_append]; simp [h]

/-- The call gives a row of its own that holds l. -/
def OwnP (l : List Rg) (w : World) (e : Ending) (w' : World) : Prop := ∃ v, e = .returned v ∧ w'.ownsRow w.heap.size 30 4 v l.length (flat l) ∧ Below w.heap.size w w'
theorem ownP_mk {l : List Rg} {w w' : World} {v : Value} (h : w'.ownsRow w.heap.size 30 4 v l.length (flat l)) (k : Below w.heap.size w w') : OwnP l w (.returned v) w' := ⟨v, rfl, h, k⟩
theorem infoRange : (Tryd.prog.info? 30).map (fun i => (i.zero, i.size, i.bytes)) = some (some (.agg #[.string ⟨#[]⟩, .bool false, .string ⟨#[]⟩, .bool false]), 4, 48) := by kernel_rfl

set_option maxRecDepth 100000 in
set_option maxHeartbeats 6400000 in
theorem notEmpty_key (l : List Rg) (A : Option Addr) (c : Nat) (w : World) (hl : Rgs w w.heap.size A l) (hn : l.length ≤ 1000) (hc : l.length ≤ c) (hm : c ≤ maxLen) :
    Calls Tryd.prog 54 #[.slice A l.length c] w (OwnP (keep l) w) := by
  obtain ⟨i0, hi0, hz0, hz1, hz2⟩ := info_parts infoRange
  unfold maxLen at hm
  go_enter Tryd.func54, Tryd.ntmps54
  go_wp2_with fail
  go_loopw [3, 8] (fun v i wr => ∃ k : Nat, k ≤ l.length ∧ i = .int .i64 k ∧ wr.ownsRow w.heap.size 30 4 v (keep (l.take k)).length (flat (keep (l.take k))) ∧ Below w.heap.size w wr) (fun _ i _ => l.length - (intOf i).toNat)
  case atStart => exact ⟨0, Nat.zero_le _, rfl, World.ownsRow_nil _ _ _ _, Below.refl _ _⟩
  case round =>
    obtain ⟨k, hk, rfl, hown, hB⟩ := hrel
    by_cases hlt : k < l.length
    · obtain ⟨b, o, hA, hb, hcell⟩ := hl (by intro e; rw [e] at hlt; simp at hlt)
      subst hA
      obtain ⟨x1, x2, x3, x4⟩ := hcell k hlt
      have HY := Lib.hid (fun h => keep_yes hlt h)
      have HN := Lib.hid (fun h => keep_no hlt h)
      have HKL := Lib.hid (keep_le (l.take k))
      have HTK := Lib.hid (List.length_take_le k l)
      generalize l[k] = x at *
      obtain ⟨⟨xk, xt⟩, ⟨yk, yt⟩⟩ := x
      replace x1 := (hB.cell (p := ⟨b, o + k * 4, none⟩) hb).trans x1
      replace x2 := (hB.cell (p := ⟨b, o + k * 4 + 1, none⟩) hb).trans x2
      replace x3 := (hB.cell (p := ⟨b, o + k * 4 + 2, none⟩) hb).trans x3
      replace x4 := (hB.cell (p := ⟨b, o + k * 4 + 3, none⟩) hb).trans x4
      clear hcell
      have hX := Lib.hid (Has.new wr 30 #[.string xk, .bool xt, .string yk, .bool yt])
      have hBa := hB.alloc hB.size (.cells #[.string xk, .bool xt, .string yk, .bool yt] 30)
      have hOa := Lib.hid (own_below hown ((Below.refl _ _).alloc (Nat.le_refl _) (.cells #[.string xk, .bool xt, .string yk, .bool yt] 30)))
      clear hown
      cases he : Rg.emp ⟨⟨xk, xt⟩, ⟨yk, yt⟩⟩
      · go_wp2_with (first | (go_at_call 36; refine (emp_key ⟨⟨_, _⟩, ⟨_, _⟩⟩ _).mono ?_; rintro e w1 ⟨rfl, hb1⟩; replace hX := Lib.hid (hX.out.below hb1); replace hOa := Lib.hid (own_below hOa.out hb1); replace hBa := hBa.trans (hb1.mono hBa.size); clear hb1; have cx := hX.out.cell; have fx := hX.out.frozen) | (at_builtin; refine wpList_append_own _ rfl _ _ 23 rfl w.heap.size 30 i0 _ 4 48 Tryd.underlying23 hi0 hz0 hz1 hz2 rfl (by decide) _ _ _ rfl (own_below hOa.out ((Below.refl _ _).alloc (Nat.le_refl _) _)) ⟨w1.heap.size, 0, none⟩ 1 1 [.string xk, .bool xt, .string yk, .bool yt] rfl rfl ?c1 ?c2 ?c3 ?c4 ?c5 ?_))
        case c1 =>
          have hN := Has.new w1 30 #[.string xk, .bool xt, .string yk, .bool yt]
          intro j u hj
          match j, hj with
          | 0, hj => simp at hj; subst hj; exact hN.cell 0
          | 1, hj => simp at hj; subst hj; exact hN.cell 1
          | 2, hj => simp at hj; subst hj; exact hN.cell 2
          | 3, hj => simp at hj; subst hj; exact hN.cell 3
        case c2 => intro u hu; simp at hu; rcases hu with rfl | rfl | rfl | rfl <;> rfl
        case c3 => have := HKL.out; have := HTK.out; unfold maxLen; omega
        case c4 => have := HKL.out; have := HTK.out; omega
        case c5 => have := hBa.size; simp; omega
        all_goals
          intro v' w2 hown' hgrow hnil
          go_wp2
          refine ⟨⟨k + 1, hlt, by go_num, ?_, ?_⟩, by simp [intOf]; omega⟩
          · rw [HY.out he, List.length_append, flat_snoc]
            exact hown'
          · exact (hBa.alloc hBa.size _).grown hgrow (Nat.le_trans hBa.size (by simp)) (fun g hg => own_base hOa.out hg)
      · go_wp2_with (go_at_call 36; refine (emp_key ⟨⟨_, _⟩, ⟨_, _⟩⟩ _).mono ?_; rintro e w1 ⟨rfl, hb1⟩; replace hX := Lib.hid (hX.out.below hb1); replace hOa := Lib.hid (own_below hOa.out hb1); replace hBa := hBa.trans (hb1.mono hBa.size); clear hb1; have cx := hX.out.cell; have fx := hX.out.frozen)
        go_roundw
        case rel => exact ⟨k + 1, hlt, by go_num, by rw [HN.out he]; exact hOa.out, hBa⟩
        case measure => simp [intOf]; omega
    · have hkl : k = l.length := by omega
      have HK := Lib.hid hkl
      clear hkl
      go_wp2
      go_ret
      exact ownP_mk (by have := hown; rw [HK.out, List.take_length] at this; exact this) hB
end Go.Proofs.YtofandkijmbplaaDoor
