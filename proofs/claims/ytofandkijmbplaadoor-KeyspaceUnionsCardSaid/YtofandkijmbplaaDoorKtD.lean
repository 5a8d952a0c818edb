/-
  Union of package keyspace: from whatever ranges it gives, in a new row, ranges that ascend with gaps between them and cover what the given ones cover; it only makes memory. Conditions: the list's cells lie below the call's own memory; at most 1000 ranges.
-/
import Derived.Test.YtofandkijmbplaaDoorKtC
import Derived.Test.YtofandkijmbplaaDoorKsD
import Derived.Deep.RegionHeld3
namespace Go.Proofs.YtofandkijmbplaaDoor
open Go.RowKit

/-- What Union gives. -/
def UniP (l : List Rg) (w : World) (e : Ending) (w' : World) : Prop := ∃ u : List Rg, Uni l u ∧ OwnP u w e w'

/-- Of the ranges m the first k are merged into u. -/
def MInv (m : List Rg) (k : Nat) (u : List Rg) : Prop := Merged (m.take k) u ∧ ∀ q ∈ u, ∀ j (h : j < m.length), k ≤ j → q.lo.cmp m[j].lo ≤ 0
theorem minv_nil (m : List Rg) : MInv m 0 [] := ⟨by rw [List.take_zero]; exact merged_nil, fun _ h => by cases h⟩
section
variable {m : List Rg} (hm : ∀ r ∈ m, r.emp = false) (hs : ∀ i j (hi : i < j) (hj : j < m.length), (m[i]'(by omega)).lo.cmp m[j].lo ≤ 0)
include hm hs
theorem minv_first {k : Nat} (h : MInv m k []) (hk : k < m.length) : MInv m (k + 1) [m[k]] := by
  have hk0 : k = 0 := by
    rcases Nat.eq_zero_or_pos k with e | e
    · exact e
    · have h1 := (h.1.2.1 (m[0]'(by omega)).lo).2 ⟨m[0]'(by omega), by rw [List.mem_take_iff_getElem]; exact ⟨0, by omega, rfl⟩, by rw [cmp_self]; omega, (emp_false.1 (hm _ (List.getElem_mem _))).2.2⟩
      exact absurd h1 (cov_nil _)
  subst hk0
  refine ⟨?_, fun q hq j hj hkj => ?_⟩
  · rw [List.take_succ_eq_append_getElem hk, List.take_zero]
    exact merged_first (hm _ (List.getElem_mem _))
  · rw [List.mem_singleton.1 hq]
    exact hs 0 j (by omega) hj
theorem minv_push {k : Nat} {ini : List Rg} {q : Rg} (h : MInv m k (ini ++ [q])) (hk : k < m.length) (hc : 0 < m[k].lo.cmp q.hi) : MInv m (k + 1) (ini ++ [q] ++ [m[k]]) := by
  refine ⟨?_, fun y hy j hj hkj => ?_⟩
  · rw [List.take_succ_eq_append_getElem hk]
    exact merged_push h.1 (hm _ (List.getElem_mem _)) hc
  · rcases List.mem_append.1 hy with hy | hy
    · exact h.2 y hy j hj (by omega)
    · rw [List.mem_singleton.1 hy]; exact hs k j (by omega) hj
omit hs in
theorem minv_into {k : Nat} {ini : List Rg} {q : Rg} (h : MInv m k (ini ++ [q])) (hk : k < m.length) (hc : m[k].lo.cmp q.hi ≤ 0) : MInv m (k + 1) (ini ++ [⟨q.lo, q.hi.hiK m[k].hi⟩]) := by
  refine ⟨?_, fun y hy j hj hkj => ?_⟩
  · rw [List.take_succ_eq_append_getElem hk]
    exact merged_into h.1 (hm _ (List.getElem_mem _)) hc (h.2 q (by simp) k hk (Nat.le_refl _))
  · rcases List.mem_append.1 hy with hy | hy
    · exact h.2 y (List.mem_append.2 (.inl hy)) j hj (by omega)
    · rw [List.mem_singleton.1 hy]; exact h.2 q (by simp) j hj (by omega)
end
theorem minv_end {l m u : List Rg} (hp : m.Perm (keep l)) (h : MInv m m.length u) : Uni l u := by
  obtain ⟨⟨h1, h2, h3⟩, _⟩ := h
  rw [List.take_length] at h2 h3
  exact ⟨h1, fun p => (h2 p).trans (cov_perm hp p), by have := hp.length_eq; have := keep_le l; omega⟩

theorem below_drew5 {a b : World} (h : Below a.drew.heap.size a.drew b) : Below a.heap.size a b := ⟨h.os, h.tape, h.output, h.size, h.block⟩
theorem own_row6 {w : World} {base n : Nat} {v : Value} {l : List Rg} (h : w.ownsRow base 30 4 v n (flat l)) (hn : n = l.length) (h0 : 0 < l.length) : ∃ G cap cur, v = .slice (some ⟨G, 0, none⟩) l.length cap ∧ base ≤ G ∧ Has w G 30 cur ∧ l.length ≤ cap ∧ cap ≤ maxLen ∧ cur.size = cap * 4 ∧ cur.toList.take (l.length * 4) = flat l := by
  subst hn
  obtain ⟨h1, ⟨rfl, h2⟩ | ⟨G, cap, cur, rfl, h4, h5, h6, h7, h8, h9⟩⟩ := h
  · omega
  · exact ⟨G, cap, cur, rfl, h4, h5, h6, h7, h8, h9⟩
theorem take_of_row {cur : Array Value} {l : List Rg} (h : Row cur l) : cur.toList.take (l.length * 4) = flat l := by
  apply List.ext_getElem?
  intro j
  by_cases hj : j < l.length * 4
  · rw [List.getElem?_take_of_lt hj, Array.getElem?_toList]
    have h1 := h (j / 4) (by omega) (j % 4) (by omega)
    have h2 := flat_at l (j / 4) (by omega) (j % 4) (by omega)
    rw [show j / 4 * 4 + j % 4 = j by omega] at h1 h2
    rw [h1, h2]
  · rw [List.getElem?_take_eq_none (by omega), List.getElem?_eq_none (by rw [flat_len]; omega)]
/-- The last element's upper bound stored anew. -/
theorem own_last {w : World} {base G cap : Nat} {cur : Array Value} {ini : List Rg} {q : Rg} (h : Has w G 30 cur) (hG : base ≤ G) (h1 : ini.length + 1 ≤ cap) (h2 : cap ≤ maxLen) (h3 : cur.size = cap * 4) (hr : Row cur (ini ++ [q])) (b : Bd) :
    ((w.setCell ⟨G, ini.length * 4 + 2, none⟩ (.string b.key)).setCell ⟨G, ini.length * 4 + 3, none⟩ (.bool b.top)).ownsRow base 30 4 (.slice (some ⟨G, 0, none⟩) (ini.length + 1) cap) (ini.length + 1) (flat (ini ++ [⟨q.lo, b⟩])) := by
  have hk := row_set2 hr (n := ini.length) (by simp) b
  have e1 : (ini ++ [q]).set ini.length ⟨((ini ++ [q])[ini.length]'(by simp)).lo, b⟩ = ini ++ [⟨q.lo, b⟩] := by simp
  rw [e1] at hk
  have ht := take_of_row hk
  have e2 : (ini ++ [(⟨q.lo, b⟩ : Rg)]).length = ini.length + 1 := by simp
  rw [e2] at ht
  exact ⟨by rw [flat_len, e2], .inr ⟨G, cap, _, rfl, hG, (h.set_ (ini.length * 4 + 2) (.string b.key)).set_ (ini.length * 4 + 3) (.bool b.top), h1, h2, by simpa using h3, ht⟩⟩

set_option maxRecDepth 100000 in
set_option maxHeartbeats 6400000 in
theorem union_key (l : List Rg) (A : Option Addr) (c : Nat) (w : World) (hl : Rgs w w.heap.size A l) (hn : l.length ≤ 1000) (hc : l.length ≤ c) (hm : c ≤ maxLen) :
    Calls Tryd.prog 19 #[.slice A l.length c] w (UniP l w) := by
  obtain ⟨i0, hi0, hz0, hz1, hz2⟩ := info_parts infoRange
  have hkl := keep_le l
  have hne : ∀ r ∈ keep l, r.emp = false := fun r hr => by simpa [keep] using (List.mem_filter.1 hr).2
  go_enter Tryd.func19, Tryd.ntmps19
  go_wp2_with fail
  refine (notEmpty_key l A c _ hl hn hc hm).mono ?_
  rintro e w1 ⟨v, rfl, ho, hb1⟩
  clear hl hc hm
  go_wp2_with fail
  refine (sort_rg (keep l) v w.heap.size _ ho (by omega)).mono ?_
  rintro e w2 ⟨rfl, m, hperm, hsort, ho2, hg⟩
  have hB2 : Below w.heap.size w w2 := hb1.grown hg hb1.size (fun i hi => own_base ho hi)
  have hlen := hperm.length_eq
  rw [← hlen] at ho2
  obtain ⟨A', c', rfl, hlc', hcm', hR⟩ := own_rgs5 ho2
  have hm1 : m.length ≤ 1000 := by omega
  have HS := Lib.hid hsort
  have HM := Lib.hid (show ∀ r ∈ m, r.emp = false from fun r hr => hne r (hperm.mem_iff.1 hr))
  have HP := Lib.hid hperm
  have hw2 := hB2.size
  clear hsort hperm hne ho ho2 hg hb1 hlen hkl
  go_wp2_with fail
  go_loopw [4, 14] (fun out i wr => ∃ (k : Nat) (u : List Rg), k ≤ m.length ∧ i = .int .i64 k ∧ wr.ownsRow w2.heap.size 30 4 out u.length (flat u) ∧ Below w2.heap.size w2 wr ∧ Hid (MInv m k u)) (fun _ i _ => m.length - (intOf i).toNat)
  case atStart => exact ⟨0, [], Nat.zero_le _, rfl, World.ownsRow_nil _ _ _ _, Below.refl _ _, Lib.hid (minv_nil m)⟩
  case round =>
    obtain ⟨k, u, hk, rfl, hown, hB, HI⟩ := hrel
    have HL := Lib.hid HI.out.1.2.2
    by_cases hlt : k < m.length
    · obtain ⟨b, o, hA, hb, hcell⟩ := hR (by intro e; rw [e] at hlt; simp at hlt)
      subst hA
      obtain ⟨x1, x2, x3, x4⟩ := hcell k hlt
      replace x1 := (hB.cell (p := ⟨b, o + k * 4, none⟩) hb).trans x1
      replace x2 := (hB.cell (p := ⟨b, o + k * 4 + 1, none⟩) hb).trans x2
      replace x3 := (hB.cell (p := ⟨b, o + k * 4 + 2, none⟩) hb).trans x3
      replace x4 := (hB.cell (p := ⟨b, o + k * 4 + 3, none⟩) hb).trans x4
      clear hcell
      have H1 := Lib.hid (fun (e : u = []) => minv_first HM.out HS.out (e ▸ HI.out) hlt)
      have H2 := Lib.hid (fun ini q (e : u = ini ++ [q]) => minv_push HM.out HS.out (e ▸ HI.out) hlt)
      have H3 := Lib.hid (fun ini q (e : u = ini ++ [q]) => minv_into HM.out (e ▸ HI.out) hlt)
      generalize m[k] = x at *
      rcases List.eq_nil_or_concat u with hu | ⟨ini, q, hu⟩
      · subst hu
        obtain ⟨A1, c1, rfl, _, _, _⟩ := own_rgs5 hown
        have hB' := hB.alloc hB.size (.cells #[Value.string x.lo.key, Value.bool x.lo.top, Value.string x.hi.key, Value.bool x.hi.top] 30)
        have hX := Has.new wr 30 #[Value.string x.lo.key, Value.bool x.lo.top, Value.string x.hi.key, Value.bool x.hi.top]
        have hoa : (wr.alloc (.cells #[Value.string x.lo.key, Value.bool x.lo.top, Value.string x.hi.key, Value.bool x.hi.top] 30)).ownsRow w2.heap.size 30 4 (.slice A1 0 c1) 0 [] := own_below hown ((Below.refl _ _).alloc (Nat.le_refl _) _)
        clear hown hB
        go_wp2_with fail
        go_quiet (fail)
        replace hB' := below_drewN hB' nq
        replace hoa := own_below hoa (below_drewN (Below.refl _ _) nq)
        replace hX : Has ((wr.alloc (.cells #[Value.string x.lo.key, Value.bool x.lo.top, Value.string x.hi.key, Value.bool x.hi.top] 30)).drewN nq) wr.heap.size 30 #[Value.string x.lo.key, Value.bool x.lo.top, Value.string x.hi.key, Value.bool x.hi.top] := hX
        generalize (World.drewN _ nq) = wq at *
        obtain ⟨cx, fx⟩ := blk_cells hX
        clear hX
        go_wp2_with (at_builtin; refine wpList_append_own _ rfl _ _ 23 rfl w2.heap.size 30 i0 _ 4 48 Tryd.underlying23 hi0 hz0 hz1 hz2 rfl (by decide) _ _ _ rfl (own_below hoa ((Below.refl _ _).alloc (Nat.le_refl _) _)) ⟨wq.heap.size, 0, none⟩ 1 1 [.string x.lo.key, .bool x.lo.top, .string x.hi.key, .bool x.hi.top] rfl rfl (news4 _ _ _ _ _ _) (ones4 _ _ _ _) ?c3 ?c4 ?c5 ?_)
        case c3 => decide
        case c4 => decide
        case c5 => have := hB'.size; simp; omega
        intro v' w5 hown' hgrow hnil
        go_wp2
        go_roundw
        case rel => exact ⟨k + 1, [x], hlt, by go_num, hown', (hB'.alloc hB'.size _).grown hgrow (by have := hB'.size; simp; omega) (fun i hi => own_base hoa hi), Lib.hid (H1.out trivial)⟩
        case measure => simp [intOf]; omega
      · have hu' : u = ini ++ [q] := by rw [hu]; simp
        clear hu
        subst hu'
        obtain ⟨G, cap, cur, rfl, hG, hblk, hlcap, hcapm, hcs, htk⟩ := own_row6 hown rfl (by simp)
        have hRow := row_of_take htk
        have hnl : (ini ++ [q]).length = ini.length + 1 := by simp
        obtain ⟨y1, y2, y3, y4⟩ := row_cells hblk hRow (n := ini.length) (by omega)
        have hq : (ini ++ [q])[ini.length]'(by omega) = q := by simp
        rw [hq] at y1 y2 y3 y4
        have hcap := HL.out
        rw [hnl] at hlcap hcap
        have hTK := List.length_take_le k m
        replace hcap : ini.length + 1 ≤ 1000 := by omega
        have HN := Lib.hid hnl
        obtain ⟨N, hN⟩ : ∃ N, (ini ++ [q]).length = N := ⟨_, rfl⟩
        rw [hN] at hown
        rw [hN]
        rw [hN] at hnl
        have HNN := Lib.hid hN
        clear hN hTK
        subst hnl
        have hGlt := Has.lt hblk
        have hI := (Inv.nil wr).add 30 #[Value.string x.lo.key, Value.bool x.lo.top, Value.string x.hi.key, Value.bool x.hi.top]
        have r1 := fun (w' : World) (h : Inv wr [(wr.heap.size, 30, #[Value.string x.lo.key, Value.bool x.lo.top, Value.string x.hi.key, Value.bool x.hi.top])] w') => h.hd.1
        have r2 := fun (w' : World) (h : Inv wr [(wr.heap.size, 30, #[Value.string x.lo.key, Value.bool x.lo.top, Value.string x.hi.key, Value.bool x.hi.top])] w') => (h.1.cell (p := ⟨G, ini.length * 4 + 2, none⟩) hGlt).trans y3
        have r3 := fun (w' : World) (h : Inv wr [(wr.heap.size, 30, #[Value.string x.lo.key, Value.bool x.lo.top, Value.string x.hi.key, Value.bool x.hi.top])] w') => (h.1.cell (p := ⟨G, ini.length * 4 + 3, none⟩) hGlt).trans y4
        simp only at r1 r2 r3
        have i0' : (0 : Int) ≤ (ini.length : Int) := by omega
        have i1 : (ini.length : Int) < (ini.length : Int) + 1 := by omega
        clear y1 y2 y3 y4
        go_wp2_with fail
        go_region_held3 (fun w' => Inv wr [(wr.heap.size, 30, #[Value.string x.lo.key, Value.bool x.lo.top, Value.string x.hi.key, Value.bool x.hi.top])] w') (first | with_reducible exact hS1 | with_reducible exact hI.drew | with_reducible assumption) ((go_at_call 31; refine (cmp_key ⟨_, _⟩ ⟨_, _⟩ _).mono ?_; rintro e w5 ⟨rfl, hb5⟩; have hS1 := Inv.below ‹_› hb5; clear hb5))
        have cx := r1 _ hS1
        have z3 := r2 _ hS1
        have z4 := r3 _ hS1
        have hz := hS1.1.size
        have hG5 : G < (World.drew w5).heap.size := Nat.lt_of_lt_of_le hGlt hz
        have hf5 : ∀ o, w5.frozen? ⟨G, o, none⟩ = false := (hblk.below hS1.1).frozen
        have hHG : Has w5 G 30 cur := hblk.below hS1.1
        have ho5 := own_below hown hS1.1
        have hB5 := hB.trans (hS1.1.mono hB.size)
        clear r1 r2 r3 hown hI
        go_wp2_with (at_builtin; refine wpList_append_own _ rfl _ _ 23 rfl w2.heap.size 30 i0 _ 4 48 Tryd.underlying23 hi0 hz0 hz1 hz2 rfl (by decide) _ _ _ rfl (own_below ho5 ((Below.refl _ _).alloc (Nat.le_refl _) _)) ⟨w5.heap.size, 0, none⟩ 1 1 [.string x.lo.key, .bool x.lo.top, .string x.hi.key, .bool x.hi.top] rfl rfl (news4 _ _ _ _ _ _) (ones4 _ _ _ _) ?c3 ?c4 ?c5 ?_)
        case c3 => unfold maxLen; omega
        case c4 => omega
        case c5 => have := hB5.size; simp; omega
        · go_region_with ((go_at_call 57; refine (hi_key ⟨_, _⟩ ⟨_, _⟩ _).mono ?_; rintro e w6 ⟨he6, hb6⟩; (generalize hr : Bd.hiK _ _ = rr at he6); obtain ⟨rk, rt⟩ := rr; subst he6; have R1 := Lib.hid hr; clear hr; have g3 := (hb6.cell (p := ⟨G, ini.length * 4 + 2, none⟩) hG5).trans z3; have g4 := (hb6.cell (p := ⟨G, ini.length * 4 + 3, none⟩) hG5).trans z4; have hH6 := Has.below (show Has (World.drew w5) G 30 cur from hHG) hb6; have f6 := hH6.frozen))
          all_goals
            go_wp2
            go_roundw
            case rel => exact ⟨k + 1, ini ++ [⟨q.lo, ⟨rk, rt⟩⟩], hlt, by go_num, by rw [List.length_append]; exact own_last hH6 hG hlcap hcapm hcs hRow ⟨rk, rt⟩, ((hB5.trans ((below_drew5 hb6).mono hB5.size)).setCell hG _).setCell hG _, Lib.hid (R1.out ▸ H3.out ini q rfl (by assumption))⟩
            case measure => simp [intOf]; omega
        · intro v' w6 hown' hgrow hnil
          go_wp2
          go_roundw
          case rel => exact ⟨k + 1, ini ++ [q] ++ [x], hlt, by go_num, by rw [List.length_append, HNN.out, flat_append (ini ++ [q])]; exact hown', (hB5.alloc hB5.size _).grown hgrow (by have := hB5.size; simp; omega) (fun i hi => own_base ho5 hi), Lib.hid (H2.out ini q rfl (by assumption))⟩
          case measure => simp [intOf]; omega
    · go_wp2
      go_ret
      have hkm : k = m.length := by omega
      refine ⟨u, minv_end HP.out (hkm ▸ HI.out), _, rfl, own_less hown hw2, hB2.trans (hB.mono hw2)⟩
end Go.Proofs.YtofandkijmbplaaDoor
