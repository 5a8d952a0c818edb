/-
  Union of the reference: from whatever ranges it gives, in a new row, ranges that ascend with gaps between them and cover what the given ones cover; it only makes memory. Conditions: the list's cells lie below the call's own memory; at most 1000 ranges.
-/
import Derived.Test.YtofandkijmbplaaDoorKtG
import Derived.Deep.DeepCutAuto
import Derived.Deep.CutBlock
import Derived.Deep.RegionHeld3
namespace Go.Proofs.YtofandkijmbplaaDoor
open Go.RowKit

theorem row_last {cur : Array Value} {m : List Rg} {z : Rg} {a : Nat} (h : Row cur (m ++ [z])) (hac : a = m.length) (ha : a ≤ m.length) : Row cur (m.take a ++ [(m ++ [z])[a]'(by rw [List.length_append]; exact Nat.lt_succ_of_le ha)] ++ m.drop a) := by
  have e9 : m.take a ++ [(m ++ [z])[a]'(by rw [List.length_append]; exact Nat.lt_succ_of_le ha)] ++ m.drop a = m ++ [z] := by subst hac; simp
  rw [e9]; exact h
theorem below_step3 {x a b : World} (h : Below x.heap.size x a) (k : Below a.heap.size a b) : Below x.heap.size x b := h.trans (k.mono h.size)
theorem flat_zero (m : List Rg) : flat m ++ [.string ⟨#[]⟩, .bool false, .string ⟨#[]⟩, .bool false] = flat (m ++ [Rg.zero]) := by rw [flat_snoc]; rfl

theorem hsz4 : (Tryd.prog.info? 30).map (·.size) = some 4 := by kernel_rfl
set_option maxRecDepth 100000 in
set_option maxHeartbeats 600000 in
theorem union_ref (l : List Rg) (A : Option Addr) (c : Nat) (w : World) (hl : Rgs w w.heap.size A l) (hn : l.length ≤ 1000) (hc : l.length ≤ c) (hm : c ≤ maxLen) :
    Calls Tryd.prog 20 #[.slice A l.length c] w (UniP l w) := by
  obtain ⟨i0, hi0, hz0, hz1, hz2⟩ := info_parts infoRange
  unfold maxLen at hm
  go_enter Tryd.func20, Tryd.ntmps20
  go_wp2_with fail
  go_loopw [3, 4] (fun out i wr => ∃ (k : Nat) (m : List Rg), k ≤ l.length ∧ i = .int .i64 k ∧ wr.ownsRow w.heap.size 30 4 out m.length (flat m) ∧ Below w.heap.size w wr ∧ m.length ≤ k ∧ Hid (SInv l k m)) (fun _ i _ => l.length - (intOf i).toNat)
  case atStart => exact ⟨0, [], Nat.zero_le _, rfl, World.ownsRow_nil _ _ _ _, Below.refl _ _, Nat.zero_le _, Lib.hid (sinv_nil l)⟩
  case round =>
    obtain ⟨k, m, hk, rfl, hown, hB, hmk, HI⟩ := hrel
    by_cases hlt : k < l.length
    · obtain ⟨b, o, hA, hb, hcell⟩ := hl (by intro e; rw [e] at hlt; simp at hlt)
      subst hA
      obtain ⟨x1, x2, x3, x4⟩ := hcell k hlt
      have HX := Lib.hid (fun (a : Nat) (w1 : World) (h : Below w.heap.size w w1) => (⟨(h.cell (p := ⟨b, o + k * 4, none⟩) hb).trans x1, (h.cell (p := ⟨b, o + k * 4 + 1, none⟩) hb).trans x2, (h.cell (p := ⟨b, o + k * 4 + 2, none⟩) hb).trans x3, (h.cell (p := ⟨b, o + k * 4 + 3, none⟩) hb).trans x4⟩ : w1.cell? ⟨b, o + k * 4, none⟩ = some (.string l[k].lo.key) ∧ w1.cell? ⟨b, o + k * 4 + 1, none⟩ = some (.bool l[k].lo.top) ∧ w1.cell? ⟨b, o + k * 4 + 2, none⟩ = some (.string l[k].hi.key) ∧ w1.cell? ⟨b, o + k * 4 + 3, none⟩ = some (.bool l[k].hi.top)))
      have H1 := Lib.hid (fun e => sinv_skip HI.out hlt e)
      have H2 := Lib.hid (fun (a : Nat) e => sinv_put (a := a) HI.out hlt e)
      clear hcell x1 x2 x3 x4
      generalize l[k] = x at *
      obtain ⟨ev, hev⟩ : ∃ ev, x.emp = ev := ⟨_, rfl⟩
      have HE := Lib.hid hev
      obtain ⟨x1, x2, x3, x4⟩ := HX.out 0 _ hB
      have i0' : (0 : Int) ≤ (k : Int) := by omega
      have i1 : (k : Int) < (l.length : Int) := by omega
      obtain ⟨A1, c1, rfl, hmc, hcm1, hR1⟩ := own_rgs5 hown
      unfold maxLen at hcm1
      cases ev
      · clear hev
        go_upto_region 6 with ((go_at_call 32; (with_reducible refine (emp_ref x _).mono ?_); rintro e w1 ⟨he1, hb1⟩; rw [HE.out] at he1; subst he1))
        have hB1 := below_step3 hB hb1
        have hown1 := own_below hown hb1
        have hR := rgs_on hR1 hb1
        clear hown hb1 x1 x2 x3 x4 hB hR1
        have hm1 : m.length ≤ 1000 := by omega
        go_upto_block 2 with fail
        go_cut [5] (fun s5 wx => ∃ a : Nat, s5 = .int .i64 a ∧ a ≤ m.length ∧ Below w1.heap.size w1 wx ∧ Hid ((0 < a → ∀ (k : a - 1 < m.length), m[a - 1].lo.cmp x.lo ≤ 0) ∧ (∀ j (hj : j < m.length), a ≤ j → 0 < m[j].lo.cmp x.lo)))
        case first =>
          go_wp2_with fail
          go_loopw [5] (fun i wz => ∃ a : Nat, i = .int .i64 a ∧ a ≤ m.length ∧ Below w1.heap.size w1 wz ∧ Hid (∀ j (hj : j < m.length), a ≤ j → 0 < m[j].lo.cmp x.lo)) (fun i _ => (intOf i).toNat)
          case atStart => exact ⟨m.length, rfl, Nat.le_refl _, Below.refl _ _, Lib.hid (fun j h1 h2 => by omega)⟩
          case round =>
            obtain ⟨a, rfl, ham, hBz, HJ⟩ := hrel
            by_cases ha0 : 0 < a
            · obtain ⟨a', rfl⟩ : ∃ a', a = a' + 1 := ⟨a - 1, by omega⟩
              obtain ⟨b2, o2, hA1, hb2, hcell2⟩ := hR (by intro e; rw [e] at ham; simp at ham)
              subst hA1
              obtain ⟨y1, y2, _, _⟩ := hcell2 a' (by omega)
              obtain ⟨cv, hcv⟩ : ∃ cv, (m[a']'(by omega)).lo.cmp x.lo = cv := ⟨_, rfl⟩
              have HCV := Lib.hid hcv
              have HCW := Lib.hid (show ∀ (h : a' < m.length), m[a'].lo.cmp x.lo = cv from fun _ => hcv)
              clear hcell2 hcv
              generalize m[a']'(by omega) = el at *
              have r1 := fun (wz : World) (h : Below w1.heap.size w1 wz) => (h.cell (p := ⟨b2, o2 + a' * 4, none⟩) hb2).trans y1
              have r2 := fun (wz : World) (h : Below w1.heap.size w1 wz) => (h.cell (p := ⟨b2, o2 + a' * 4 + 1, none⟩) hb2).trans y2
              have r3 := fun (wz : World) (h : Below w1.heap.size w1 wz) => (HX.out 0 wz (hB1.trans (h.mono hB1.size))).1
              have r4 := fun (wz : World) (h : Below w1.heap.size w1 wz) => (HX.out 0 wz (hB1.trans (h.mono hB1.size))).2.1
              clear y1 y2
              have i2 : (0 : Int) ≤ (a' : Int) := by omega
              have i3 : (a' : Int) < (m.length : Int) := by omega
              by_cases hpos : 0 < cv
              · rw [show ((a' + 1 : Nat) : Int) = (a' : Int) + 1 from by omega]
                go_wp2_with fail
                have e1 : IntKind.i64.wrap ((a' : Int) + 1 - 1) = (a' : Int) := by rw [Int.add_sub_cancel]; exact IntWalk.i64_in _ (by omega)
                have e2 : IntKind.i64.wrap ((a' : Int) + 1 + -1) = (a' : Int) := by rw [show (a' : Int) + 1 + -1 = a' by omega]; exact IntWalk.i64_in _ (by omega)
                have e5 : IntKind.i64.wrap (a' : Int) = (a' : Int) := IntWalk.i64_in _ (by omega)
                go_region_held3 (fun wz => Below w1.heap.size w1 wz) (first | with_reducible exact hS1 | with_reducible exact hBz.drew | with_reducible assumption) ((go_at_call 33; refine (cmp_ref _ _ _).mono ?_; rintro e w7 ⟨he7, hb7⟩; rw [HCV.out] at he7; subst he7; have hS1 := Below.trans (show Below w1.heap.size w1 _ by assumption) (hb7.mono (Below.size (show Below w1.heap.size w1 _ by assumption)))))
                clear e1 e2 e5
                go_wp2_with fail
                go_roundw
                case rel => exact ⟨a', by go_num, by omega, hS1, Lib.hid (fun j h1 h2 => by
                  rcases Nat.lt_or_ge a' j with h3 | h3
                  · exact HJ.out j h1 h3
                  · have h4 : j = a' := by omega
                    subst h4
                    have h5 := HCW.out h1
                    omega)⟩
                case measure => simp [intOf]
              · rw [show ((a' + 1 : Nat) : Int) = (a' : Int) + 1 from by omega]
                go_wp2_with fail
                have e1 : IntKind.i64.wrap ((a' : Int) + 1 - 1) = (a' : Int) := by rw [Int.add_sub_cancel]; exact IntWalk.i64_in _ (by omega)
                have e2 : IntKind.i64.wrap ((a' : Int) + 1 + -1) = (a' : Int) := by rw [show (a' : Int) + 1 + -1 = a' by omega]; exact IntWalk.i64_in _ (by omega)
                have e5 : IntKind.i64.wrap (a' : Int) = (a' : Int) := IntWalk.i64_in _ (by omega)
                go_region_held3 (fun wz => Below w1.heap.size w1 wz) (first | with_reducible exact hS1 | with_reducible exact hBz.drew | with_reducible assumption) ((go_at_call 33; refine (cmp_ref _ _ _).mono ?_; rintro e w7 ⟨he7, hb7⟩; rw [HCV.out] at he7; subst he7; have hS1 := Below.trans (show Below w1.heap.size w1 _ by assumption) (hb7.mono (Below.size (show Below w1.heap.size w1 _ by assumption)))))
                clear e1 e2 e5
                go_wp2_with fail
                go_meet
                exact ⟨a' + 1, by go_num, ham, hS1, Lib.hid ⟨fun _ h1 => by (show m[a'].lo.cmp x.lo ≤ 0); rw [HCW.out h1]; omega, HJ.out⟩⟩
            · have ha1 : a = 0 := by omega
              subst ha1
              go_wp2_with fail
              go_quiet (fail)
              go_wp2_with fail
              go_meet
              exact ⟨0, rfl, Nat.zero_le _, below_drewN hBz _, Lib.hid ⟨fun h => by omega, HJ.out⟩⟩
        case rest =>
          obtain ⟨a, rfl, ham, hBc, HJ⟩ := hcut
          have hown2 := own_below hown1 hBc
          have hBw := hB1.trans (hBc.mono hB1.size)
          clear hown1 hR hBc
          go_wp2_with (at_builtin; refine wpList_append_own _ rfl _ _ 23 rfl w.heap.size 30 i0 _ 4 48 Tryd.underlying23 hi0 hz0 hz1 hz2 rfl (by decide) _ _ _ rfl (own_below hown2 ((Below.refl _ _).alloc (Nat.le_refl _) _)) ⟨wc.heap.size, 0, none⟩ 1 1 [.string ⟨#[]⟩, .bool false, .string ⟨#[]⟩, .bool false] rfl rfl (news4 _ _ _ _ _ _) (ones4 _ _ _ _) ?c3 ?c4 ?c5 ?_)
          case c3 => unfold maxLen; omega
          case c4 => omega
          case c5 => have := hBw.size; simp; omega
          intro v' w2 hown3 hgrow _
          rw [flat_zero] at hown3
          have hB2 : Below w.heap.size w w2 := (hBw.alloc hBw.size _).grown hgrow (by have := hBw.size; simp; omega) (fun i hi => own_base hown2 hi)
          clear hgrow hown2 hBw
          obtain ⟨G, cap, cur, rfl, hG, hblk, hlcap, hcapm, hcs, htk⟩ := own_row6 hown3 (by simp) (by simp)
          have hRow := row_of_take htk
          have hml : (m ++ [Rg.zero]).length = m.length + 1 := by simp
          rw [hml] at hlcap
          have htk' := htk
          rw [hml] at htk
          have hGlt := Has.lt hblk
          have hcapm' := hcapm
          unfold maxLen at hcapm
          have HTK := Lib.hid htk'
          have hHas := Lib.hid hblk
          obtain ⟨N, hN⟩ : ∃ N, (m ++ [Rg.zero]).length = N := ⟨_, rfl⟩
          rw [hN]
          rw [hN] at hml
          subst hml
          have HNN := Lib.hid hN
          clear htk htk' hblk hN hown3
          have c0 : (0 : Int) ≤ (a : Int) := by omega
          have c2 : (a : Int) ≤ (m.length : Int) + 1 := by omega
          have c3 : (a : Int) + 1 ≤ (m.length : Int) + 1 := by omega
          have c4 : (m.length : Int) + 1 ≤ (cap : Int) := by omega
          have c5 : (a : Int) ≤ (cap : Int) := by omega
          have c6 : (a : Int) + 1 ≤ (cap : Int) := by omega
          have c7 : (a : Int) < (m.length : Int) + 1 := by omega
          have d2 : ¬ cap = a := by omega
          go_wp2_with fail
          by_cases hac : a = m.length
          · by_cases hcap : cap = a + 1
            · subst hcap
              have HAL := Lib.hid hac
              have q1 := Lib.hid (show Nat.min (m.length + 1 - a) 0 = 0 by (show min _ _ = 0); omega)
              have hRow3 := row_last hRow hac ham
              clear hac
              have d9 : (a : Int) ≤ (a : Int) + 1 := by omega
              have e2 : (0 : Int) ≤ (a : Int) + 1 := by omega
              have e3 : ((a : Int) + 1).toNat = a + 1 := by omega
              have e1 : IntKind.i64.wrap ((a : Int) + 1) = (a : Int) + 1 := IntWalk.i64_in _ (by omega)
              go_region_law ((refine step_copyK_none rfl (.tmp 48) (.tmp 51) 23 23 (by rfl) 30 4 Tryd.underlying23 hsz4 (some ⟨G, 0, none⟩) (some ⟨G, a * 4, none⟩) 0 0 (m.length + 1 - a) 1 (by simp [Act.eval, Act.put]) (by simp [Act.eval, Act.put]) q1.out ?_))
              clear e1 e2 e3
              have hB3 := hB2.drew
              have hH3 : Has w2.drew G 30 cur := hHas.out
              have hcs3 := hcs
              generalize w2.drew = w3 at *
              obtain ⟨x1, x2, x3, x4⟩ := HX.out 0 _ hB3
              have hfz := hH3.frozen
              obtain ⟨z1, z2, z3, z4⟩ := row_cells hH3 hRow3 (n := a) (by simp [List.length_take]; omega)
              go_wp2_with fail
              have hRow4 := row_insert hRow ham x _ hRow3
              have hH4 := (((hH3.set_ (a * 4) (.string x.lo.key)).set_ (a * 4 + 1) (.bool x.lo.top)).set_ (a * 4 + 2) (.string x.hi.key)).set_ (a * 4 + 3) (.bool x.hi.top)
              have hB4 := (((hB3.setCell (p := ⟨G, a * 4, none⟩) hG (.string x.lo.key)).setCell (p := ⟨G, a * 4 + 1, none⟩) hG (.bool x.lo.top)).setCell (p := ⟨G, a * 4 + 2, none⟩) hG (.string x.hi.key)).setCell (p := ⟨G, a * 4 + 3, none⟩) hG (.bool x.hi.top)
              have hml2 : (m.take a ++ [x] ++ m.drop a).length = m.length + 1 := by simp [List.length_take, List.length_drop]; omega
              have ht4 := take_of_row hRow4
              rw [hml2] at ht4
              go_roundw
              case rel => exact ⟨k + 1, m.take a ++ [x] ++ m.drop a, hlt, by go_num, by rw [hml2]; exact ⟨by rw [flat_len, hml2], .inr ⟨G, _, _, rfl, hG, hH4, hlcap, hcapm', by simpa using hcs3, ht4⟩⟩, hB4, by omega, Lib.hid (H2.out a HE.out ham HJ.out.1 HJ.out.2)⟩
              case measure => simp [intOf]; omega
            · have HAL := Lib.hid hac
              have q1 := Lib.hid (show Nat.min (m.length + 1 - a) (m.length - a) = 0 by (show min _ _ = 0); omega)
              have hRow3 := row_last hRow hac ham
              clear hac
              have d1 : ¬ cap = a + 1 := hcap
              have e2 : (0 : Int) ≤ (a : Int) + 1 := by omega
              have e3 : ((a : Int) + 1).toNat = a + 1 := by omega
              have e1 : IntKind.i64.wrap ((a : Int) + 1) = (a : Int) + 1 := IntWalk.i64_in _ (by omega)
              go_region_law ((refine step_copyK_none rfl (.tmp 48) (.tmp 51) 23 23 (by rfl) 30 4 Tryd.underlying23 hsz4 (some ⟨G, (a + 1) * 4, none⟩) (some ⟨G, a * 4, none⟩) (m.length - a) (cap - (a + 1)) (m.length + 1 - a) (cap - a) (by simp [Act.eval, Act.put]) (by simp [Act.eval, Act.put]) q1.out ?_))
              clear e1 e2 e3
              have hB3 := hB2.drew
              have hH3 : Has w2.drew G 30 cur := hHas.out
              have hcs3 := hcs
              generalize w2.drew = w3 at *
              obtain ⟨x1, x2, x3, x4⟩ := HX.out 0 _ hB3
              have hfz := hH3.frozen
              obtain ⟨z1, z2, z3, z4⟩ := row_cells hH3 hRow3 (n := a) (by simp [List.length_take]; omega)
              go_wp2_with fail
              have hRow4 := row_insert hRow ham x _ hRow3
              have hH4 := (((hH3.set_ (a * 4) (.string x.lo.key)).set_ (a * 4 + 1) (.bool x.lo.top)).set_ (a * 4 + 2) (.string x.hi.key)).set_ (a * 4 + 3) (.bool x.hi.top)
              have hB4 := (((hB3.setCell (p := ⟨G, a * 4, none⟩) hG (.string x.lo.key)).setCell (p := ⟨G, a * 4 + 1, none⟩) hG (.bool x.lo.top)).setCell (p := ⟨G, a * 4 + 2, none⟩) hG (.string x.hi.key)).setCell (p := ⟨G, a * 4 + 3, none⟩) hG (.bool x.hi.top)
              have hml2 : (m.take a ++ [x] ++ m.drop a).length = m.length + 1 := by simp [List.length_take, List.length_drop]; omega
              have ht4 := take_of_row hRow4
              rw [hml2] at ht4
              go_roundw
              case rel => exact ⟨k + 1, m.take a ++ [x] ++ m.drop a, hlt, by go_num, by rw [hml2]; exact ⟨by rw [flat_len, hml2], .inr ⟨G, _, _, rfl, hG, hH4, hlcap, hcapm', by simpa using hcs3, ht4⟩⟩, hB4, by omega, Lib.hid (H2.out a HE.out ham HJ.out.1 HJ.out.2)⟩
              case measure => simp [intOf]; omega
          · have q0 : a < m.length := by omega
            have d1 : ¬ cap = a + 1 := by omega
            have q1 := Lib.hid (show m.length - a = Nat.min (m.length + 1 - a) (m.length + 1 - (a + 1)) by (show _ = min _ _); omega)
            have q2 : (flat (m.drop a)).length = (m.length - a) * 4 := by rw [flat_len, List.length_drop]
            have q3 : (a + 1) * 4 + (flat (m.drop a)).length ≤ cur.size := by rw [q2, hcs]; omega
            have q4 : ∀ j v, (flat (m.drop a))[j]? = some v → (World.drew w2).cell? ((⟨G, a * 4, none⟩ : Addr).add j) = some v := fun j v hv => by
              refine cells_drop (w := World.drew w2) hHas.out HTK.out (n := a) (by simp; omega) j v ?_
              rw [List.drop_append_of_le_length ham, flat_append, List.getElem?_append_left (by
                rcases Nat.lt_or_ge j (flat (m.drop a)).length with h3 | h3
                · exact h3
                · rw [List.getElem?_eq_none h3] at hv; cases hv)]
              exact hv
            have HAC := Lib.hid hac
            have Q2 := Lib.hid q2
            have HCS := Lib.hid hcs
            clear hac q2 hcs
            have e2 : (0 : Int) ≤ (a : Int) + 1 := by omega
            have e3 : ((a : Int) + 1).toNat = a + 1 := by omega
            have e1 : IntKind.i64.wrap ((a : Int) + 1) = (a : Int) + 1 := IntWalk.i64_in _ (by omega)
            go_region_law ((refine step_copyK rfl (.tmp 48) (.tmp 51) 23 23 (by rfl) 30 4 Tryd.underlying23 hsz4 G ((a + 1) * 4) (m.length + 1 - (a + 1)) (cap - (a + 1)) ⟨G, a * 4, none⟩ (m.length + 1 - a) (cap - a) (by simp [Act.eval, Act.put]) (by simp [Act.eval, Act.put]) cur 30 hHas.out (m.length - a) (flat (m.drop a)) q1.out Q2.out q4 q3 (flat_ones _) ?_; intro w3 hH3 hgr3))
            clear e1 e2 e3
            have hB3 : Below w.heap.size w w3 := hB2.drew.grown hgr3 hB2.size (fun i hi => by cases hi; exact hG)
            have hRow3 := row_shift hRow ham
            have q2 := Q2.out
            have hcs := HCS.out
            have hcs3 : (cur.toList.take ((a + 1) * 4) ++ flat (m.drop a) ++ cur.toList.drop ((a + 1) * 4 + (flat (m.drop a)).length)).toArray.size = cap * 4 := by simp [List.length_take, List.length_drop]; omega
            generalize (cur.toList.take ((a + 1) * 4) ++ flat (m.drop a) ++ cur.toList.drop ((a + 1) * 4 + (flat (m.drop a)).length)).toArray = cur3 at *
            replace hH3 : Has w3 G 30 cur3 := hH3
            obtain ⟨x1, x2, x3, x4⟩ := HX.out 0 _ hB3
            have hfz := hH3.frozen
            obtain ⟨z1, z2, z3, z4⟩ := row_cells hH3 hRow3 (n := a) (by simp [List.length_take]; omega)
            go_wp2_with fail
            have hRow4 := row_insert hRow ham x _ hRow3
            have hH4 := (((hH3.set_ (a * 4) (.string x.lo.key)).set_ (a * 4 + 1) (.bool x.lo.top)).set_ (a * 4 + 2) (.string x.hi.key)).set_ (a * 4 + 3) (.bool x.hi.top)
            have hB4 := (((hB3.setCell (p := ⟨G, a * 4, none⟩) hG (.string x.lo.key)).setCell (p := ⟨G, a * 4 + 1, none⟩) hG (.bool x.lo.top)).setCell (p := ⟨G, a * 4 + 2, none⟩) hG (.string x.hi.key)).setCell (p := ⟨G, a * 4 + 3, none⟩) hG (.bool x.hi.top)
            have hml2 : (m.take a ++ [x] ++ m.drop a).length = m.length + 1 := by simp [List.length_take, List.length_drop]; omega
            have ht4 := take_of_row hRow4
            rw [hml2] at ht4
            go_roundw
            case rel => exact ⟨k + 1, m.take a ++ [x] ++ m.drop a, hlt, by go_num, by rw [hml2]; exact ⟨by rw [flat_len, hml2], .inr ⟨G, _, _, rfl, hG, hH4, hlcap, hcapm', by simpa using hcs3, ht4⟩⟩, hB4, by omega, Lib.hid (H2.out a HE.out ham HJ.out.1 HJ.out.2)⟩
            case measure => simp [intOf]; omega
      · clear hev
        go_wp2_with ((go_at_call 32; (with_reducible refine (emp_ref x _).mono ?_); rintro e w1 ⟨he1, hb1⟩; rw [HE.out] at he1; subst he1))
        go_roundw
        case rel => exact ⟨k + 1, m, hlt, by go_num, own_below hown hb1, below_step3 hB hb1, by omega, Lib.hid (H1.out HE.out)⟩
        case measure => simp [intOf]; omega
    · have hkl : k = l.length := by omega
      subst hkl
      obtain ⟨A1, c1, rfl, hmc, hcm1, hR⟩ := own_rgs5 hown
      unfold maxLen at hcm1
      have hSI := HI.out
      unfold SInv at hSI
      rw [List.take_length] at hSI
      obtain ⟨hperm, hpw⟩ := hSI
      have HP := Lib.hid hperm
      have HM := Lib.hid (show ∀ r ∈ m, r.emp = false from fun r hr => by
        have := hperm.mem_iff.1 hr
        simpa [keep] using (List.mem_filter.1 this).2)
      have HS := Lib.hid (show ∀ i j (hi : i < j) (hj : j < m.length), (m[i]'(by omega)).lo.cmp m[j].lo ≤ 0 from fun i j hi hj => List.pairwise_iff_getElem.1 hpw i j (by omega) hj hi)
      have hm1 : m.length ≤ 1000 := by omega
      have hws : ∃ ws, ws = wr := ⟨wr, rfl⟩
      obtain ⟨ws, rfl⟩ := hws
      have hwz := hB.size
      clear hperm hpw hown HI
      go_wp2_with fail
      go_loopw [6, 7] (fun out i wz => ∃ (j : Nat) (u : List Rg), j ≤ m.length ∧ i = .int .i64 j ∧ wz.ownsRow ws.heap.size 30 4 out u.length (flat u) ∧ Below ws.heap.size ws wz ∧ Hid (MInv m j u)) (fun _ i _ => m.length - (intOf i).toNat)
      case atStart => exact ⟨0, [], Nat.zero_le _, rfl, World.ownsRow_nil _ _ _ _, Below.refl _ _, Lib.hid (minv_nil m)⟩
      case round =>
        obtain ⟨j, u, hj, rfl, hown, hBz, HI⟩ := hrel
        have HL := Lib.hid HI.out.1.2.2
        by_cases hjl : j < m.length
        · obtain ⟨b, o, hA, hb, hcell⟩ := hR (by intro e; rw [e] at hjl; simp at hjl)
          subst hA
          obtain ⟨x1, x2, x3, x4⟩ := hcell j hjl
          have HX := Lib.hid (fun (w1 : World) (h : Below ws.heap.size ws w1) => (⟨(h.cell (p := ⟨b, o + j * 4, none⟩) hb).trans x1, (h.cell (p := ⟨b, o + j * 4 + 1, none⟩) hb).trans x2, (h.cell (p := ⟨b, o + j * 4 + 2, none⟩) hb).trans x3, (h.cell (p := ⟨b, o + j * 4 + 3, none⟩) hb).trans x4⟩ : w1.cell? ⟨b, o + j * 4, none⟩ = some (.string m[j].lo.key) ∧ w1.cell? ⟨b, o + j * 4 + 1, none⟩ = some (.bool m[j].lo.top) ∧ w1.cell? ⟨b, o + j * 4 + 2, none⟩ = some (.string m[j].hi.key) ∧ w1.cell? ⟨b, o + j * 4 + 3, none⟩ = some (.bool m[j].hi.top)))
          clear hcell x1 x2 x3 x4
          have H1 := Lib.hid (fun (e : u = []) => minv_first HM.out HS.out (e ▸ HI.out) hjl)
          have H2 := Lib.hid (fun ini q (e : u = ini ++ [q]) => minv_push HM.out HS.out (e ▸ HI.out) hjl)
          have H3 := Lib.hid (fun ini q (e : u = ini ++ [q]) => minv_into HM.out (e ▸ HI.out) hjl)
          generalize m[j] = x at *
          have i0' : (0 : Int) ≤ (j : Int) := by omega
          have i1 : (j : Int) < (m.length : Int) := by omega
          rcases List.eq_nil_or_concat u with hu | ⟨ini, q, hu⟩
          · subst hu
            obtain ⟨A9, c9, rfl, _, _, _⟩ := own_rgs5 hown
            have hoa : wr.ownsRow ws.heap.size 30 4 (.slice A9 0 c9) 0 [] := hown
            clear hown
            go_wp2_with fail
            go_quiet (fail)
            replace hoa := own_below hoa (below_drewN (Below.refl _ _) nq)
            replace hBz := below_drewN hBz nq
            generalize (World.drewN wr nq) = wq at *
            obtain ⟨x1, x2, x3, x4⟩ := HX.out _ hBz
            go_wp2_with (at_builtin; refine wpList_append_own _ rfl _ _ 23 rfl ws.heap.size 30 i0 _ 4 48 Tryd.underlying23 hi0 hz0 hz1 hz2 rfl (by decide) _ _ _ rfl (own_below hoa ((Below.refl _ _).alloc (Nat.le_refl _) _)) ⟨wq.heap.size, 0, none⟩ 1 1 [.string x.lo.key, .bool x.lo.top, .string x.hi.key, .bool x.hi.top] rfl rfl (news4 _ _ _ _ _ _) (ones4 _ _ _ _) ?c3 ?c4 ?c5 ?_)
            case c3 => decide
            case c4 => decide
            case c5 => have := hBz.size; simp; omega
            intro v' w5 hown' hgrow hnil
            go_wp2
            go_roundw
            case rel => exact ⟨j + 1, [x], hjl, by go_num, hown', (hBz.alloc hBz.size _).grown hgrow (by have := hBz.size; simp; omega) (fun i hi => own_base hoa hi), Lib.hid (H1.out trivial)⟩
            case measure => simp [intOf]; omega
          · have hu' : u = ini ++ [q] := by rw [hu]; simp
            clear hu
            subst hu'
            obtain ⟨G, cap, cur, rfl, hG, hblk, hlcap, hcapm, hcs, htk⟩ := own_row6 hown rfl (by simp)
            have hRow := row_of_take htk
            have hnl : (ini ++ [q]).length = ini.length + 1 := by simp
            obtain ⟨y1, y2, y3, y4⟩ := row_cells hblk hRow (n := ini.length) (by omega)
            have hq : (ini ++ [q])[ini.length]'(by omega) = q := by simp
            rw [hq] at y1 y2 y3 y4
            have hcap := HL.out
            rw [hnl] at hlcap hcap
            have hTK := List.length_take_le j m
            replace hcap : ini.length + 1 ≤ 1000 := by omega
            obtain ⟨N, hN⟩ : ∃ N, (ini ++ [q]).length = N := ⟨_, rfl⟩
            rw [hN] at hown
            rw [hN]
            rw [hN] at hnl
            have HNN := Lib.hid hN
            clear hN hTK
            subst hnl
            have hGlt := Has.lt hblk
            have r2 := fun (w' : World) (h : Below wr.heap.size wr w') => (h.cell (p := ⟨G, ini.length * 4 + 2, none⟩) hGlt).trans y3
            have r3 := fun (w' : World) (h : Below wr.heap.size wr w') => (h.cell (p := ⟨G, ini.length * 4 + 3, none⟩) hGlt).trans y4
            have r4 := fun (w' : World) (h : Below wr.heap.size wr w') => (HX.out w' (hBz.trans (h.mono hBz.size)))
            have i2 : (0 : Int) ≤ (ini.length : Int) := by omega
            have i3 : (ini.length : Int) < (ini.length : Int) + 1 := by omega
            clear y1 y2 y3 y4
            obtain ⟨cv, hcv⟩ : ∃ cv, x.lo.cmp q.hi = cv := ⟨_, rfl⟩
            have HCV := Lib.hid hcv
            clear hcv
            have HCS := Lib.hid hcs
            clear hcs
            go_wp2_with fail
            have e1 : IntKind.i64.wrap ((ini.length : Int) + 1 - 1) = (ini.length : Int) := by rw [Int.add_sub_cancel]; exact IntWalk.i64_in _ (by omega)
            have e2 : IntKind.i64.wrap ((ini.length : Int) + 1 + -1) = (ini.length : Int) := by rw [show (ini.length : Int) + 1 + -1 = ini.length by omega]; exact IntWalk.i64_in _ (by omega)
            have e5 : IntKind.i64.wrap (ini.length : Int) = (ini.length : Int) := IntWalk.i64_in _ (by omega)
            go_region_held3 (fun wz => Below wr.heap.size wr wz) (first | with_reducible exact hS1 | with_reducible exact (Below.refl _ _).drew | with_reducible assumption) ((go_at_call 33; refine (cmp_ref _ _ _).mono ?_; rintro e w5 ⟨he5, hb5⟩; rw [HCV.out] at he5; subst he5; have hS1 := Below.trans (show Below wr.heap.size wr _ by assumption) (hb5.mono (Below.size (show Below wr.heap.size wr _ by assumption)))))
            have z3 := r2 _ hS1
            have z4 := r3 _ hS1
            have hG5 : G < (World.drew w5).heap.size := Nat.lt_of_lt_of_le hGlt hS1.size
            have hHG : Has w5 G 30 cur := hblk.below hS1
            have ho5 := own_below hown hS1
            have hB5 := hBz.trans (hS1.mono hBz.size)
            obtain ⟨x1, x2, x3, x4⟩ := HX.out _ hB5
            clear r2 r3 r4 hown e1 e2 e5
            by_cases hcv0 : cv ≤ 0
            · go_wp2_with fail
              have e1 : IntKind.i64.wrap ((ini.length : Int) + 1 - 1) = (ini.length : Int) := by rw [Int.add_sub_cancel]; exact IntWalk.i64_in _ (by omega)
              have e2 : IntKind.i64.wrap ((ini.length : Int) + 1 + -1) = (ini.length : Int) := by rw [show (ini.length : Int) + 1 + -1 = ini.length by omega]; exact IntWalk.i64_in _ (by omega)
              have e5 : IntKind.i64.wrap (ini.length : Int) = (ini.length : Int) := IntWalk.i64_in _ (by omega)
              go_region_with ((go_at_call 58; refine (hi_ref ⟨_, _⟩ ⟨_, _⟩ _).mono ?_; rintro e w6 ⟨he6, hb6⟩; rw [hiR_eq] at he6; (generalize hr : Bd.hiK _ _ = rr at he6); obtain ⟨rk, rt⟩ := rr; subst he6; have R1 := Lib.hid hr; clear hr; have g3 := (hb6.cell (p := ⟨G, ini.length * 4 + 2, none⟩) hG5).trans z3; have g4 := (hb6.cell (p := ⟨G, ini.length * 4 + 3, none⟩) hG5).trans z4; have hH6 := Has.below (show Has (World.drew w5) G 30 cur from hHG) hb6; have f6 := hH6.frozen))
              all_goals
                clear e1 e2 e5
                go_wp2
                go_roundw
                case rel => exact ⟨j + 1, ini ++ [⟨q.lo, ⟨rk, rt⟩⟩], hjl, by go_num, by rw [List.length_append]; exact own_last hH6 hG hlcap hcapm HCS.out hRow ⟨rk, rt⟩, ((hB5.trans ((below_drew5 hb6).mono hB5.size)).setCell hG _).setCell hG _, Lib.hid (R1.out ▸ H3.out ini q rfl (by rw [HCV.out]; exact hcv0))⟩
                case measure => simp [intOf]; omega
            · go_wp2_with (at_builtin; refine wpList_append_own _ rfl _ _ 23 rfl ws.heap.size 30 i0 _ 4 48 Tryd.underlying23 hi0 hz0 hz1 hz2 rfl (by decide) _ _ _ rfl (own_below ho5 ((Below.refl _ _).alloc (Nat.le_refl _) _)) ⟨w5.heap.size, 0, none⟩ 1 1 [.string x.lo.key, .bool x.lo.top, .string x.hi.key, .bool x.hi.top] rfl rfl (news4 _ _ _ _ _ _) (ones4 _ _ _ _) ?c3 ?c4 ?c5 ?_)
              case c3 => unfold maxLen; omega
              case c4 => omega
              case c5 => have := hB5.size; simp; omega
              intro v' w6 hown' hgrow hnil
              go_wp2
              go_roundw
              case rel => exact ⟨j + 1, ini ++ [q] ++ [x], hjl, by go_num, by rw [List.length_append, HNN.out, flat_append (ini ++ [q])]; exact hown', (hB5.alloc hB5.size _).grown hgrow (by have := hB5.size; simp; omega) (fun i hi => own_base ho5 hi), Lib.hid (H2.out ini q rfl (by rw [HCV.out]; omega))⟩
              case measure => simp [intOf]; omega
        · have hjm : j = m.length := by omega
          go_wp2_with fail
          go_ret
          refine ⟨u, minv_end HP.out (hjm ▸ HI.out), _, rfl, own_less hown hwz, hB.trans (hBz.mono hwz)⟩
end Go.Proofs.YtofandkijmbplaaDoor
