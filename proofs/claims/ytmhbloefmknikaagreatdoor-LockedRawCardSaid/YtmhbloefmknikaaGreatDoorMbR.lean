/-
  Members of the reference of chapter 11, the walk. Conditions: the list can be read; no list is long.
-/
import Derived.Test.YtmhbloefmknikaaGreatDoorMbQ
import Derived.Test.YtmhbloefmknikaaGreatDoorMbH
import Derived.Test.YtmhbloefmknikaaGreatDoorKzV
import Derived.BigQuiet
import Derived.Deep.RegionHeld3
import Derived.Deep.CutBlock
import Derived.Deep.RegionLaw
import Derived.Test.YtmhbloefmknikaaGreatDoorLaD
namespace Go.Proofs.YtmhbloefmknikaaGreatDoor
open Go.RowKit Go.Maps
namespace Lk
set_option maxRecDepth 100000 in
set_option maxHeartbeats 12800000 in
theorem rmem_any (A1 A2 : Option Addr) (l : Ls) (n m c1 c2 : Nat) (w : World) (hn : l.cs.length = n) (hm : l.ps.length = m) (h : RdL w 0 A1 A2 l) (n9 : n ≤ 1000000) (m9 : m ≤ 1000000) :
    Calls Tryz.prog 21 #[.agg #[.slice A1 n c1, .slice A2 m c2]] w (NumP (if vldB l then nat2 (memV l) else []) w) := by
  have hb := (Below.refl w.heap.size w).alloc (Nat.le_refl _) (.cells #[.slice A1 n c1, .slice A2 m c2] 28)
  have HB := Lib.hid hb
  have HX := Lib.hid (Has.new w 28 #[.slice A1 n c1, .slice A2 m c2])
  have HL := Lib.hid (h.below hb)
  have HVA := Lib.hid (rvalid_any A1 A2 l n m c1 c2 _ hn hm HL.out n9 m9)
  have x0 := HX.out.cell 0
  have x1 := HX.out.cell 1
  by_cases v : Vld l
  · have H1 := Lib.hid (HVA.out.mono fun e w' h => h.yes v)
    have HV := Lib.hid v
    have HN := Lib.hid hn
    have n2 : 2 ≤ n := by rw [← hn]; exact v.n2
    have n66 : n ≤ 66 := by rw [← hn]; exact v.n66
    rw [vldB_yes v, if_pos rfl]
    clear hb h hn hm v HVA
    go_enter Tryz.func21, Tryz.ntmps21
    go_upto_region 1 with fail
    have hW : (w.alloc (.cells #[.slice A1 n c1, .slice A2 m c2] 28)).heap.size = w.heap.size + 1 := World.size_alloc _ _
    generalize w.alloc (.cells #[.slice A1 n c1, .slice A2 m c2] 28) = W at *
    obtain ⟨B, hB⟩ : ∃ B, B = w.heap.size := ⟨_, rfl⟩
    have HBB := Lib.hid hB
    rw [← hB] at HB HX hW x0 x1 ⊢
    clear hB
    go_wp2_with fail
    refine (H1.out).mono ?_
    rintro e w2 ⟨rfl, hb2⟩
    have HX2 := Lib.hid (HX.out.below hb2)
    replace x0 := HX2.out.cell 0
    replace x1 := HX2.out.cell 1
    have HB2 := Lib.hid hb2
    obtain ⟨S, hS⟩ : ∃ S, S = w2.heap.size := ⟨_, rfl⟩
    have HSS := Lib.hid hS
    have hSB : B + 1 ≤ S := by have := hb2.size; omega
    clear hS hb2 hW
    go_wp2_with fail
    go_loopw [3, 4] (fun vo vi wo => ∃ (i : Nat) (u3 : Value) (O : List Nat), vi = .int .i64 (i : Int) ∧ u3 = vo ∧ 2 ≤ i ∧ i ≤ n ∧ OwnR nrow 1 3 wo S u3 (nat2 O) ∧ Below S w2 wo ∧ Hid (InsI l i O)) (fun _ vi _ => n - (intOf vi).toNat)
    case atStart => exact ⟨2, _, [], rfl, rfl, Nat.le_refl _, n2, OwnR.nil, by rw [HSS.out]; exact Below.refl _ _, Lib.hid InsI.start⟩
    case round =>
      obtain ⟨i, u3, O, rfl, rfl, hi2, hi, ho, hbo, HI⟩ := hrel
      rename World => wo
      have HBO := Lib.hid hbo
      have hso : S ≤ wo.heap.size := by have := hbo.size; have := HSS.out; omega
      have HXo := Lib.hid (HX2.out.below (by rw [← HSS.out]; exact hbo))
      replace x0 := HXo.out.cell 0
      replace x1 := HXo.out.cell 1
      obtain ⟨A3, p3, q3, hv3⟩ := own_sh ho
      subst hv3
      have HO := Lib.hid ho
      have HBW := Lib.hid (HB2.out.trans (hbo.mono (by rw [HSS.out]; exact HB2.out.size)))
      clear ho hbo
      by_cases hlt : i < n
      · obtain ⟨b, o, e, -, hb, -, -, -, -, f4⟩ := HL.out.cell (i := i) (by rw [HN.out]; exact hlt)
        subst e
        replace f4 := (HBW.out.cell (p := ⟨b, o + i * 5 + 4, none⟩) hb).trans f4
        have i0 : (0 : Int) ≤ (i : Int) := by omega
        have i1 : (i : Int) < (n : Int) := by omega
        have HLT := Lib.hid hlt
        clear hb
        cases hg : (l.at_ i).gone with
        | true =>
          rw [hg] at f4
          have HSK := Lib.hid (HI.out.skip hg)
          clear hg
          go_wp2_with fail
          exact ⟨⟨i + 1, _, O, by go_num, rfl, by omega, HLT.out, HO.out, HBO.out, HSK⟩, by simp [intOf]; omega⟩
        | false =>
          rw [hg] at f4
          have HG := Lib.hid hg
          obtain ⟨A8, q8, hv8, _, _, hr8⟩ := HO.out.read (fun _ => rfl)
          injection hv8 with g1 g2 g3
          subst g1
          rw [nat2_len] at g2
          have HN3 : Hid (O.length = p3) := Lib.hid g2.symm
          have HR8 := Lib.hid hr8
          have hp3 : p3 + 2 ≤ i := by rw [g2]; exact HI.out.len
          clear g2 g3 hr8 hg
          go_upto_block 2 with fail
          go_cut [5] (fun v5 wx => ∃ a : Nat, v5 = .int .i64 (a : Int) ∧ a ≤ p3 ∧ Below wo.heap.size wo wx ∧ Hid ((∀ q : a - 1 < O.length, 1 ≤ a → blw l i O[a - 1] = false) ∧ ∀ j (q : j < O.length), a ≤ j → blw l i O[j] = true))
          case first =>
            go_wp2_with fail
            go_loopw [5] (fun v5 wz => ∃ a : Nat, v5 = .int .i64 (a : Int) ∧ a ≤ p3 ∧ Below wo.heap.size wo wz ∧ Hid (∀ j (hj : j < O.length), a ≤ j → blw l i O[j] = true)) (fun v5 _ => (intOf v5).toNat)
            case atStart => exact ⟨p3, rfl, Nat.le_refl _, Below.refl _ _, Lib.hid (fun j h1 h2 => by rw [HN3.out] at h1; omega)⟩
            case round =>
              obtain ⟨a, rfl, han, hbz, HJ⟩ := hrel
              rename World => wz
              have HZ := Lib.hid hbz
              have HXZ := Lib.hid (HXo.out.below hbz)
              replace x0 := HXZ.out.cell 0
              replace x1 := HXZ.out.cell 1
              clear f4
              rcases Nat.eq_zero_or_pos a with ha0 | ha0
              · subst ha0
                have HA : Hid ((∀ q : 0 - 1 < O.length, 1 ≤ 0 → blw l i O[0 - 1] = false) ∧ ∀ j (q : j < O.length), 0 ≤ j → blw l i O[j] = true) := Lib.hid ⟨fun _ h => absurd h (by omega), HJ.out⟩
                clear hbz
                go_wp2_with fail
                go_quiet (fail)
                go_wp2_with fail
                go_meet
                exact ⟨0, rfl, Nat.zero_le _, below_drw HZ.out _, HA⟩
              · obtain ⟨a', rfl⟩ : ∃ a', a = a' + 1 := ⟨a - 1, by omega⟩
                have ha2 : a' < O.length := by rw [HN3.out]; omega
                obtain ⟨b7, o7, e7, -, hb7, t7⟩ := num_at HR8.out (i := a') (by rw [nat2_len]; exact ha2)
                subst e7
                obtain ⟨y, hy⟩ : ∃ y, y = O[a'] := ⟨_, rfl⟩
                have hny : (nat2 O)[a']'(by rw [nat2_len]; exact ha2) = (y : Int) := by rw [hy]; simp [nat2]
                rw [hny] at t7
                have HY := Lib.hid hy
                have hyl : y < i := by rw [hy]; exact HI.out.lt (List.getElem_mem _)
                have y7 := (hbz.cell (p := ⟨b7, o7 + a', none⟩) hb7).trans t7
                have HSF := Lib.hid (fun (U : World) (k : Below wz.heap.size wz U) => (⟨(HXZ.out.below k).cell 0, (HXZ.out.below k).cell 1, (k.cell (p := ⟨b7, o7 + a', none⟩) (Nat.lt_of_lt_of_le hb7 hbz.size)).trans y7, k⟩ : U.cell? ⟨B, 0, none⟩ = some (.slice (some ⟨b, o, none⟩) n c1) ∧ U.cell? ⟨B, 1, none⟩ = some (.slice A2 m c2) ∧ U.cell? ⟨b7, o7 + a', none⟩ = some (.int .i64 (y : Int)) ∧ Below wz.heap.size wz U))
                have HC5 := Lib.hid (rblw_any (some ⟨b, o, none⟩) A2 l n m c1 c2 i y 0 wz.drew HN.out ((HL.out.cs).below ((HBW.out.trans (hbz.mono HBW.out.size)).drew)) HLT.out (by omega))
                have hS0 := HSF.out wz.drew (Below.refl _ wz).drew
                have i2 : (0 : Int) ≤ (a' : Int) := by omega
                have i3 : (a' : Int) < (p3 : Int) := by omega
                rw [show ((a' + 1 : Nat) : Int) = (a' : Int) + 1 from by omega]
                have dg : decide ((a' : Int) + 1 > 0) = true := decide_eq_true (by omega)
                have dg' : decide ((0 : Int) < (a' : Int) + 1) = true := decide_eq_true (by omega)
                clear hy hny t7 y7 hbz
                cases hbl : blw l i y with
                | true =>
                  rw [hbl] at HC5
                  have HBL := Lib.hid hbl
                  clear hbl
                  go_wp2_with fail
                  have e1 : IntKind.i64.wrap ((a' : Int) + 1 - 1) = (a' : Int) := by rw [Int.add_sub_cancel]; exact IntWalk.i64_in _ (by omega)
                  have e2 : IntKind.i64.wrap ((a' : Int) + 1 + -1) = (a' : Int) := by rw [show (a' : Int) + 1 + -1 = a' by omega]; exact IntWalk.i64_in _ (by omega)
                  have e5 : IntKind.i64.wrap (a' : Int) = (a' : Int) := IntWalk.i64_in _ (by omega)
                  go_region_held3 (fun U => U.cell? ⟨B, 0, none⟩ = some (.slice (some ⟨b, o, none⟩) n c1) ∧ U.cell? ⟨B, 1, none⟩ = some (.slice A2 m c2) ∧ U.cell? ⟨b7, o7 + a', none⟩ = some (.int .i64 (y : Int)) ∧ Below wz.heap.size wz U) (first | with_reducible exact hS7 | with_reducible exact hS0) ((go_at_call 60; refine (HC5.out).mono ?_; rintro e w7 ⟨rfl, hb7⟩; have hS7 := HSF.out _ (((Below.refl _ wz).drew).trans hb7)))
                  have HB8 := Lib.hid (HZ.out.trans (hS7.2.2.2.mono HZ.out.size))
                  clear hS7 hb7
                  go_wp2_with fail
                  exact ⟨⟨a', by go_num, by omega, HB8.out, Lib.hid (fun j h1 h2 => by
                    rcases Nat.lt_or_ge a' j with q | q
                    · exact HJ.out j h1 q
                    · obtain rfl : j = a' := by omega
                      rw [← HY.out]; exact HBL.out)⟩, by simp [intOf]⟩
                | false =>
                  rw [hbl] at HC5
                  have HA : Hid ((∀ q : a' + 1 - 1 < O.length, 1 ≤ a' + 1 → blw l i O[a' + 1 - 1] = false) ∧ ∀ j (q : j < O.length), a' + 1 ≤ j → blw l i O[j] = true) := Lib.hid ⟨fun q _ => by
                    show blw l i O[a'] = false
                    rw [← HY.out]; exact hbl, HJ.out⟩
                  clear hbl
                  go_wp2_with fail
                  have e1 : IntKind.i64.wrap ((a' : Int) + 1 - 1) = (a' : Int) := by rw [Int.add_sub_cancel]; exact IntWalk.i64_in _ (by omega)
                  have e2 : IntKind.i64.wrap ((a' : Int) + 1 + -1) = (a' : Int) := by rw [show (a' : Int) + 1 + -1 = a' by omega]; exact IntWalk.i64_in _ (by omega)
                  have e5 : IntKind.i64.wrap (a' : Int) = (a' : Int) := IntWalk.i64_in _ (by omega)
                  go_region_held3 (fun U => U.cell? ⟨B, 0, none⟩ = some (.slice (some ⟨b, o, none⟩) n c1) ∧ U.cell? ⟨B, 1, none⟩ = some (.slice A2 m c2) ∧ U.cell? ⟨b7, o7 + a', none⟩ = some (.int .i64 (y : Int)) ∧ Below wz.heap.size wz U) (first | with_reducible exact hS7 | with_reducible exact hS0) ((go_at_call 60; refine (HC5.out).mono ?_; rintro e w7 ⟨rfl, hb7⟩; have hS7 := HSF.out _ (((Below.refl _ wz).drew).trans hb7)))
                  have HB8 := Lib.hid (HZ.out.trans (hS7.2.2.2.mono HZ.out.size))
                  clear hS7 hb7
                  go_wp2_with fail
                  go_meet
                  exact ⟨a' + 1, by go_num, han, HB8.out, HA⟩
          case rest =>
            obtain ⟨a, rfl, han, hb4, HA⟩ := hcut
            have HO4 := Lib.hid (HO.out.below hb4)
            have HBS := Lib.hid (HBO.out.trans (hb4.mono hso))
            have hsc : S ≤ wc.heap.size := by have := hb4.size; omega
            have HXC := Lib.hid (HXo.out.below hb4)
            replace x0 := HXC.out.cell 0
            replace x1 := HXC.out.cell 1
            have HOR := Lib.hid (HI.out.put HV.out (by rw [HN.out]; exact HLT.out) hi2 HG.out (by rw [HN3.out]; exact han) HA.out.1 HA.out.2)
            clear f4 hb4 HR8
            go_wp2_with (at_builtin; go_loud (refine wpList_pushR RowT.nu rfl (.tmp 38) (.tmp 39) rfl S (.slice A3 p3 q3) (nat2 O) wc (0 : Int) _ rfl (by simp [Act.eval]) HO4.out (by simp [Act.eval]) (by rw [nat2_len]; have := HN3.out; omega) (by omega) ?_; intro v6 w6 ho6 hg6 hat6; obtain ⟨G, cap, pad, hv6, hG6, hcl, hcm, hH6, hback⟩ := nu_open ho6 (by simp); have hnl : (nat2 O ++ [(0 : Int)]).length = p3 + 1 := (by rw [List.length_append, nat2_len, HN3.out]; rfl); rw [hnl] at hv6 hcl hback; subst hv6; have HH6 := Lib.hid hH6; have HBK := Lib.hid hback; have hb6 := grown_below hg6 hsc (fun j e => (HO4.out.lt j e).1); have HB6 := Lib.hid (HBS.out.trans hb6); clear ho6 hg6 hat6 hH6 hback hb6))
            have hcm2 : cap ≤ 9223372036854775807 := hcm
            obtain ⟨q, hq⟩ : ∃ q, q = (nat2 O ++ [(0 : Int)]).take (a + 1) ++ (nat2 O).drop a := ⟨_, rfl⟩
            have ham2 : a ≤ (nat2 O).length := by rw [nat2_len, HN3.out]; exact han
            have HQ : Hid (q.set a (i : Int) = (nat2 O).take a ++ [(i : Int)] ++ (nat2 O).drop a) := Lib.hid (by rw [hq]; exact nv_set ham2 _)
            have HQL : Hid (q.length = p3 + 1) := Lib.hid (by rw [hq, List.length_append, List.length_take, List.length_drop, hnl, nat2_len, HN3.out]; omega)
            have HQF := Lib.hid hq
            have HNL := Lib.hid hnl
            clear hq ham2 hnl HO4
            have c0 : (0 : Int) ≤ (a : Int) := by omega
            have c2 : (a : Int) ≤ (p3 : Int) + 1 := by omega
            have c3 : (a : Int) + 1 ≤ (p3 : Int) + 1 := by omega
            have c4 : (p3 : Int) + 1 ≤ (cap : Int) := by omega
            have c5 : (a : Int) ≤ (cap : Int) := by omega
            have c6 : (a : Int) + 1 ≤ (cap : Int) := by omega
            have c7 : (a : Int) < (p3 : Int) + 1 := by omega
            have d2 : ¬ cap = a := by omega
            have e2 : (0 : Int) ≤ (a : Int) + 1 := by omega
            have e3 : ((a : Int) + 1).toNat = a + 1 := by omega
            have e1 : IntKind.i64.wrap ((a : Int) + 1) = (a : Int) + 1 := IntWalk.i64_in _ (by omega)
            by_cases hac : a = p3
            · have HQE : Hid (q = nat2 O ++ [(0 : Int)]) := Lib.hid (by rw [HQF.out, hac, ← HN3.out, ← nat2_len O, List.drop_length, List.append_nil, List.take_of_length_le (by simp)])
              by_cases hcap : cap = a + 1
              · subst hcap
                have q1 := Lib.hid (show Nat.min (p3 + 1 - a) 0 = 0 by (show min _ _ = 0); omega)
                clear hac
                have d9 : (a : Int) ≤ (a : Int) + 1 := by omega
                go_region_law ((refine step_copyR_none rfl (.tmp 44) (.tmp 47) 22 22 (by rfl) 3 1 Tryz.underlying22 hsz1 (some ⟨G, 0, none⟩) (some ⟨G, a, none⟩) 0 0 (p3 + 1 - a) 1 (by simp [Act.eval, Act.put]) (by simp [Act.eval, Act.put]) q1.out ?_))
                clear e1 e2 e3 d9
                have hB3 := HB6.out.drew
                have hH3 : Has w6.drew G 3 (nv q ++ pad).toArray := by rw [HQE.out]; exact HH6.out
                generalize w6.drew = w3 at *
                have hfz9 := hH3.frozen a
                have hz9 := hH3.cell a
                have hzz9 : w3.cell? ⟨G, a, none⟩ = some (.int .i64 ((q.getD a 0))) := by
                  rw [hz9, List.getElem?_toArray, List.getElem?_append_left (by simp [nv, HQL.out]; omega)]
                  simp only [nv, List.getElem?_map]
                  rw [List.getD_eq_getElem?_getD, List.getElem?_eq_getElem (by rw [HQL.out]; omega)]
                  rfl
                have hH4 := hH3.set_ a (.int .i64 (i : Int))
                simp only [List.setIfInBounds_toArray] at hH4
                rw [List.set_append_left _ _ (by simp [nv, HQL.out]; omega)] at hH4
                have hset : (nv q).set a (.int .i64 (i : Int)) = nv (nat2 (O.take a ++ [i] ++ O.drop a)) := by
                  unfold nv
                  rw [← List.map_set, HQ.out]
                  simp [nat2, List.map_take, List.map_drop]
                rw [hset] at hH4
                have HO9 := Lib.hid (HBK.out _ (nat2 (O.take a ++ [i] ++ O.drop a)) (by rw [nat2_len, List.length_append, List.length_append, List.length_take, List.length_drop]; have := HN3.out; simp; omega) hH4)
                have HB9 := Lib.hid (hB3.setCell (p := ⟨G, a, none⟩) hG6 (.int .i64 (i : Int)))
                clear hH3 hH4 hset hz9 hB3
                have hfz9' := hfz9
                go_wp2_with fail
                exact ⟨⟨i + 1, _, O.take a ++ [i] ++ O.drop a, by go_num, rfl, by omega, HLT.out, HO9.out, HB9.out, HOR⟩, by simp [intOf]; omega⟩
              · have d1 : ¬ cap = a + 1 := hcap
                have q1 := Lib.hid (show Nat.min (p3 + 1 - a) (p3 - a) = 0 by (show min _ _ = 0); omega)
                clear hac
                have d9 : (a : Int) ≤ (a : Int) + 1 := by omega
                go_region_law ((refine step_copyR_none rfl (.tmp 44) (.tmp 47) 22 22 (by rfl) 3 1 Tryz.underlying22 hsz1 (some ⟨G, a + 1, none⟩) (some ⟨G, a, none⟩) (p3 - a) (cap - (a + 1)) (p3 + 1 - a) (cap - a) (by simp [Act.eval, Act.put]) (by simp [Act.eval, Act.put]) q1.out ?_))
                clear e1 e2 e3 d9
                have hB3 := HB6.out.drew
                have hH3 : Has w6.drew G 3 (nv q ++ pad).toArray := by rw [HQE.out]; exact HH6.out
                generalize w6.drew = w3 at *
                have hfz9 := hH3.frozen a
                have hz9 := hH3.cell a
                have hzz9 : w3.cell? ⟨G, a, none⟩ = some (.int .i64 ((q.getD a 0))) := by
                  rw [hz9, List.getElem?_toArray, List.getElem?_append_left (by simp [nv, HQL.out]; omega)]
                  simp only [nv, List.getElem?_map]
                  rw [List.getD_eq_getElem?_getD, List.getElem?_eq_getElem (by rw [HQL.out]; omega)]
                  rfl
                have hH4 := hH3.set_ a (.int .i64 (i : Int))
                simp only [List.setIfInBounds_toArray] at hH4
                rw [List.set_append_left _ _ (by simp [nv, HQL.out]; omega)] at hH4
                have hset : (nv q).set a (.int .i64 (i : Int)) = nv (nat2 (O.take a ++ [i] ++ O.drop a)) := by
                  unfold nv
                  rw [← List.map_set, HQ.out]
                  simp [nat2, List.map_take, List.map_drop]
                rw [hset] at hH4
                have HO9 := Lib.hid (HBK.out _ (nat2 (O.take a ++ [i] ++ O.drop a)) (by rw [nat2_len, List.length_append, List.length_append, List.length_take, List.length_drop]; have := HN3.out; simp; omega) hH4)
                have HB9 := Lib.hid (hB3.setCell (p := ⟨G, a, none⟩) hG6 (.int .i64 (i : Int)))
                clear hH3 hH4 hset hz9 hB3
                have hfz9' := hfz9
                go_wp2_with fail
                exact ⟨⟨i + 1, _, O.take a ++ [i] ++ O.drop a, by go_num, rfl, by omega, HLT.out, HO9.out, HB9.out, HOR⟩, by simp [intOf]; omega⟩
            · have d1 : ¬ cap = a + 1 := by omega
              have q1 := Lib.hid (show p3 - a = Nat.min (p3 + 1 - a) (p3 + 1 - (a + 1)) by (show _ = min _ _); omega)
              have q2 : (nv ((nat2 O).drop a)).length = (p3 - a) * 1 := by simp [nv, nat2_len, HN3.out]
              have q3 : (a + 1) + (nv ((nat2 O).drop a)).length ≤ (nv (nat2 O ++ [(0 : Int)]) ++ pad).toArray.size := by
                rw [q2, List.size_toArray, List.length_append]
                simp only [nv, List.length_map]
                rw [HNL.out]
                omega
              have q4 : ∀ j v, (nv ((nat2 O).drop a))[j]? = some v → (World.drew w6).cell? ((⟨G, a, none⟩ : Addr).add j) = some v := fun j v hv => by
                have hjl : j < p3 - a := by
                  rcases Nat.lt_or_ge j (p3 - a) with h3 | h3
                  · exact h3
                  · rw [List.getElem?_eq_none (by omega)] at hv; cases hv
                rw [add_at]
                show w6.cell? ⟨G, a + j, none⟩ = some v
                rw [HH6.out.cell, List.getElem?_toArray, List.getElem?_append_left (by simp only [nv, List.length_map]; rw [HNL.out]; omega)]
                simp only [nv, List.getElem?_map] at hv ⊢
                rw [List.getElem?_drop] at hv
                rw [List.getElem?_append_left (by rw [nat2_len, HN3.out]; omega)]
                exact hv
              have HSH := Lib.hid (nv_shift (O := nat2 O) (pad := pad) (a := a) (by rw [nat2_len, HN3.out]; omega))
              have Q2 := Lib.hid q2
              have Q3 := Lib.hid q3
              have Q4 := Lib.hid q4
              clear hac q2 q3 q4
              go_region_law ((refine step_copyR rfl (.tmp 44) (.tmp 47) 22 22 (by rfl) 3 1 Tryz.underlying22 hsz1 G (a + 1) (p3 + 1 - (a + 1)) (cap - (a + 1)) ⟨G, a, none⟩ (p3 + 1 - a) (cap - a) (by simp [Act.eval, Act.put]) (by simp [Act.eval, Act.put]) (nv (nat2 O ++ [(0 : Int)]) ++ pad).toArray 3 HH6.out (p3 - a) (nv ((nat2 O).drop a)) q1.out Q2.out Q4.out Q3.out (nv_ones _) ?_; intro w3 hH3 hgr3))
              clear e1 e2 e3
              have hB3 : Below S w2 w3 := HB6.out.drew.grown hgr3 (by have := HB6.out.size; have := HSS.out; show S ≤ w6.heap.size; omega) (fun i hi => by cases hi; exact hG6)
              replace hH3 : Has w3 G 3 (nv q ++ pad).toArray := by
                rw [HQF.out, ← HSH.out]
                exact hH3
              clear hgr3
              have hfz9 := hH3.frozen a
              have hz9 := hH3.cell a
              have hzz9 : w3.cell? ⟨G, a, none⟩ = some (.int .i64 ((q.getD a 0))) := by
                rw [hz9, List.getElem?_toArray, List.getElem?_append_left (by simp [nv, HQL.out]; omega)]
                simp only [nv, List.getElem?_map]
                rw [List.getD_eq_getElem?_getD, List.getElem?_eq_getElem (by rw [HQL.out]; omega)]
                rfl
              have hH4 := hH3.set_ a (.int .i64 (i : Int))
              simp only [List.setIfInBounds_toArray] at hH4
              rw [List.set_append_left _ _ (by simp [nv, HQL.out]; omega)] at hH4
              have hset : (nv q).set a (.int .i64 (i : Int)) = nv (nat2 (O.take a ++ [i] ++ O.drop a)) := by
                unfold nv
                rw [← List.map_set, HQ.out]
                simp [nat2, List.map_take, List.map_drop]
              rw [hset] at hH4
              have HO9 := Lib.hid (HBK.out _ (nat2 (O.take a ++ [i] ++ O.drop a)) (by rw [nat2_len, List.length_append, List.length_append, List.length_take, List.length_drop]; have := HN3.out; simp; omega) hH4)
              have HB9 := Lib.hid (hB3.setCell (p := ⟨G, a, none⟩) hG6 (.int .i64 (i : Int)))
              clear hH3 hH4 hset hz9 hB3
              have hfz9' := hfz9
              go_wp2_with fail
              exact ⟨⟨i + 1, _, O.take a ++ [i] ++ O.drop a, by go_num, rfl, by omega, HLT.out, HO9.out, HB9.out, HOR⟩, by simp [intOf]; omega⟩
      · obtain rfl : i = n := by omega
        have HE : Hid (O = memV l) := Lib.hid (InsI.end_ (by rw [HN.out]; exact HI.out) HV.out)
        have HO9 : Hid (OwnR nrow 1 3 wo S (.slice A3 p3 q3) (nat2 (memV l))) := Lib.hid (by rw [← HE.out]; exact HO.out)
        go_wp2_with fail
        go_ret
        obtain ⟨A, c, e, q1, q2, q3⟩ := HO9.out.read (fun _ => rfl)
        injection e with e1 e2 e3
        subst e1 e3
        refine ⟨A3, p3, _, rfl, e2.symm, by omega, (HO9.out).low (by rw [← HBB.out]; omega), q3.low (by rw [← HBB.out]; omega), ?_⟩
        rw [← HBB.out]
        exact HB.out.trans (HBW.out.mono (by have := HB.out.size; have := HBB.out; omega))
  · have H1 := Lib.hid (HVA.out.mono fun e w' h => h.no v)
    rw [vldB_no v, if_neg Bool.false_ne_true]
    clear hb h hn hm v HVA
    go_enter Tryz.func21, Tryz.ntmps21
    go_upto_region 1 with fail
    generalize w.alloc (.cells #[.slice A1 n c1, .slice A2 m c2] 28) = W at *
    go_wp2_with fail
    refine (H1.out).mono ?_
    rintro e w2 ⟨rfl, hb2⟩
    have HB2 := Lib.hid (HB.out.trans (hb2.mono HB.out.size))
    clear hb2
    go_wp2_with fail
    go_ret
    exact ⟨none, 0, 0, rfl, rfl, Nat.le_refl _, OwnR.nil, RdR.nil, HB2.out⟩
end Lk
end Go.Proofs.YtmhbloefmknikaaGreatDoor
