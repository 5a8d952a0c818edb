/-
  Without and Owner of package roster: what they answer. Conditions: the nodes and the numbers can be read; for Owner, a roster of 1 to 19 nodes.
-/
import Derived.Test.YtiafimbehcemcaaDoorKgH
namespace Go.Proofs.YtiafimbehcemcaaDoor
open Go.RowKit Go.Maps

theorem ownsMap_block {H : Type} {P : Program} {w w' : World} {k : TypeId} {R : Value → Option (DataW H × List MemPlace)} {b n : Nat} {D : DataW H} (h : w.ownsMap P k R b n D) (e : w'.heap[b]? = w.heap[b]?) : w'.ownsMap P k R b n D := by
  obtain ⟨es, clock, hb, F, hs, hD⟩ := h
  exact ⟨es, clock, e.trans hb, F, hs, hD⟩

set_option maxRecDepth 100000 in
set_option maxHeartbeats 3200000 in
theorem without_any (A A2 : Option Addr) (l : List Nd) (c c2 : Nat) (ids : List Int) (w : World) (hl : Nds w w.heap.size A l) (hi : Ins w w.heap.size A2 ids) (hn : l.length ≤ 1000) (hm : ids.length ≤ 1000) (hid : ∀ x ∈ l, -9223372036854775808 ≤ x.id ∧ x.id ≤ 9223372036854775807) :
    Calls Tryd.prog 49 #[.slice A l.length c, .slice A2 ids.length c2] w (NdsP (wout l ids) w) := by
  obtain ⟨inf, hif, hif1, hif2, hif3⟩ := infoN_parts
  have hmm := @run_makeMap Tryd.prog
  go_enter Tryd.func49, Tryd.ntmps49
  go_wp2_with fail
  go_loopw [14] (fun i wr => ∃ (k : Nat) (D : DataW Unit), k ≤ ids.length ∧ i = .int .i64 (k : Int) ∧ wr.ownsMap Tryd.prog 3 (plainElem Tryd.prog 4) w.heap.size k D ∧ Hid (SetD D (keysI (ids.take k))) ∧ Below w.heap.size w wr ∧ w.heap.size + 1 ≤ wr.heap.size) (fun i _ => ids.length - (intOf i).toNat)
  case atStart =>
    exact ⟨0, .map [], by omega, rfl, World.ownsMap_made _ _ _ _, Lib.hid (SetD.nil.congr fun z => by simp [keysI]), (Below.refl _ _).alloc (Nat.le_refl _) _, by rw [World.size_alloc]; omega⟩
  case round =>
    obtain ⟨k, D, hk, rfl, hmap, HS, hB, hsz⟩ := hrel
    by_cases hlt : k < ids.length
    · obtain ⟨b, o, hA2, hb, hv, f1⟩ := hi.at_ hlt
      subst hA2
      have HI := Lib.hid (fun z => keysI_next hlt z)
      replace f1 := (hB.cell (p := ⟨b, o + k, none⟩) hb).trans f1
      generalize ids[k] = y at *
      have i0 : (0 : Int) ≤ (k : Int) := by omega
      have i1 : (k : Int) < (ids.length : Int) := by omega
      have hk1 : keyOf Tryd.prog 3 (.int .i64 y) = some (.int .i64 y) := keyOf_int_mk Tryd.underlying3 (WalkArith.wf_i64 (by omega))
      go_wp2_with (at_mapUpdate; refine wpList_mapUpdate_own _ rfl _ _ _ 136 rfl 3 4 lawInt Tryd.underlying136 _ w.heap.size k D rfl hmap (by unfold maxLen; omega) _ _ _ rfl rfl hk1 (.lit (.bool true)) [] (plainElem_bool Tryd.underlying4 _) ?_; intro w1 hm3 hgr3; have hs3 := hgr3.size; have hB3 := hB.grown hgr3 hB.size (fun j e => (by have := Option.some.inj e; omega)))
      exact ⟨⟨k + 1, _, hlt, by go_num, hm3, Lib.hid ((HS.out.put (k := .int .i64 y) hmap.isMap trivial).congr HI.out), hB3, by omega⟩, by simp [intOf]; omega⟩
    · have HZ : Hid (SetD D (keysI ids)) := Lib.hid (by
        have := HS.out
        rwa [List.take_of_length_le (by omega)] at this)
      clear HS
      go_wp2_with fail
      go_loopw [8, 23] (fun bv i wz => ∃ (v1 : Value) (q : Nat) (l1 : List Nd), v1 = bv ∧ q ≤ l.length ∧ i = .int .i64 (q : Int) ∧ OwnN wz (w.heap.size + 1) v1 l1 ∧ wz.ownsMap Tryd.prog 3 (plainElem Tryd.prog 4) w.heap.size k D ∧ Below w.heap.size w wz ∧ w.heap.size + 1 ≤ wz.heap.size ∧ Hid (l1 = wout (l.take q) ids) ∧ l1.length ≤ q) (fun _ i _ => l.length - (intOf i).toNat)
      case atStart => exact ⟨_, 0, [], rfl, by omega, rfl, OwnN.nil _ _, hmap, hB, hsz, Lib.hid (by simp [wout]), by simp⟩
      case round =>
        clear hmap hB hsz
        obtain ⟨v1, q, l1, rfl, hq, rfl, ho1, hmap, hB, hsz, HL, hlen⟩ := hrel
        by_cases hlt2 : q < l.length
        · obtain ⟨b, o, hA2, hb, f1, f2, f3⟩ := hl.at_ hlt2
          subst hA2
          have hyw := hid _ (List.getElem_mem hlt2)
          have HY := Lib.hid (fun (hy : l[q].id ∉ ids) => wout_yes hlt2 hy)
          have HNo := Lib.hid (fun (hy : l[q].id ∈ ids) => wout_no hlt2 hy)
          replace f1 := (hB.cell (p := ⟨b, o + q * 3, none⟩) hb).trans f1
          replace f2 := (hB.cell (p := ⟨b, o + q * 3 + 1, none⟩) hb).trans f2
          replace f3 := (hB.cell (p := ⟨b, o + q * 3 + 2, none⟩) hb).trans f3
          generalize l[q] = y at *
          obtain ⟨yi, yk, yw⟩ := y
          have i0 : (0 : Int) ≤ (q : Int) := by omega
          have i1 : (q : Int) < (l.length : Int) := by omega
          obtain ⟨A3, c3, hv3, -⟩ := ho1.read
          have hoa := ho1.below ((Below.refl _ _).alloc (Nat.le_refl _) (.cells #[.int .i64 yi, .string yk, .int .u32 (yw : Int)] 60))
          have hBa := hB.alloc hB.size (.cells #[.int .i64 yi, .string yk, .int .u32 (yw : Int)] 60)
          have hma := hmap.alloc (.cells #[.int .i64 yi, .string yk, .int .u32 (yw : Int)] 60)
          have hX := Has.new wr 60 #[.int .i64 yi, .string yk, .int .u32 (yw : Int)]
          have x0 := hX.cell 0
          have x1 := hX.cell 1
          have x2 := hX.cell 2
          have hsa : (wr.alloc (.cells #[.int .i64 yi, .string yk, .int .u32 (yw : Int)] 60)).heap.size = wr.heap.size + 1 := World.size_alloc _ _
          subst hv3
          have hk1 : keyOf Tryd.prog 3 (.int .i64 yi) = some (.int .i64 yi) := keyOf_int_mk Tryd.underlying3 (WalkArith.wf_i64 (by simpa using hyw))
          obtain ⟨y1, hr1, hat1⟩ := look_bool lawInt Tryd.underlying136 Tryd.underlying4 (zeroBool _) hma hk1
          have q1 := HZ.out.at_ (k := .int .i64 yi) trivial hat1
          rw [keysI_mem] at q1
          clear hat1 hX hyw
          cases y1
          · have HF := Lib.hid (HY.out fun h => by have := q1.2 h; cases this)
            have HMA := Lib.hid hma
            clear q1 HY HNo
            go_wp2_with (at_builtin; refine wpList_pushN rfl _ _ 23 rfl (w.heap.size + 1) inf Tryd.underlying23 hif hif1 hif2 hif3 (.slice A3 l1.length c3) l1 _ ⟨yi, yk, yw⟩ rfl hoa (by rw [World.size_alloc]; rfl) (by omega) (by omega) ?_; intro v2 w6 ho6 hb6; obtain ⟨l2, hl2⟩ : ∃ l2, l2 = l1 ++ [(⟨yi, yk, yw⟩ : Nd)] := ⟨_, rfl⟩; rw [← hl2] at ho6; have hln2 : l2.length = l1.length + 1 := (by rw [hl2]; simp); have HL2 := Lib.hid hl2; have HLN := Lib.hid hln2; clear hl2 hln2; obtain ⟨A4, c4, rfl, -⟩ := ho6.read)
            exact ⟨⟨_, q + 1, l2, rfl, hlt2, by go_num, ho6, ownsMap_block HMA.out (hb6.block _ (Nat.lt_succ_self _)), hBa.trans (hb6.mono (by omega)), by have := hb6.size; omega, Lib.hid (by rw [HL2.out, HL.out, HF.out]), by have := HLN.out; omega⟩, by simp [intOf]; omega⟩
          · have HF := Lib.hid (HNo.out (q1.1 rfl))
            have HMA := Lib.hid hma
            clear q1 HY HNo
            go_wp2_with fail
            exact ⟨⟨_, q + 1, l1, rfl, hlt2, by go_num, hoa, HMA.out, hBa, by omega, Lib.hid (by rw [HL.out, HF.out]), by omega⟩, by simp [intOf]; omega⟩
        · have hL2 : l1 = wout l ids := by rw [HL.out, List.take_of_length_le (by omega)]
          obtain ⟨A3, c3, rfl, -⟩ := ho1.read
          have HL2 := Lib.hid hL2
          clear hL2 HL
          go_wp2_with fail
          go_ret
          rw [← HL2.out]
          exact ⟨A3, c3, rfl, ho1.low (by omega), hB⟩

theorem ask_kl {s : List Nd} (hs : Asc s) (key : ByteArray) {i : Nat} (hi : i < s.length) : kl key s[i].key = decide (abv s key ≤ i) := by
  by_cases h : abv s key ≤ i
  · rw [abv_hi hs hi h]; simp [h]
  · rw [abv_lo (s := s) (key := key) (j := i) (by omega)]; simp [h]

set_option maxRecDepth 100000 in
set_option maxHeartbeats 1600000 in
theorem owner_yes (A : Option Addr) (l : List Nd) (c : Nat) (key : ByteArray) (w : World) (hl : Nds w w.heap.size A l) (h0 : l ≠ []) (hn : l.length < 20) (hchk : chkV l = 0) (hk : vk key = true) :
    Calls Tryd.prog 53 #[.slice A l.length c, .string key] w fun e w' => e = .returned (.tuple #[(ownV (srt l) key).val, .bool true]) ∧ Below w.heap.size w w' := by
  have hbC := (Below.refl w.heap.size w).alloc (Nat.le_refl _) (.cells #[.string key] 9)
  have hb0 := hbC.alloc hbC.size (.cells #[.int .i64 0, .string ByteArray.empty, .int .u32 0] 60)
  have hX := Has.new (w.alloc (.cells #[.string key] 9)) 60 #[.int .i64 0, .string ByteArray.empty, .int .u32 0]
  rw [World.size_alloc] at hX
  have hC := (Has.new w 9 #[.string key]).alloc (.cells #[.int .i64 0, .string ByteArray.empty, .int .u32 0] 60)
  have hC0 := hC.cell 0
  have HC := Lib.hid ((check_any A l c _ ((hl.below hb0).more hb0.size) (ros_wide hchk)).mono fun e w' h => (⟨by rw [h.1, hchk], h.2⟩ : e = .returned (.int .i64 0) ∧ Below _ _ w'))
  have HS := Lib.hid (fun (w1 : World) (k : Below w.heap.size w w1) => sort_any A l c w1 ((hl.below k).more k.size) h0 hn)
  have HV := Lib.hid (fun w1 => (vk_key key w1).mono fun e w' h => (⟨by rw [h.1, hk], h.2⟩ : e = .returned (.bool true) ∧ w1 = w'))
  have hR := ros_of hchk
  have HE : Hid (∀ s, Srt l s → s = srt l) := Lib.hid fun s h => srt_of h (chkV_zero.1 hchk).2.2
  have hsl : (srt l).length = l.length := (srt_srt l).len
  have hl1 : 1 ≤ l.length := by
    cases l with
    | nil => exact absurd rfl h0
    | cons x l => simp
  have hl0 : ((l.length : Int) == 0) = false := by simp; omega
  have hs20 : (srt l).length < 20 := by omega
  have hs1 : 1 ≤ (srt l).length := by omega
  clear hsl
  have HA := Lib.hid hR.asc
  have HX := Lib.hid hX
  have HCB := Lib.hid hC
  have HB0 := Lib.hid hb0
  obtain ⟨V, hV⟩ : ∃ V, V = ownV (srt l) key := ⟨_, rfl⟩
  rw [← hV]
  have HVV := Lib.hid hV
  clear hV hX hC hbC hR hchk hl h0
  generalize srt l = S at *
  go_enter Tryd.func53, Tryd.ntmps53
  go_wp2_with fail
  refine (HC.out).mono ?_
  rintro e w1 ⟨rfl, hb1⟩
  have c1 := (HCB.out.below hb1).cell 0
  go_wp2_with fail
  refine (HV.out _).mono ?_
  rintro e w' ⟨rfl, rfl⟩
  go_wp2_with fail
  have B1 := HB0.out.trans (hb1.mono HB0.out.size)
  have X1 := HX.out.below hb1
  have K1 := HCB.out.below hb1
  refine (HS.out w1 B1).mono ?_
  rintro e w2 ⟨s, hs, A2, c2, rfl, ho, hb2⟩
  obtain rfl := HE.out s hs
  obtain ⟨_, _, er, hr⟩ := ho.read
  injection er with e1 _ e2
  subst e1 e2
  have B2 := B1.trans (hb2.mono B1.size)
  have X2 := X1.below hb2
  have K2 := K1.below hb2
  have hb3 := (Below.refl w2.heap.size w2).alloc (Nat.le_refl _) (.cells #[.slice A2 s.length c2] 23)
  have hBx := Has.new w2 23 #[.slice A2 s.length c2]
  have b0 := hBx.cell 0
  have hr3 := hr.below hb3
  have K3 := K2.below hb3
  have X3 := X2.below hb3
  have B3 := B2.trans (hb3.mono B2.size)
  have hlt : abv s key - 1 < s.length := by have := abv_le s key; omega
  have HSE := Lib.hid (search_any (fun i => decide (abv s key ≤ i)) (fun i j hij h => by simp at h ⊢; omega) s.length (by omega) #[.pointer (some ⟨w2.heap.size, 0, none⟩), .pointer (some ⟨w.heap.size, 0, none⟩)] (w2.alloc (.cells #[.slice A2 s.length c2] 23)) (fun W hW i hi => by
    obtain ⟨b, o, rfl, hbl, f1, f2, f3⟩ := hr3.at_ hi
    have hbl3 : b < (w2.alloc (.cells #[.slice (some ⟨b, o, none⟩) s.length c2] 23)).heap.size := Nat.lt_of_lt_of_le hbl hb3.size
    have hgt := gt_any w2.heap.size w.heap.size b o s.length c2 i s[i].key key W ((hW.cell (p := ⟨w2.heap.size, 0, none⟩) hBx.lt).trans b0) ((hW.cell (p := ⟨w.heap.size, 0, none⟩) K3.lt).trans (K3.cell 0)) hi ((hW.cell (p := ⟨b, o + i * 3 + 1, none⟩) hbl3).trans f2)
    rw [ask_kl HA.out key hi] at hgt
    exact hgt))
  obtain ⟨b, o, hA2, hbl, f1, f2, f3⟩ := hr3.at_ hlt
  subst hA2
  have hbl3 : b < (w2.alloc (.cells #[.slice (some ⟨b, o, none⟩) s.length c2] 23)).heap.size := Nat.lt_of_lt_of_le hbl hb3.size
  have HVS : Hid (V = s[abv s key - 1]) := Lib.hid (by rw [HVV.out]; unfold ownV; simp [hlt])
  have HHR := Lib.hid hr
  clear HS HV HE ho hr hr3 X1 X2 K1 K2 B1 B2 hb1 hb2 hs HCB HX HB0 HC HVV
  generalize s[abv s key - 1] = y at *
  have HX3 := Lib.hid X3
  have HB3 := Lib.hid B3
  have HHB := Lib.hid hBx
  clear X3 B3 hBx K3
  obtain ⟨k, hk'⟩ : ∃ k, k = abv s key := ⟨_, rfl⟩
  have hkn : k ≤ s.length := by rw [hk']; exact abv_le s key
  rw [← hk'] at hlt f1 f2 f3 HSE
  have HK := Lib.hid hk'
  clear hk' c1
  go_wp2_with fail
  refine (HSE.out).mono ?_
  rintro e w4 ⟨q, hq, hq1, hq2, rfl, hb4⟩
  obtain rfl : q = k := by
    rcases Nat.lt_trichotomy q k with h | h | h
    · have := hq2 q (Nat.le_refl _) (by omega)
      simp at this
      omega
    · exact h
    · have := hq1 k h
      simp at this
  have F1 := (hb4.cell (p := ⟨b, o + (q - 1) * 3, none⟩) hbl3).trans f1
  have F2 := (hb4.cell (p := ⟨b, o + (q - 1) * 3 + 1, none⟩) hbl3).trans f2
  have F3 := (hb4.cell (p := ⟨b, o + (q - 1) * 3 + 2, none⟩) hbl3).trans f3
  have X4 := HX3.out.below hb4
  have g0 := X4.cell 0
  have g1 := X4.cell 1
  have g2 := X4.cell 2
  have gz := fun o => X4.frozen o
  have bb := (HHB.out.below hb4).cell 0
  have HB4 := Lib.hid (HB3.out.trans (hb4.mono HB3.out.size))
  clear X4 hq1 hq2 HSE f1 f2 f3 b0 hb3 hb4
  obtain ⟨yi, yk, yw⟩ := y
  by_cases hq0 : q = 0
  · subst hq0
    have l0 : (0 : Int) < (s.length : Int) := by omega
    simp only [Nat.zero_sub, Nat.zero_mul, Nat.add_zero] at F1 F2 F3
    go_wp2_with fail
    refine bodyPost_ret (v := .tuple #[.agg #[.int .i64 yi, .string yk, .int .u32 (yw : Int)], .bool true]) (by simp [results, Tryd.results53, go_sem, *]) rfl ⟨by rw [HVS.out], ?_⟩
    exact ((HB4.out.setCell (Nat.le_succ _) _).setCell (Nat.le_succ _) _).setCell (Nat.le_succ _) _
  · obtain ⟨p, rfl⟩ : ∃ p, q = p + 1 := ⟨q - 1, by omega⟩
    simp only [Nat.add_sub_cancel] at F1 F2 F3
    have l0 : (0 : Int) ≤ (p : Int) := by omega
    have l1 : (p : Int) < (s.length : Int) := by omega
    go_wp2_with fail
    refine bodyPost_ret (v := .tuple #[.agg #[.int .i64 yi, .string yk, .int .u32 (yw : Int)], .bool true]) (by simp [results, Tryd.results53, go_sem, *]) rfl ⟨by rw [HVS.out], ?_⟩
    exact ((HB4.out.setCell (Nat.le_succ _) _).setCell (Nat.le_succ _) _).setCell (Nat.le_succ _) _
end Go.Proofs.YtiafimbehcemcaaDoor
