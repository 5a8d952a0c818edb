/-
  Classes of the reference of chapter 4. Condition: the nodes can be read.
-/
import Derived.Test.YtmhimkojegkalaaDoorKeA
namespace Go.Proofs.YtmhimkojegkalaaDoor
open Go.RowKit

set_option maxRecDepth 100000 in
set_option maxHeartbeats 3200000 in
theorem rclasses_any (A : Option Addr) (l : List Nd) (c : Nat) (h : Int) (w : World) (hl : Nds w w.heap.size A l) (hn : l.length ≤ 1000) (hwd : ∀ x ∈ l, x.word < 4294967296) :
    Calls Tryd.prog 99 #[.slice A l.length c, .int .i64 h] w (RwsP (clsV l h) w) := by
  obtain ⟨inf, hif, hif1, hif2, hif3⟩ := infoN_parts
  obtain ⟨inr, hir, hir1, hir2, hir3⟩ := infoR_parts
  by_cases hh : 16 < h
  · have e : clsV l h = [] := if_pos hh
    rw [e]
    clear hl hwd
    go_enter Tryd.func99, Tryd.ntmps99
    by_cases h0 : 0 < l.length
    · have h0' : (0 : Int) < (l.length : Int) := by omega
      go_wp2_with fail
      go_loopw [5, 6] (fun b i wr => b = .slice none 0 0 ∧ i = .int .i64 0 ∧ wr = w) (fun _ _ _ => 0)
      case atStart => exact ⟨rfl, rfl, rfl⟩
      case round =>
        obtain ⟨rfl, rfl, rfl⟩ := hrel
        go_wp2_with fail
        go_ret
        exact ⟨none, 0, rfl, fun hn => absurd rfl hn, Below.refl _ _⟩
    · have h0' : ¬ (0 : Int) < (l.length : Int) := by omega
      go_wp2_with fail
      go_loopw [5, 6] (fun b i wr => b = .slice none 0 0 ∧ i = .int .i64 0 ∧ wr = w) (fun _ _ _ => 0)
      case atStart => exact ⟨rfl, rfl, rfl⟩
      case round =>
        obtain ⟨rfl, rfl, rfl⟩ := hrel
        go_wp2_with fail
        go_ret
        exact ⟨none, 0, rfl, fun hn => absurd rfl hn, Below.refl _ _⟩
  have hh2 : h ≤ 16 := by omega
  have HV : Hid (clsV l h = clsK (lowK h.toNat) l) := Lib.hid (if_neg hh)
  clear hh
  go_enter Tryd.func99, Tryd.ntmps99
  go_wp2_with fail
  go_loopw [5, 6] (fun bb i wr => ∃ (v1 : Value) (k : Nat) (cs : List (List Nd)), v1 = bb ∧ k ≤ l.length ∧ i = .int .i64 (k : Int) ∧ OwnR wr w.heap.size v1 cs ∧ Hid (cs = clsK (lowK h.toNat) (l.take k)) ∧ Below w.heap.size w wr ∧ cs.length ≤ k) (fun _ i _ => l.length - (intOf i).toNat)
  case atStart => exact ⟨_, 0, [], rfl, by omega, rfl, OwnR.nil _ _, Lib.hid rfl, Below.refl _ _, by simp⟩
  case round =>
    obtain ⟨v1, k, cs, rfl, hk, rfl, ho1, HL, hB, hlen⟩ := hrel
    by_cases hlt : k < l.length
    · obtain ⟨b, o, hA2, hb, f1, f2, f3⟩ := hl.at_ hlt
      subst hA2
      have hxw := hwd _ (List.getElem_mem hlt)
      have HN := Lib.hid (clsK_next (lowK h.toNat) hlt)
      have HM : Hid (∀ c ∈ cs, c ≠ [] ∧ c.length ≤ k ∧ ∀ z ∈ c, z.word < 4294967296) := Lib.hid (by
        rw [HL.out]
        intro c hc
        refine ⟨cls_ne _ _ c hc, Nat.le_trans (cls_row_len _ _ c hc) (by rw [List.length_take]; omega), fun z hz => hwd z (List.mem_of_mem_take (pure_cls _ _ c hc z hz).1)⟩)
      generalize l[k] = y at *
      obtain ⟨yi, yk, yw⟩ := y
      have i0 : (0 : Int) ≤ (k : Int) := by omega
      have i1 : (k : Int) < (l.length : Int) := by omega
      obtain ⟨A3, c3, hv3, hrd⟩ := ho1.read
      obtain ⟨N, hN⟩ : ∃ N, N = cs.length := ⟨_, rfl⟩
      rw [← hN] at hv3 hlen
      have HN1 := Lib.hid hN
      clear hN
      subst hv3
      go_wp2_with fail
      go_loopw [7] (fun j wz => ∃ p : Nat, p ≤ N ∧ j = .int .i64 (p : Int) ∧ Below wr.heap.size wr wz ∧ Hid (∀ (q : Nat) (hq : q < p) (h2 : q < cs.length), kf (lowK h.toNat) cs[q] ≠ some (lowK h.toNat ⟨yi, yk, yw⟩))) (fun j _ => N - (intOf j).toNat)
      case atStart => exact ⟨0, Nat.zero_le _, rfl, Below.refl _ _, Lib.hid (fun q hq => absurd hq (Nat.not_lt_zero _))⟩
      case round =>
        obtain ⟨p, hp, rfl, hBz, HP⟩ := hrel
        have ho2 := ho1.below hBz
        have hBW := hB.trans (hBz.mono hB.size)
        have F1 := (hBW.cell (p := ⟨b, o + k * 3, none⟩) hb).trans f1
        have F2 := (hBW.cell (p := ⟨b, o + k * 3 + 1, none⟩) hb).trans f2
        have F3 := (hBW.cell (p := ⟨b, o + k * 3 + 2, none⟩) hb).trans f3
        clear hrd ho1
        by_cases hpl : p < N
        · have hpc : p < cs.length := by have := HN1.out; omega
          obtain ⟨g, cap, u, Ai, ci, hv, hg1, hg2, hcell, hu, hfr, hownp, hult, hung, hput0⟩ := ho2.open_ hpc
          subst hu
          have hput := Lib.hid hput0
          clear hput0
          have hpN : (Value.slice A3 N c3) = .slice (some ⟨g, 0, none⟩) N cap := by rw [hv, HN1.out]
          injection hpN with e1 _ e3
          subst e1 e3
          clear hv
          obtain ⟨hM1, hM2, hM3⟩ := HM.out _ (List.getElem_mem hpc)
          have HAT := Lib.hid (insK_at (lowK h.toNat) ⟨yi, yk, yw⟩ cs p hpc (fun q hq => HP.out q hq (by omega)))
          have HNX := Lib.hid (fun (hno : kf (lowK h.toNat) cs[p] ≠ some (lowK h.toNat ⟨yi, yk, yw⟩)) => ((fun q hq h2 => (by
            rcases Nat.lt_or_ge q p with h5 | h5
            · exact HP.out q h5 h2
            · obtain rfl : q = p := by omega
              exact hno)) : ∀ (q : Nat) (hq : q < p + 1) (h2 : q < cs.length), kf (lowK h.toNat) cs[q] ≠ some (lowK h.toNat ⟨yi, yk, yw⟩)))
          obtain ⟨lp, hlp⟩ : ∃ lp, lp = cs[p] := ⟨_, rfl⟩
          rw [← hlp] at hput hownp hung hcell hult hM1 hM2 hM3 HAT HNX
          obtain ⟨nl, hnl⟩ : ∃ nl, nl = lp.length := ⟨_, rfl⟩
          obtain ⟨zy, r, hzr⟩ : ∃ z r, lp = z :: r := by
            cases lp with
            | nil => exact absurd rfl hM1
            | cons z r => exact ⟨z, r, rfl⟩
          obtain ⟨_, _, e4, hnd⟩ := hownp.read
          injection e4 with e5 _ e6
          subst e5 e6
          obtain ⟨b2, o2, hA4, hb2, g1, g2, g3⟩ := hnd.at_ (i := 0) (by rw [hzr]; simp)
          subst hA4
          have hz0 : lp[0]'(by rw [hzr]; simp) = zy := by simp [hzr]
          rw [hz0, Nat.zero_mul, Nat.add_zero] at g3
          have hzw := hM3 zy (by rw [hzr]; simp)
          have hkf : kf (lowK h.toNat) lp = some (zy.word % 2 ^ h.toNat) := by rw [hzr]; rfl
          have HLC := Lib.hid (low_cm_int (h := h) hzw hxw hh2)
          have hn1 : 0 < nl := by rw [hnl, hzr]; simp
          rw [← hnl] at hput hownp hung hcell hult hM2
          obtain ⟨zi, zk, zw⟩ := zy
          simp only at g3 hzw hkf HLC
          have HKF := Lib.hid hkf
          have HLP := Lib.hid hlp
          have HNL := Lib.hid hnl
          clear hM1 hM3 g1 g2 hnd hlp hnl hzr hz0 hkf
          have j0 : (0 : Int) ≤ (p : Int) := by omega
          have j1 : (p : Int) < (N : Int) := by omega
          have j2 : (0 : Int) < (nl : Int) := by omega
          by_cases hs : h ≤ (cm zw yw : Int)
          · have HI := Lib.hid (HAT.out (HKF.out.trans (by rw [HLC.out.1 hs]; rfl)))
            have hd : decide (h ≤ (cm zw yw : Int)) = true := by simpa using hs
            have hpe : ((p : Int) == (N : Int)) = false := by simp; omega
            have HS : Hid (∀ W : World, Calls Tryd.prog 117 #[.int .u32 (zw : Int), .int .u32 (yw : Int), .int .i64 h] W fun e w' => e = .returned (.bool true) ∧ W = w') := Lib.hid fun W => (rsame_any zw yw h W hzw hxw).mono fun e w' k => ⟨by rw [k.1, hd], k.2⟩
            clear hs hd HAT HNX
            go_wp2_with fail
            go_quiet ((go_at_call 117; exact quiet_left (HS.out _)))
            go_wp2_with fail
            have hBd0 : Below wr.heap.size wr (wr.drewN nq) := ⟨rfl, rfl, rfl, Nat.le_refl _, fun _ _ => rfl⟩
            have hputW := Lib.hid (fun (w0 w1 : World) (u' : Value) (l' : List Nd) (q1 : Below (wr.drewN nq).heap.size (wr.drewN nq) w0) => hput.out w0 w1 u' l' (hBd0.trans q1))
            have hownW := hownp.below hBd0
            have hBWW : Below w.heap.size w (wr.drewN nq) := hBW.trans (hBd0.mono hBW.size)
            have hcW : (wr.drewN nq).cell? ⟨g, p, none⟩ = _ := hcell
            have hfW : (wr.drewN nq).frozen? ⟨g, p, none⟩ = false := hfr
            have hg2W : g < (wr.drewN nq).heap.size := hg2
            clear hput hownp hBW hcell hfr hg2 hult g3 F1 F2 F3 ho2 hBz HP hBd0 HS hB
            generalize wr.drewN nq = Wc at *
            have hput := hputW
            have hownp := hownW
            have hBW := hBWW
            have hcell := hcW
            have hfr := hfW
            have hg2 := hg2W
            clear hputW hownW hBWW hcW hfW hg2W
            generalize some (⟨b2, o2, none⟩ : Addr) = Ai at *
            have hS0 : Below w.heap.size w Wc.drew := hBW.drew
            have hBd : Below Wc.heap.size Wc (Wc.drew.alloc (.cells #[.int .i64 yi, .string yk, .int .u32 (yw : Int)] 57)) := (Below.refl _ _).drew.trans (((Below.refl _ _).alloc (Nat.le_refl _) _).mono (Nat.le_refl _))
            have hNX := Has.new Wc.drew 57 #[.int .i64 yi, .string yk, .int .u32 (yw : Int)]
            have hq1 := hownp.below hBd
            have hq2 : (Wc.drew.alloc (.cells #[.int .i64 yi, .string yk, .int .u32 (yw : Int)] 57)).cell? ⟨Wc.drew.heap.size, 0, none⟩ = some (.int .i64 yi) ∧ (Wc.drew.alloc (.cells #[.int .i64 yi, .string yk, .int .u32 (yw : Int)] 57)).cell? ⟨Wc.drew.heap.size, 1, none⟩ = some (.string yk) ∧ (Wc.drew.alloc (.cells #[.int .i64 yi, .string yk, .int .u32 (yw : Int)] 57)).cell? ⟨Wc.drew.heap.size, 2, none⟩ = some (.int .u32 (yw : Int)) := ⟨hNX.cell 0, hNX.cell 1, hNX.cell 2⟩
            have hq10 : Below w.heap.size w (Wc.drew.alloc (.cells #[.int .i64 yi, .string yk, .int .u32 (yw : Int)] 57)) := hBW.trans (hBd.mono hBW.size)
            have hq3 := hq10.size
            have hq4 : (Wc.drew.alloc (.cells #[.int .i64 yi, .string yk, .int .u32 (yw : Int)] 57)).cell? ⟨g, p, none⟩ = some (.slice Ai nl ci) := (hBd.cell (p := ⟨g, p, none⟩) hg2).trans hcell
            have hq5 : g < (Wc.drew.alloc (.cells #[.int .i64 yi, .string yk, .int .u32 (yw : Int)] 57)).heap.size := Nat.lt_of_lt_of_le hg2 hBd.size
            have hq6 : (Wc.drew.alloc (.cells #[.int .i64 yi, .string yk, .int .u32 (yw : Int)] 57)).frozen? ⟨g, p, none⟩ = false := (hBd.frozen (p := ⟨g, p, none⟩) hg2).trans hfr
            have hq7 := hBd
            have hq11 : ∀ k, Value.ownBlock (.slice Ai nl ci) = some k → w.heap.size ≤ k := fun k e => (hownp.lt _ e).1
            have p0 : (0 : Int) ≤ (p : Int) := by omega
            have p1 : (p : Int) < (N : Int) := by omega
            refine wp_region_held_drew (S := fun W => Below w.heap.size w W) (by kernel_rfl) hS0 (fun _ => ?_)
            refine takeH (i := 0) (d := some 48) (v := ?_) rfl rfl (by kernel_rfl) (by kernel_rfl) (by kernel_rfl) (fun _ _ _ h => h) (Or.inl ⟨by rfl, ?_⟩) (by assumption) ?_
            rotate_left
            · intro W hSw
              go_simp
              try with_reducible rfl
            try simp only [Act.put, List.setIfInBounds_toArray, List.set_cons_zero, List.set_cons_succ]
            refine takeH (i := 1) (d := some 49) (v := ?_) rfl rfl (by kernel_rfl) (by kernel_rfl) (by kernel_rfl) (fun _ _ _ h => h) (Or.inl ⟨by rfl, ?_⟩) (by assumption) ?_
            rotate_left
            · intro W hSw
              go_simp
              try with_reducible rfl
            try simp only [Act.put, List.setIfInBounds_toArray, List.set_cons_zero, List.set_cons_succ]
            refine takeH (i := 2) (d := some 50) (v := ?_) rfl rfl (by kernel_rfl) (by kernel_rfl) (by kernel_rfl) (fun _ _ _ h => h) (Or.inl ⟨by rfl, ?_⟩) (by assumption) ?_
            rotate_left
            · intro W hSw
              go_simp
              try with_reducible rfl
            try simp only [Act.put, List.setIfInBounds_toArray, List.set_cons_zero, List.set_cons_succ]
            refine takeH (i := 3) (d := some 51) (v := ?_) rfl rfl (by kernel_rfl) (by kernel_rfl) (by kernel_rfl) (fun _ _ _ h => h) (Or.inl ⟨by rfl, ?_⟩) (by assumption) ?_
            rotate_left
            · intro W hSw
              go_simp
              try with_reducible rfl
            try simp only [Act.put, List.setIfInBounds_toArray, List.set_cons_zero, List.set_cons_succ]
            refine takeH (i := 4) (d := some 52) (v := ?_) rfl rfl (by kernel_rfl) (by kernel_rfl) (by kernel_rfl) (fun _ _ _ h => h) (Or.inl ⟨by rfl, ?_⟩) (by assumption) ?_
            rotate_left
            · intro W hSw
              go_simp
              try with_reducible rfl
            try simp only [Act.put, List.setIfInBounds_toArray, List.set_cons_zero, List.set_cons_succ]
            refine takeH (i := 6) (d := some 54) (v := ?_) rfl rfl (by kernel_rfl) (by kernel_rfl) (by kernel_rfl) (fun _ _ _ h => h) (Or.inl ⟨by rfl, ?_⟩) (by assumption) ?_
            rotate_left
            · intro W hSw
              go_simp
              try with_reducible rfl
            try simp only [Act.put, List.setIfInBounds_toArray, List.set_cons_zero, List.set_cons_succ]
            refine takeH (i := 7) (d := some 55) (v := ?_) rfl rfl (by kernel_rfl) (by kernel_rfl) (by kernel_rfl) (fun _ _ _ h => h) (Or.inl ⟨by rfl, ?_⟩) (by assumption) ?_
            rotate_left
            · intro W hSw
              go_simp
              try with_reducible rfl
            try simp only [Act.put, List.setIfInBounds_toArray, List.set_cons_zero, List.set_cons_succ]
            refine takeH (i := 8) (d := some 56) (v := ?_) rfl rfl (by kernel_rfl) (by kernel_rfl) (by kernel_rfl) (fun _ _ _ h => h) (Or.inl ⟨by rfl, ?_⟩) (by assumption) ?_
            rotate_left
            · intro W hSw
              go_simp
              try with_reducible rfl
            try simp only [Act.put, List.setIfInBounds_toArray, List.set_cons_zero, List.set_cons_succ]
            refine takeH (i := 9) (d := some 57) (v := ?_) rfl rfl (by kernel_rfl) (by kernel_rfl) (by kernel_rfl) (fun _ _ _ h => h) (Or.inl ⟨by rfl, ?_⟩) (by assumption) ?_
            rotate_left
            · intro W hSw
              have z0 := (Below.cell hSw (p := ⟨b, o + k * 3, none⟩) hb).trans f1
              have z1 := (Below.cell hSw (p := ⟨b, o + k * 3 + 1, none⟩) hb).trans f2
              have z2 := (Below.cell hSw (p := ⟨b, o + k * 3 + 2, none⟩) hb).trans f3
              go_simp
              try with_reducible rfl
            try simp only [Act.put, List.setIfInBounds_toArray, List.set_cons_zero, List.set_cons_succ]
            refine wpAnyH_ready (rs := [5, 10]) (by kernel_rfl) (by simp) ?_
            refine AllReadyH.cons rfl (fun K hK => ?_) (AllReadyH.cons rfl (fun K hK => ?_) AllReadyH.nil)
            · go_simp
              refine hK.out _ _ hS0 (fun _ => ?_)
              clear hK K
              try simp only [Act.put, List.setIfInBounds_toArray, List.set_cons_zero, List.set_cons_succ]
              refine wpAnyH_ready (rs := [10]) (by kernel_rfl) (by simp) ?_
              refine AllReadyH.cons rfl (fun K hK => ?_) AllReadyH.nil
              go_simp
              refine hK.out _ _ hq10 (fun _ => ?_)
              clear hK K
              try simp only [Act.put, List.setIfInBounds_toArray, List.set_cons_zero, List.set_cons_succ]
              refine wpAnyH_ready (rs := [11]) (by kernel_rfl) (by simp) ?_
              refine AllReadyH.cons rfl (fun K hK => ?_) AllReadyH.nil
              refine step_pushN_at (w := Wc.drew.alloc (.cells #[.int .i64 yi, .string yk, .int .u32 (yw : Int)] 57)) (o := ⟨some 59, _, _, _, _, _⟩) rfl (.tmp 53) (.tmp 58) 23 (by rfl) w.heap.size inf Tryd.underlying23 hif hif1 hif2 hif3 (.slice Ai nl ci) lp (by simp [Act.eval]) hq1 Wc.drew.heap.size 1 ⟨yi, yk, yw⟩ (by simp [Act.eval]) hq2 (by have := HNL.out; omega) hq3 ?_
              intro v' w5 ho5 hgr hat5
              obtain ⟨l5, hl5⟩ : ∃ l5, l5 = lp ++ [(⟨yi, yk, yw⟩ : Nd)] := ⟨_, rfl⟩
              rw [← hl5] at ho5
              have HL5 := Lib.hid hl5
              clear hl5
              obtain ⟨A5, c5, rfl, -⟩ := ho5.read
              have hc5 := hgr.cell hq4 (fun e => hung e.symm)
              have hf5 := (World.frozen?_of_block (a := ⟨g, p, none⟩) (hgr.block g hq5 (fun e => hung e.symm))).trans hq6
              obtain ⟨hR5, hg6⟩ := hput.out _ w5 _ _ hq7 ho5 hgr hat5
              have hB5 := hq10.grown hgr hq10.size hq11
              have hB6 := hB5.grown hg6 hB5.size (fun j e => by have := Option.some.inj e; omega)
              refine hK.out _ _ hB5 (fun _ => ?_)
              clear hK K
              try simp only [Act.put, List.setIfInBounds_toArray, List.set_cons_zero, List.set_cons_succ]
              refine takeH (i := 12) (d := some 60) (v := ?_) rfl rfl (by kernel_rfl) (by kernel_rfl) (by kernel_rfl) (fun _ _ _ h => h) (Or.inl ⟨by rfl, ?_⟩) (by assumption) ?_
              rotate_left
              · intro W hSw
                go_simp
                try with_reducible rfl
              try simp only [Act.put, List.setIfInBounds_toArray, List.set_cons_zero, List.set_cons_succ]
              refine wpAnyH_ready (rs := [13]) (by kernel_rfl) (by simp) ?_
              refine AllReadyH.cons rfl (fun K hK => ?_) AllReadyH.nil
              go_simp
              refine hK.out _ _ hB6 (fun _ => ?_)
              clear hK K
              try simp only [Act.put, List.setIfInBounds_toArray, List.set_cons_zero, List.set_cons_succ]
              refine wpAnyH_done (by kernel_rfl) ?_ _
              clear hc5 hf5 hput hq1 hq2 hq4 hq6 hS0
              go_wp2_with fail
              refine ⟨⟨_, k + 1, cs.set p l5, rfl, hlt, by go_num, hR5, Lib.hid (by rw [HN.out, ← HL.out, HI.out, HL5.out]), hB6, by rw [List.length_set]; have := HN1.out; omega⟩, by simp [intOf]; omega⟩
            · go_simp
              refine hK.out _ _ hq10 (fun _ => ?_)
              clear hK K
              try simp only [Act.put, List.setIfInBounds_toArray, List.set_cons_zero, List.set_cons_succ]
              refine wpAnyH_ready (rs := [5]) (by kernel_rfl) (by simp) ?_
              refine AllReadyH.cons rfl (fun K hK => ?_) AllReadyH.nil
              go_simp
              refine hK.out _ _ hq10 (fun _ => ?_)
              clear hK K
              try simp only [Act.put, List.setIfInBounds_toArray, List.set_cons_zero, List.set_cons_succ]
              refine wpAnyH_ready (rs := [11]) (by kernel_rfl) (by simp) ?_
              refine AllReadyH.cons rfl (fun K hK => ?_) AllReadyH.nil
              refine step_pushN_at (w := Wc.drew.alloc (.cells #[.int .i64 yi, .string yk, .int .u32 (yw : Int)] 57)) (o := ⟨some 59, _, _, _, _, _⟩) rfl (.tmp 53) (.tmp 58) 23 (by rfl) w.heap.size inf Tryd.underlying23 hif hif1 hif2 hif3 (.slice Ai nl ci) lp (by simp [Act.eval]) hq1 Wc.drew.heap.size 1 ⟨yi, yk, yw⟩ (by simp [Act.eval]) hq2 (by have := HNL.out; omega) hq3 ?_
              intro v' w5 ho5 hgr hat5
              obtain ⟨l5, hl5⟩ : ∃ l5, l5 = lp ++ [(⟨yi, yk, yw⟩ : Nd)] := ⟨_, rfl⟩
              rw [← hl5] at ho5
              have HL5 := Lib.hid hl5
              clear hl5
              obtain ⟨A5, c5, rfl, -⟩ := ho5.read
              have hc5 := hgr.cell hq4 (fun e => hung e.symm)
              have hf5 := (World.frozen?_of_block (a := ⟨g, p, none⟩) (hgr.block g hq5 (fun e => hung e.symm))).trans hq6
              obtain ⟨hR5, hg6⟩ := hput.out _ w5 _ _ hq7 ho5 hgr hat5
              have hB5 := hq10.grown hgr hq10.size hq11
              have hB6 := hB5.grown hg6 hB5.size (fun j e => by have := Option.some.inj e; omega)
              refine hK.out _ _ hB5 (fun _ => ?_)
              clear hK K
              try simp only [Act.put, List.setIfInBounds_toArray, List.set_cons_zero, List.set_cons_succ]
              refine takeH (i := 12) (d := some 60) (v := ?_) rfl rfl (by kernel_rfl) (by kernel_rfl) (by kernel_rfl) (fun _ _ _ h => h) (Or.inl ⟨by rfl, ?_⟩) (by assumption) ?_
              rotate_left
              · intro W hSw
                go_simp
                try with_reducible rfl
              try simp only [Act.put, List.setIfInBounds_toArray, List.set_cons_zero, List.set_cons_succ]
              refine wpAnyH_ready (rs := [13]) (by kernel_rfl) (by simp) ?_
              refine AllReadyH.cons rfl (fun K hK => ?_) AllReadyH.nil
              go_simp
              refine hK.out _ _ hB6 (fun _ => ?_)
              clear hK K
              try simp only [Act.put, List.setIfInBounds_toArray, List.set_cons_zero, List.set_cons_succ]
              refine wpAnyH_done (by kernel_rfl) ?_ _
              clear hc5 hf5 hput hq1 hq2 hq4 hq6 hS0
              go_wp2_with fail
              refine ⟨⟨_, k + 1, cs.set p l5, rfl, hlt, by go_num, hR5, Lib.hid (by rw [HN.out, ← HL.out, HI.out, HL5.out]), hB6, by rw [List.length_set]; have := HN1.out; omega⟩, by simp [intOf]; omega⟩
          · have HNO := Lib.hid (HNX.out (fun e => hs (HLC.out.2 (Option.some.inj (HKF.out.symm.trans e)))))
            have hd : decide (h ≤ (cm zw yw : Int)) = false := by simpa using hs
            have HS : Hid (∀ W : World, Calls Tryd.prog 117 #[.int .u32 (zw : Int), .int .u32 (yw : Int), .int .i64 h] W fun e w' => e = .returned (.bool false) ∧ W = w') := Lib.hid fun W => (rsame_any zw yw h W hzw hxw).mono fun e w' k => ⟨by rw [k.1, hd], k.2⟩
            clear hs hd HAT HNX
            go_wp2_with fail
            go_quiet ((go_at_call 117; exact quiet_left (HS.out _)))
            go_wp2_with fail
            exact ⟨⟨p + 1, hpl, by go_num, ⟨hBz.os, hBz.tape, hBz.output, hBz.size, hBz.block⟩, HNO⟩, by simp [intOf]; omega⟩
        · obtain rfl : p = N := by omega
          have HI := Lib.hid (insK_new (lowK h.toNat) ⟨yi, yk, yw⟩ cs (fun c hc => by
            obtain ⟨q, hq, rfl⟩ := List.getElem_of_mem hc
            exact HP.out q (by have := HN1.out; omega) hq))
          have hpe : ((p : Int) == (p : Int)) = true := by simp
          clear HP HM F1 F2 F3 hpl
          go_wp2_with fail
          go_quiet (fail)
          have hBd0 : Below wr.heap.size wr (wr.drewN nq) := ⟨rfl, rfl, rfl, Nat.le_refl _, fun _ _ => rfl⟩
          have hoM := ho2.below hBd0
          have hBWW : Below w.heap.size w (wr.drewN nq) := hBW.trans (hBd0.mono hBW.size)
          clear ho2 hBW hBz hBd0 hB
          generalize wr.drewN nq = W3 at *
          have hs3 := hBWW.size
          go_wp2_with (at_builtin; refine wpList_pushRow rfl _ _ 104 rfl w.heap.size inr Tryd.underlying104 hir hir1 hir2 hir3 (.slice A3 p c3) cs W3 rfl hoM rfl (by have := HN1.out; omega) hs3 ?_; intro v4 w4 ho4 hgr4 hlast4 hloc4)
          clear hlast4 hloc4
          have hlp0 : ∀ (h : p < (cs ++ [[]] : List (List Nd)).length), (cs ++ [[]] : List (List Nd))[p] = [] := by
            have e := HN1.out
            subst e
            intro h
            simp
          have hlen4 : (cs ++ [[]] : List (List Nd)).length = p + 1 := by rw [HN1.out]; simp
          obtain ⟨g, cap, u, Ai, ci, hv, hg1, hg2, hcell, hu, hfr, hownp, hult, hung, hput0⟩ := ho4.open_ (p := p) (by omega)
          obtain ⟨lp, hlp⟩ : ∃ lp, lp = (cs ++ [[]] : List (List Nd))[p]'(by omega) := ⟨_, rfl⟩
          rw [← hlp] at hu hownp
          have HLP : Hid (lp = []) := Lib.hid (hlp.trans (hlp0 _))
          obtain ⟨nl, hnl⟩ : ∃ nl, nl = lp.length := ⟨_, rfl⟩
          rw [← hnl] at hu
          subst hu
          have hput := Lib.hid hput0
          have HNL := Lib.hid (show nl = lp.length ∧ lp.length = 0 from ⟨hnl, by rw [HLP.out]; rfl⟩)
          obtain ⟨N, hN⟩ : ∃ N, N = (cs ++ [[]] : List (List Nd)).length := ⟨_, rfl⟩
          rw [← hN] at hv hlen4
          have HN4 := Lib.hid hN
          have hBW := hBWW.grown hgr4 hs3 (fun j e => (hoM.lt _ e).1)
          clear hput0 hlp0 hlp hnl hN hgr4 ho4 hoM hBWW hs3 hult hpe
          subst hv
          have HLN := Lib.hid hlen4
          have hpN4 : p < N := by omega
          clear hlen4
          generalize w4 = Wc at *
          have hS0 : Below w.heap.size w Wc.drew := hBW.drew
          have hBd : Below Wc.heap.size Wc (Wc.drew.alloc (.cells #[.int .i64 yi, .string yk, .int .u32 (yw : Int)] 57)) := (Below.refl _ _).drew.trans (((Below.refl _ _).alloc (Nat.le_refl _) _).mono (Nat.le_refl _))
          have hNX := Has.new Wc.drew 57 #[.int .i64 yi, .string yk, .int .u32 (yw : Int)]
          have hq1 := hownp.below hBd
          have hq2 : (Wc.drew.alloc (.cells #[.int .i64 yi, .string yk, .int .u32 (yw : Int)] 57)).cell? ⟨Wc.drew.heap.size, 0, none⟩ = some (.int .i64 yi) ∧ (Wc.drew.alloc (.cells #[.int .i64 yi, .string yk, .int .u32 (yw : Int)] 57)).cell? ⟨Wc.drew.heap.size, 1, none⟩ = some (.string yk) ∧ (Wc.drew.alloc (.cells #[.int .i64 yi, .string yk, .int .u32 (yw : Int)] 57)).cell? ⟨Wc.drew.heap.size, 2, none⟩ = some (.int .u32 (yw : Int)) := ⟨hNX.cell 0, hNX.cell 1, hNX.cell 2⟩
          have hq10 : Below w.heap.size w (Wc.drew.alloc (.cells #[.int .i64 yi, .string yk, .int .u32 (yw : Int)] 57)) := hBW.trans (hBd.mono hBW.size)
          have hq3 := hq10.size
          have hq4 : (Wc.drew.alloc (.cells #[.int .i64 yi, .string yk, .int .u32 (yw : Int)] 57)).cell? ⟨g, p, none⟩ = some (.slice Ai nl ci) := (hBd.cell (p := ⟨g, p, none⟩) hg2).trans hcell
          have hq5 : g < (Wc.drew.alloc (.cells #[.int .i64 yi, .string yk, .int .u32 (yw : Int)] 57)).heap.size := Nat.lt_of_lt_of_le hg2 hBd.size
          have hq6 : (Wc.drew.alloc (.cells #[.int .i64 yi, .string yk, .int .u32 (yw : Int)] 57)).frozen? ⟨g, p, none⟩ = false := (hBd.frozen (p := ⟨g, p, none⟩) hg2).trans hfr
          have hq7 := hBd
          have hq11 : ∀ k, Value.ownBlock (.slice Ai nl ci) = some k → w.heap.size ≤ k := fun k e => (hownp.lt _ e).1
          have p0 : (0 : Int) ≤ (p : Int) := by omega
          have p1 : (p : Int) < (N : Int) := by omega
          refine wp_region_held_drew (S := fun W => Below w.heap.size w W) (by kernel_rfl) hS0 (fun _ => ?_)
          refine takeH (i := 0) (d := some 48) (v := ?_) rfl rfl (by kernel_rfl) (by kernel_rfl) (by kernel_rfl) (fun _ _ _ h => h) (Or.inl ⟨by rfl, ?_⟩) (by assumption) ?_
          rotate_left
          · intro W hSw
            go_simp
            try with_reducible rfl
          try simp only [Act.put, List.setIfInBounds_toArray, List.set_cons_zero, List.set_cons_succ]
          refine takeH (i := 1) (d := some 49) (v := ?_) rfl rfl (by kernel_rfl) (by kernel_rfl) (by kernel_rfl) (fun _ _ _ h => h) (Or.inl ⟨by rfl, ?_⟩) (by assumption) ?_
          rotate_left
          · intro W hSw
            go_simp
            try with_reducible rfl
          try simp only [Act.put, List.setIfInBounds_toArray, List.set_cons_zero, List.set_cons_succ]
          refine takeH (i := 2) (d := some 50) (v := ?_) rfl rfl (by kernel_rfl) (by kernel_rfl) (by kernel_rfl) (fun _ _ _ h => h) (Or.inl ⟨by rfl, ?_⟩) (by assumption) ?_
          rotate_left
          · intro W hSw
            go_simp
            try with_reducible rfl
          try simp only [Act.put, List.setIfInBounds_toArray, List.set_cons_zero, List.set_cons_succ]
          refine takeH (i := 3) (d := some 51) (v := ?_) rfl rfl (by kernel_rfl) (by kernel_rfl) (by kernel_rfl) (fun _ _ _ h => h) (Or.inl ⟨by rfl, ?_⟩) (by assumption) ?_
          rotate_left
          · intro W hSw
            go_simp
            try with_reducible rfl
          try simp only [Act.put, List.setIfInBounds_toArray, List.set_cons_zero, List.set_cons_succ]
          refine takeH (i := 4) (d := some 52) (v := ?_) rfl rfl (by kernel_rfl) (by kernel_rfl) (by kernel_rfl) (fun _ _ _ h => h) (Or.inl ⟨by rfl, ?_⟩) (by assumption) ?_
          rotate_left
          · intro W hSw
            go_simp
            try with_reducible rfl
          try simp only [Act.put, List.setIfInBounds_toArray, List.set_cons_zero, List.set_cons_succ]
          refine takeH (i := 6) (d := some 54) (v := ?_) rfl rfl (by kernel_rfl) (by kernel_rfl) (by kernel_rfl) (fun _ _ _ h => h) (Or.inl ⟨by rfl, ?_⟩) (by assumption) ?_
          rotate_left
          · intro W hSw
            go_simp
            try with_reducible rfl
          try simp only [Act.put, List.setIfInBounds_toArray, List.set_cons_zero, List.set_cons_succ]
          refine takeH (i := 7) (d := some 55) (v := ?_) rfl rfl (by kernel_rfl) (by kernel_rfl) (by kernel_rfl) (fun _ _ _ h => h) (Or.inl ⟨by rfl, ?_⟩) (by assumption) ?_
          rotate_left
          · intro W hSw
            go_simp
            try with_reducible rfl
          try simp only [Act.put, List.setIfInBounds_toArray, List.set_cons_zero, List.set_cons_succ]
          refine takeH (i := 8) (d := some 56) (v := ?_) rfl rfl (by kernel_rfl) (by kernel_rfl) (by kernel_rfl) (fun _ _ _ h => h) (Or.inl ⟨by rfl, ?_⟩) (by assumption) ?_
          rotate_left
          · intro W hSw
            go_simp
            try with_reducible rfl
          try simp only [Act.put, List.setIfInBounds_toArray, List.set_cons_zero, List.set_cons_succ]
          refine takeH (i := 9) (d := some 57) (v := ?_) rfl rfl (by kernel_rfl) (by kernel_rfl) (by kernel_rfl) (fun _ _ _ h => h) (Or.inl ⟨by rfl, ?_⟩) (by assumption) ?_
          rotate_left
          · intro W hSw
            have z0 := (Below.cell hSw (p := ⟨b, o + k * 3, none⟩) hb).trans f1
            have z1 := (Below.cell hSw (p := ⟨b, o + k * 3 + 1, none⟩) hb).trans f2
            have z2 := (Below.cell hSw (p := ⟨b, o + k * 3 + 2, none⟩) hb).trans f3
            go_simp
            try with_reducible rfl
          try simp only [Act.put, List.setIfInBounds_toArray, List.set_cons_zero, List.set_cons_succ]
          refine wpAnyH_ready (rs := [5, 10]) (by kernel_rfl) (by simp) ?_
          refine AllReadyH.cons rfl (fun K hK => ?_) (AllReadyH.cons rfl (fun K hK => ?_) AllReadyH.nil)
          · go_simp
            refine hK.out _ _ hS0 (fun _ => ?_)
            clear hK K
            try simp only [Act.put, List.setIfInBounds_toArray, List.set_cons_zero, List.set_cons_succ]
            refine wpAnyH_ready (rs := [10]) (by kernel_rfl) (by simp) ?_
            refine AllReadyH.cons rfl (fun K hK => ?_) AllReadyH.nil
            go_simp
            refine hK.out _ _ hq10 (fun _ => ?_)
            clear hK K
            try simp only [Act.put, List.setIfInBounds_toArray, List.set_cons_zero, List.set_cons_succ]
            refine wpAnyH_ready (rs := [11]) (by kernel_rfl) (by simp) ?_
            refine AllReadyH.cons rfl (fun K hK => ?_) AllReadyH.nil
            refine step_pushN_at (w := Wc.drew.alloc (.cells #[.int .i64 yi, .string yk, .int .u32 (yw : Int)] 57)) (o := ⟨some 59, _, _, _, _, _⟩) rfl (.tmp 53) (.tmp 58) 23 (by rfl) w.heap.size inf Tryd.underlying23 hif hif1 hif2 hif3 (.slice Ai nl ci) lp (by simp [Act.eval]) hq1 Wc.drew.heap.size 1 ⟨yi, yk, yw⟩ (by simp [Act.eval]) hq2 (by have := HNL.out; omega) hq3 ?_
            intro v' w5 ho5 hgr hat5
            obtain ⟨l5, hl5⟩ : ∃ l5, l5 = lp ++ [(⟨yi, yk, yw⟩ : Nd)] := ⟨_, rfl⟩
            rw [← hl5] at ho5
            have HL5 := Lib.hid hl5
            clear hl5
            obtain ⟨A5, c5, rfl, -⟩ := ho5.read
            have hc5 := hgr.cell hq4 (fun e => hung e.symm)
            have hf5 := (World.frozen?_of_block (a := ⟨g, p, none⟩) (hgr.block g hq5 (fun e => hung e.symm))).trans hq6
            obtain ⟨hR5, hg6⟩ := hput.out _ w5 _ _ hq7 ho5 hgr hat5
            have hB5 := hq10.grown hgr hq10.size hq11
            have hB6 := hB5.grown hg6 hB5.size (fun j e => by have := Option.some.inj e; omega)
            refine hK.out _ _ hB5 (fun _ => ?_)
            clear hK K
            try simp only [Act.put, List.setIfInBounds_toArray, List.set_cons_zero, List.set_cons_succ]
            refine takeH (i := 12) (d := some 60) (v := ?_) rfl rfl (by kernel_rfl) (by kernel_rfl) (by kernel_rfl) (fun _ _ _ h => h) (Or.inl ⟨by rfl, ?_⟩) (by assumption) ?_
            rotate_left
            · intro W hSw
              go_simp
              try with_reducible rfl
            try simp only [Act.put, List.setIfInBounds_toArray, List.set_cons_zero, List.set_cons_succ]
            refine wpAnyH_ready (rs := [13]) (by kernel_rfl) (by simp) ?_
            refine AllReadyH.cons rfl (fun K hK => ?_) AllReadyH.nil
            go_simp
            refine hK.out _ _ hB6 (fun _ => ?_)
            clear hK K
            try simp only [Act.put, List.setIfInBounds_toArray, List.set_cons_zero, List.set_cons_succ]
            refine wpAnyH_done (by kernel_rfl) ?_ _
            clear hc5 hf5 hput hq1 hq2 hq4 hq6 hS0
            go_wp2_with fail
            have hfin : (cs ++ [[]] : List (List Nd)).set p l5 = cs ++ [[⟨yi, yk, yw⟩]] := by rw [HL5.out, HLP.out, HN1.out, List.set_append_right _ _ (Nat.le_refl _), Nat.sub_self]; rfl
            refine ⟨⟨_, k + 1, (cs ++ [[]] : List (List Nd)).set p l5, rfl, hlt, by go_num, hR5, Lib.hid (by rw [HN.out, ← HL.out, HI.out, hfin]), hB6, by rw [List.length_set]; have := HN4.out; have := HLN.out; omega⟩, by simp [intOf]; omega⟩
          · go_simp
            refine hK.out _ _ hq10 (fun _ => ?_)
            clear hK K
            try simp only [Act.put, List.setIfInBounds_toArray, List.set_cons_zero, List.set_cons_succ]
            refine wpAnyH_ready (rs := [5]) (by kernel_rfl) (by simp) ?_
            refine AllReadyH.cons rfl (fun K hK => ?_) AllReadyH.nil
            go_simp
            refine hK.out _ _ hq10 (fun _ => ?_)
            clear hK K
            try simp only [Act.put, List.setIfInBounds_toArray, List.set_cons_zero, List.set_cons_succ]
            refine wpAnyH_ready (rs := [11]) (by kernel_rfl) (by simp) ?_
            refine AllReadyH.cons rfl (fun K hK => ?_) AllReadyH.nil
            refine step_pushN_at (w := Wc.drew.alloc (.cells #[.int .i64 yi, .string yk, .int .u32 (yw : Int)] 57)) (o := ⟨some 59, _, _, _, _, _⟩) rfl (.tmp 53) (.tmp 58) 23 (by rfl) w.heap.size inf Tryd.underlying23 hif hif1 hif2 hif3 (.slice Ai nl ci) lp (by simp [Act.eval]) hq1 Wc.drew.heap.size 1 ⟨yi, yk, yw⟩ (by simp [Act.eval]) hq2 (by have := HNL.out; omega) hq3 ?_
            intro v' w5 ho5 hgr hat5
            obtain ⟨l5, hl5⟩ : ∃ l5, l5 = lp ++ [(⟨yi, yk, yw⟩ : Nd)] := ⟨_, rfl⟩
            rw [← hl5] at ho5
            have HL5 := Lib.hid hl5
            clear hl5
            obtain ⟨A5, c5, rfl, -⟩ := ho5.read
            have hc5 := hgr.cell hq4 (fun e => hung e.symm)
            have hf5 := (World.frozen?_of_block (a := ⟨g, p, none⟩) (hgr.block g hq5 (fun e => hung e.symm))).trans hq6
            obtain ⟨hR5, hg6⟩ := hput.out _ w5 _ _ hq7 ho5 hgr hat5
            have hB5 := hq10.grown hgr hq10.size hq11
            have hB6 := hB5.grown hg6 hB5.size (fun j e => by have := Option.some.inj e; omega)
            refine hK.out _ _ hB5 (fun _ => ?_)
            clear hK K
            try simp only [Act.put, List.setIfInBounds_toArray, List.set_cons_zero, List.set_cons_succ]
            refine takeH (i := 12) (d := some 60) (v := ?_) rfl rfl (by kernel_rfl) (by kernel_rfl) (by kernel_rfl) (fun _ _ _ h => h) (Or.inl ⟨by rfl, ?_⟩) (by assumption) ?_
            rotate_left
            · intro W hSw
              go_simp
              try with_reducible rfl
            try simp only [Act.put, List.setIfInBounds_toArray, List.set_cons_zero, List.set_cons_succ]
            refine wpAnyH_ready (rs := [13]) (by kernel_rfl) (by simp) ?_
            refine AllReadyH.cons rfl (fun K hK => ?_) AllReadyH.nil
            go_simp
            refine hK.out _ _ hB6 (fun _ => ?_)
            clear hK K
            try simp only [Act.put, List.setIfInBounds_toArray, List.set_cons_zero, List.set_cons_succ]
            refine wpAnyH_done (by kernel_rfl) ?_ _
            clear hc5 hf5 hput hq1 hq2 hq4 hq6 hS0
            go_wp2_with fail
            have hfin : (cs ++ [[]] : List (List Nd)).set p l5 = cs ++ [[⟨yi, yk, yw⟩]] := by rw [HL5.out, HLP.out, HN1.out, List.set_append_right _ _ (Nat.le_refl _), Nat.sub_self]; rfl
            refine ⟨⟨_, k + 1, (cs ++ [[]] : List (List Nd)).set p l5, rfl, hlt, by go_num, hR5, Lib.hid (by rw [HN.out, ← HL.out, HI.out, hfin]), hB6, by rw [List.length_set]; have := HN4.out; have := HLN.out; omega⟩, by simp [intOf]; omega⟩
    · have hL2 : clsV l h = cs := by rw [HV.out, HL.out, List.take_of_length_le (by omega)]
      obtain ⟨A3, c3, rfl, hr3⟩ := ho1.read
      have HL2 := Lib.hid hL2
      clear hL2 HL HV
      go_wp2_with fail
      go_ret
      rw [HL2.out]
      exact ⟨A3, c3, rfl, hr3, hB⟩
end Go.Proofs.YtmhimkojegkalaaDoor
