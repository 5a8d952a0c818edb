/-
  The walk of SpliceInserts: from whatever numbers and node it answers true and only makes memory. Conditions: the arguments can be read; 'letters' is as its initialiser lays it.
-/
import Derived.Test.YtjokbdhineilcaaGreatDoorLxR
import Derived.Test.YtjokbdhineilcaaGreatDoorLnC
import Derived.Test.YtjokbdhineilcaaGreatDoorLgJ
import Derived.Test.YtjokbdhineilcaaGreatDoorKhU
import Derived.Test.YtjokbdhineilcaaGreatDoorKqJ
import Derived.Deep.DeepCutAuto
import Derived.Deep.CutBlock
namespace Go.Proofs.YtjokbdhineilcaaGreatDoor
open Go.RowKit Go.Maps

structure Mdi (w wx : World) (g : Nat) : Prop where
  below : Below w.heap.size w wx
  tape : Tape wx g
theorem Mdi.step {w a b : World} {g : Nat} (h : Mdi w a g) (hg : w.heap.size ≤ g) (k : TStep a g b) : Mdi w b g := ⟨h.below.grown k.2 h.below.size (fun j e => by have := Option.some.inj e; omega), k.1⟩
theorem Mdi.on {w a b : World} {g : Nat} (h : Mdi w a g) (k : Below a.heap.size a b) : Mdi w b g := ⟨h.below.trans (k.mono h.below.size), h.tape.below k⟩
/-- What is known of the tape's links. -/
theorem links_ok11 {N L g : Nat} {w w' : World} {e : Ending} (h : LinksP N L g w e w') (hg : g < w.heap.size) : ∃ ks A c, e = .returned (.slice A ks.length c) ∧ ks.length ≤ N ∧ (∀ W : World, TStep w' g W → Lds W W.heap.size A ks) ∧ TStep w g w' := by
  obtain ⟨v, n, rfl, hn, ho, hst⟩ := h
  obtain ⟨ks, hrd, hks, hw⟩ := ho.toRd
  obtain ⟨A, c, hv, _⟩ := hrd.read
  refine ⟨ks, A, c, by rw [hv], by omega, fun W k => ?_, hst⟩
  obtain ⟨A5, c5, e5, h5⟩ := (hrd.keep (KpA.step hg k) (Nat.le_refl _)).read
  rw [hv] at e5
  injection e5 with e6
  rw [e6]
  exact h5
theorem set3_cell {W : World} {Y B : Nat} (h : B ≠ Y) (q : Nat) (a b c : Value) : (((W.setCell ⟨Y, 0, none⟩ a).setCell ⟨Y, 1, none⟩ b).setCell ⟨Y, 2, none⟩ c).cell? ⟨B, q, none⟩ = W.cell? ⟨B, q, none⟩ :=
  World.cell?_of_block (((Below.heap_setCell _ ⟨Y, 2, none⟩ c B h).trans (Below.heap_setCell _ ⟨Y, 1, none⟩ b B h)).trans (Below.heap_setCell _ ⟨Y, 0, none⟩ a B h))
/-- The box of y, written anew. -/
theorem y_set {w5 wa : World} {Y0 g : Nat} {a b c : Value} (h : Has wa Y0 25 #[a, b, c]) (t : TStep w5 g wa) (hs : w5.heap.size ≤ Y0) (hg : g < w5.heap.size) (z1 : Int) (z2 : ByteArray) (z3 : Nat) :
    Has (((wa.setCell ⟨Y0, 0, none⟩ (.int .i64 z1)).setCell ⟨Y0, 1, none⟩ (.string z2)).setCell ⟨Y0, 2, none⟩ (.int .u32 (z3 : Int))) Y0 25 #[.int .i64 z1, .string z2, .int .u32 (z3 : Int)] ∧ TStep w5 g (((wa.setCell ⟨Y0, 0, none⟩ (.int .i64 z1)).setCell ⟨Y0, 1, none⟩ (.string z2)).setCell ⟨Y0, 2, none⟩ (.int .u32 (z3 : Int))) :=
  ⟨((h.set_ 0 (.int .i64 z1)).set_ 1 (.string z2)).set_ 2 (.int .u32 (z3 : Int)), ((t.set (p := ⟨Y0, 0, none⟩) hs hg _).set (p := ⟨Y0, 1, none⟩) hs hg _).set (p := ⟨Y0, 2, none⟩) hs hg _⟩
set_option maxRecDepth 100000 in
set_option maxHeartbeats 1600000 in
theorem inserts_walk (A : Option Addr) (n0 cp : Nat) (x : Nd) (id1 lv1 : Int) (w : World) (hL : Lets w) (hnc : n0 ≤ cp) (hc : cp ≤ maxLen) (hN : Nums w w.heap.size A n0) (hx : x.wide) (hid1 : I64 id1) (hlv1 : I64 lv1) :
    Calls Tryz.prog 3 #[.slice A n0 cp, x.val, .int .i64 id1, .int .i64 lv1] w (LawP w) := by
  have HXW := Lib.hid hx
  obtain ⟨xi, xk, xw⟩ := x
  change Calls Tryz.prog 3 #[.slice A n0 cp, .agg #[.int .i64 xi, .string xk, .int .u32 (xw : Int)], .int .i64 id1, .int .i64 lv1] w (LawP w)
  obtain ⟨w0, hw0⟩ : ∃ w0, w0 = w.alloc (.cells #[.int .i64 xi, .string xk, .int .u32 (xw : Int)] 25) := ⟨_, rfl⟩
  have hk0 : Below w.heap.size w w0 := by rw [hw0]; exact (Below.refl w.heap.size w).alloc (Nat.le_refl _) _
  have hX0 : Has w0 w.heap.size 25 #[.int .i64 xi, .string xk, .int .u32 (xw : Int)] := by rw [hw0]; exact Has.new _ _ _
  have HK0 := Lib.hid hk0
  have hN0 : Nums w0 w0.heap.size A n0 := fun h => by
    obtain ⟨b, o, e, hb, hc2⟩ := hN h
    exact ⟨b, o, e, by have := hk0.size; omega, fun i hi => by
      obtain ⟨v, v1, v2, v3⟩ := hc2 i hi
      exact ⟨v, v1, v2, (hk0.cell (p := ⟨b, o + i, none⟩) hb).trans v3⟩⟩
  have hL0 : Lets w0 := hL.below hk0
  have HSA := Lib.hid (fun (W : World) => sane10_any W)
  have HLL := Lib.hid hL0
  have HI1 := Lib.hid hid1
  have HV1 := Lib.hid hlv1
  obtain ⟨X0, hX⟩ : ∃ X0, X0 = w.heap.size := ⟨_, rfl⟩
  rw [← hX] at hX0
  clear hk0
  go_enter Tryz.func3, Tryz.ntmps3
  go_upto_region 1 with fail
  rw [← hw0, ← hX]
  clear hw0 hX
  go_wp2_with fail
  refine (new_any A n0 cp w0 hnc hc hN0).mono ?_
  rintro e w1 ⟨g, hg1, rfl, hTp, hb1⟩
  have hXg : X0 ≠ g := by have := hX0.lt; omega
  have HX0 := Lib.hid (fun (W : World) (h : Mdi w0 W g) => hX0.below h.below)
  have hne2 : 0 ≠ g := by have := hL0.lt; omega
  have hmd : Mdi w0 w1 g := ⟨hb1, hTp⟩
  have HLB := Lib.hid (fun (W : World) (h : Mdi w0 W g) => HLL.out.below h.below)
  clear hN hN0 hL0 hX0 hnc hc hL hTp hb1 hid1 hlv1 hx
  go_wp2_with fail
  go_loopw [10] (fun vi wr => ∃ i : Nat, vi = .int .i64 (i : Int) ∧ i ≤ 4 ∧ Mdi w0 wr g) (fun vi _ => 4 - (intOf vi).toNat)
  case atStart => exact ⟨0, rfl, by omega, hmd⟩
  case round =>
    clear hmd
    obtain ⟨i, rfl, hi4, hmd⟩ := hrel
    by_cases hlt : i < 4
    · have hltz : (i : Int) < 4 := by omega
      go_wp2_with fail
      refine (roster_any 7 g wr (by omega) (by omega) hmd.tape (HLB.out _ hmd) hne2).mono ?_
      rintro e w2 ⟨A3, c3, l, rfl, ho, hl8, hwd, hchk, hst⟩
      have HMD2 := Lib.hid (hmd.step hg1 hst)
      have HWD := Lib.hid (wide_of hchk)
      obtain ⟨_, _, er, hnd⟩ := ho.read
      injection er with e1 e3 e2
      clear e3
      subst e1 e2
      have hA3 : ∀ b o, A3 = some ⟨b, o, none⟩ → b ≠ g := fun b o e => by
        have h1 := (ho.lt b (by rw [e]; rfl)).1
        have h2 := hmd.tape.lt
        omega
      have hln : l.length ≤ 7 := hl8
      have HND := Lib.hid (fun (W : World) (k : TStep w2 g W) => nds_step hnd hA3 k)
      have HTR := Lib.hid (TStep.refl hst.1)
      obtain ⟨LN, hLN⟩ : ∃ n, n = l.length := ⟨_, rfl⟩
      have HLN := Lib.hid hLN
      clear ho hwd hst hmd hnd hl8 hchk
      rw [← hLN] at hln ⊢
      clear hLN
      go_wp2_with fail
      refine (next_any g 4 w2 HTR.out.1 (by omega)).mono ?_
      rintro e w3 ⟨r, r0, r1, rfl, hst3⟩
      obtain ⟨m, rfl⟩ : ∃ m : Nat, r = (m : Int) := ⟨r.toNat, by omega⟩
      have hm : m ≤ 3 := by omega
      have HT3 := Lib.hid hst3
      clear r0 r1 hst3 HTR
      go_wp2_with fail
      refine (next_any g 5 w3 HT3.out.1 (by omega)).mono ?_
      rintro e w4 ⟨r, r0, r1, rfl, hst4⟩
      obtain ⟨m1, rfl⟩ : ∃ m : Nat, r = (m : Int) := ⟨r.toNat, by omega⟩
      have hm1 : m1 ≤ 4 := by omega
      have HT4 := Lib.hid (HT3.out.trans hst4)
      clear r0 r1 hst4 HT3
      go_wp2_with fail
      obtain ⟨mo, hmo⟩ : ∃ mo : Nat, mo = m1 / 4 := ⟨_, rfl⟩
      have hdv : (m1 : Int) / 4 = (mo : Int) := by omega
      rw [hdv]
      have hmo2 : mo ≤ 1 := by omega
      have HLK1 := Lib.hid (tlinks_any A3 l c3 (m : Int) mo g w4 HT4.out.1 (HND.out _ HT4.out) (by have := HLN.out; omega) hA3 HWD.out (by omega) (by omega))
      have hg4 := HT4.out.1.lt
      rw [← HLN.out] at HLK1
      clear hmo hdv hm1
      refine (HLK1.out).mono ?_
      rintro e w5 hlk
      obtain ⟨ks, A5, c5, rfl, hkn, hrd5, hst5⟩ := links_ok11 hlk hg4
      have HRD := Lib.hid hrd5
      have HT5 := Lib.hid (HT4.out.trans hst5)
      have HTR5 := Lib.hid (TStep.refl hst5.1)
      obtain ⟨KN, hKN⟩ : ∃ n, n = ks.length := ⟨_, rfl⟩
      have HKN := Lib.hid hKN
      rw [← hKN] at hkn ⊢
      have HSO := Lib.hid (fun (W : World) (k : TStep w5 g W) => some_any 1 g W (by omega) (by omega) k.1 (HLB.out W (HMD2.out.step hg1 (HT5.out.trans k))) hne2)
      have HSO5 := Lib.hid (HSO.out _ HTR5.out)
      clear hlk hrd5 hst5 HT4 HLK1 hg4 hKN
      go_wp2_with fail
      refine (HSO5.out).mono ?_
      rintro e w6 ⟨A6, c6, l6, rfl, ho6, h60, h61, hchk6, hst6⟩
      obtain ⟨y, rfl⟩ : ∃ y, l6 = [y] := by
        match l6, h60, h61 with
        | [y], _, _ => exact ⟨y, rfl⟩
        | _ :: _ :: _, _, h => simp at h
      obtain ⟨_, _, er, hnd6⟩ := ho6.read
      injection er with e1 e3 e2
      clear e3
      subst e1 e2
      have HYW := Lib.hid (wide_of hchk6 y (by simp))
      have HN6 := Lib.hid hnd6
      have HT6 := Lib.hid hst6
      obtain ⟨yi, yk, yw⟩ := y
      obtain ⟨b6, o6, rfl, hb6, z0, z1, z2⟩ := hnd6.at_ (i := 0) (by simp)
      simp at z0 z1 z2
      have HIR := Lib.hid (fun (W : World) (k : TStep w5 g W) => idr_any A3 l c3 g W k.1 (HND.out _ (HT5.out.trans k)) (by have := HLN.out; omega) hA3 HWD.out)
      rw [← HLN.out] at HIR
      have HPK := Lib.hid (fun (W : World) (k : TStep w5 g W) => pick_new g W k.1 [(m : Int), (m : Int), (m : Int), (m : Int), -1, 17] (by simp) (by simp))
      obtain ⟨w7, hw7⟩ : ∃ w7, w7 = w6.alloc (.cells #[.int .i64 yi, .string yk, .int .u32 (yw : Int)] 25) := ⟨_, rfl⟩
      obtain ⟨Y0, hY0⟩ : ∃ Y0, Y0 = w6.heap.size := ⟨_, rfl⟩
      have hk7 : Below w6.heap.size w6 w7 := by rw [hw7]; exact (Below.refl w6.heap.size w6).alloc (Nat.le_refl _) _
      have HY7 := Lib.hid (show Has w7 Y0 25 #[.int .i64 yi, .string yk, .int .u32 (yw : Int)] by rw [hw7, hY0]; exact Has.new _ _ _)
      have HT7 := Lib.hid (HT6.out.below hk7)
      have hYg : Y0 ≠ g := by have := HT6.out.1.lt; omega
      have hYs : w5.heap.size ≤ Y0 := by have := HT6.out.2.size; omega
      have hg5 : g < w5.heap.size := HTR5.out.1.lt
      clear ho6 h60 h61 hchk6 hst6 hnd6 HSO5 hk7
      go_wp2_with fail
      rw [← hw7, ← hY0]
      clear hw7 hY0 z0 z1 z2 hb6
      refine (HIR.out _ HT7.out).mono ?_
      rintro e w8 ⟨id, hidb, rfl, hst8⟩
      have HT8 := Lib.hid (HT7.out.trans hst8)
      have HY8 := Lib.hid (has_tstep HY7.out hYg hst8)
      have HPK8 := Lib.hid (HPK.out w8 HT8.out)
      clear hst8 HIR HT7 HY7
      go_wp2_with fail
      refine (HPK8.out).mono ?_
      rintro e w9 ⟨G, hG, rfl, hst9⟩
      have hk9 := (Below.refl w8.heap.size w8).alloc (Nat.le_refl _) (.cells (([(m : Int), (m : Int), (m : Int), (m : Int), -1, 17] : List Int).map (Value.int .i64)).toArray 3)
      have HT9 := Lib.hid ((HT8.out.below hk9).trans hst9)
      have HY9 := Lib.hid (has_tstep (HY8.out.below hk9) hYg hst9)
      have HI9 := Lib.hid hidb
      clear hst9 hk9 HPK8 HPK hG HT8 HY8 hidb
      go_upto_block 2 with fail
      go_cut [11, 15, 16] (fun s t u wx => ∃ (Ay : Option Addr) (cy : Nat) (ly : List Nd) (idy gy : Int) (z : Nd), s = .slice Ay ly.length cy ∧ t = .int .i64 idy ∧ u = .int .i64 gy ∧ ly.length ≤ 8 ∧ I64 idy ∧ Nds wx wx.heap.size Ay ly ∧ Hid (∀ x ∈ ly, x.wide) ∧ Has wx Y0 25 #[.int .i64 z.id, .string z.key, .int .u32 (z.word : Int)] ∧ z.wide ∧ TStep w5 g wx)
      case first =>
        have hi : i = 0 ∨ i = 1 ∨ i = 2 ∨ i = 3 := by omega
        rcases hi with hi | hi | hi | hi
        · have hz1 : ((i : Int) == 1) = false := by simp [hi]
          have hz2 : ((i : Int) == 2) = false := by simp [hi]
          have hz3 : ((i : Int) == 3) = false := by simp [hi]
          clear hi
          have HN9 := Lib.hid (HND.out _ (HT5.out.trans HT9.out))
          go_wp2_with fail
          go_meet
          exact ⟨A3, c3, l, id, G, ⟨yi, yk, yw⟩, by rw [HLN.out], rfl, rfl, by have := HLN.out; omega, HI9.out, HN9.out, HWD, HY9.out, HYW.out, HT9.out⟩
        · have hz1 : ((i : Int) == 1) = true := by simp [hi]
          have hz2 : ((i : Int) == 2) = false := by simp [hi]
          have hz3 : ((i : Int) == 3) = false := by simp [hi]
          clear hi
          have y0 := HY9.out.cell 0
          have y1 := HY9.out.cell 1
          have y2 := HY9.out.cell 2
          simp at y0 y1 y2
          have hbA := (Below.refl w9.heap.size w9).alloc (Nat.le_refl _) (.cells #[.int .i64 yi, .string yk, .int .u32 (yw : Int)] 25)
          have HTA := Lib.hid (HT9.out.below hbA)
          have HYA := Lib.hid (HY9.out.below hbA)
          have hna := one_node w9 ⟨yi, yk, yw⟩
          have HOD : Hid (Calls Tryz.prog 12 #[.pointer (some ⟨g, 0, none⟩), .slice (some ⟨w9.heap.size, 0, none⟩) 1 1] (w9.alloc (.cells #[.int .i64 yi, .string yk, .int .u32 (yw : Int)] 25)) (OddQ 1 g (w9.alloc (.cells #[.int .i64 yi, .string yk, .int .u32 (yw : Int)] 25)))) := Lib.hid (oddRoster_some (some ⟨w9.heap.size, 0, none⟩) [⟨yi, yk, yw⟩] 1 g _ HTA.out.1 (HLB.out _ (HMD2.out.step hg1 (HT5.out.trans HTA.out))) hne2 (by rw [World.size_alloc]; exact hna) (by simp) (by simp) (fun z hz => (List.mem_singleton.1 hz) ▸ HYW.out))
          clear hbA hna
          go_wp2_with fail
          refine (HOD.out).mono ?_
          rintro e wa ⟨B6, d6, xs, rfl, hoa, hla, hwa, hsta, h1a⟩
          obtain ⟨_, _, er, hnda⟩ := hoa.read
          injection er with e1 e3' e2
          clear e3'
          subst e1 e2
          obtain ⟨b7, o7, rfl, -, q0, q1, q2⟩ := hnda.at_ (i := 0) (by omega)
          have HZW := Lib.hid (hwa xs[0] (List.getElem_mem _))
          generalize xs[0] = z at *
          obtain ⟨zi, zk, zw⟩ := z
          simp at q0 q1 q2
          have HTB := Lib.hid (HTA.out.trans hsta)
          have HYB := Lib.hid (has_tstep HYA.out hYg hsta)
          have hfz := fun o => HYB.out.frozen o
          have p0 := HYB.out.cell 0
          have p1 := HYB.out.cell 1
          have p2 := HYB.out.cell 2
          simp at p0 p1 p2
          have hxl : (0 : Int) < (xs.length : Int) := by omega
          clear hoa hnda hwa hsta HTA HYA HOD y0 y1 y2
          go_wp2_with fail
          go_meet
          obtain ⟨hy, ht⟩ := y_set HYB.out HTB.out hYs hg5 zi zk zw
          exact ⟨A3, c3, l, id, G, ⟨zi, zk, zw⟩, by rw [HLN.out], rfl, rfl, by have := HLN.out; omega, HI9.out, HND.out _ (HT5.out.trans ht), HWD, hy, HZW.out, ht⟩
        · have hz1 : ((i : Int) == 1) = false := by simp [hi]
          have hz2 : ((i : Int) == 2) = true := by simp [hi]
          have hz3 : ((i : Int) == 3) = false := by simp [hi]
          clear hi
          have HOD := Lib.hid (oddRoster_any A3 l c3 g w9 HT9.out.1 (HLB.out w9 (HMD2.out.step hg1 (HT5.out.trans HT9.out))) hne2 (HND.out _ (HT5.out.trans HT9.out)) (by have := HLN.out; omega) HWD.out)
          rw [← HLN.out] at HOD
          go_wp2_with fail
          refine (HOD.out).mono ?_
          rintro e wa ⟨B6, d6, xs, rfl, hoa, hla, hwa, hsta⟩
          obtain ⟨_, _, er, hnda⟩ := hoa.read
          injection er with e1 e3' e2
          clear e3'
          subst e1 e2
          have HTA := Lib.hid (HT9.out.trans hsta)
          have HNA := Lib.hid hnda
          have HWA := Lib.hid hwa
          have HYA := Lib.hid (has_tstep HY9.out hYg hsta)
          have hla8 : xs.length ≤ 8 := by omega
          clear hoa hsta hnda hwa HOD hla
          go_wp2_with fail
          go_meet
          exact ⟨B6, d6, xs, id, G, ⟨yi, yk, yw⟩, rfl, rfl, rfl, hla8, HI9.out, HNA.out, HWA, HYA.out, HYW.out, HTA.out⟩
        · have hz1 : ((i : Int) == 1) = false := by simp [hi]
          have hz2 : ((i : Int) == 2) = false := by simp [hi]
          have hz3 : ((i : Int) == 3) = true := by simp [hi]
          clear hi
          have hG7 : w9.heap.size ≠ g := by have := HT9.out.1.lt; omega
          have HNX := Lib.hid (fun (W : World) (k : TStep w5 g W) => next_any g 2 W k.1 (by omega))
          have HK7 := Lib.hid (HT9.out.below ((Below.refl w9.heap.size w9).drew))
          have hk8 := (Below.refl w9.heap.size w9).drew.alloc (Nat.le_refl _) (.cells #[.int .i64 (m : Int), .int .i64 lv1] 3)
          have HK8 := Lib.hid (HT9.out.below hk8)
          have HYF := Lib.hid (fun (W : World) (k : TStep w9 g W) => has_tstep HY9.out hYg k)
          have HC8 := Lib.hid (fun (W : World) (q : Nat) (hq : q < 2) (k : TStep (w9.drew.alloc (.cells #[.int .i64 (m : Int), .int .i64 lv1] 3)) g W) => (by
            have h := has_tstep (Has.new w9.drew 3 #[.int .i64 (m : Int), .int .i64 lv1]) hG7 k
            have h2 := h.cell q
            rcases (by omega : q = 0 ∨ q = 1) with rfl | rfl
            · exact ⟨(m : Int), h2⟩
            · exact ⟨lv1, h2⟩ : ∃ v : Int, W.cell? ⟨w9.heap.size, q, none⟩ = some (.int .i64 v)))
          have HC9 := Lib.hid (fun (W : World) (q : Nat) (hq : q < 2) => (by
            have h := Has.new W 3 #[.int .i64 (m : Int), .int .i64 lv1]
            have h2 := h.cell q
            rcases (by omega : q = 0 ∨ q = 1) with rfl | rfl
            · exact ⟨(m : Int), h2⟩
            · exact ⟨lv1, h2⟩ : ∃ v : Int, (W.alloc (.cells #[.int .i64 (m : Int), .int .i64 lv1] 3)).cell? ⟨W.heap.size, q, none⟩ = some (.int .i64 v)))
          have HXC := Lib.hid (fun (W : World) (h : Has W X0 25 #[.int .i64 xi, .string xk, .int .u32 (xw : Int)]) => (⟨h.cell 0, h.cell 1, h.cell 2⟩ : W.cell? ⟨X0, 0, none⟩ = some (.int .i64 xi) ∧ W.cell? ⟨X0, 1, none⟩ = some (.string xk) ∧ W.cell? ⟨X0, 2, none⟩ = some (.int .u32 (xw : Int))))
          have HYC := Lib.hid (fun (W : World) (h : Has W Y0 25 #[.int .i64 yi, .string yk, .int .u32 (yw : Int)]) => (⟨fun o => h.frozen o, h.cell 0, h.cell 1, h.cell 2⟩ : (∀ o, W.frozen? ⟨Y0, o, none⟩ = false) ∧ W.cell? ⟨Y0, 0, none⟩ = some (.int .i64 yi) ∧ W.cell? ⟨Y0, 1, none⟩ = some (.string yk) ∧ W.cell? ⟨Y0, 2, none⟩ = some (.int .u32 (yw : Int))))
          have HXF := Lib.hid (fun (W : World) (k : TStep w5 g W) => HX0.out W (HMD2.out.step hg1 (HT5.out.trans k)))
          have HYD := Lib.hid (HY9.out.below ((Below.refl w9.heap.size w9).drew))
          have HYE := Lib.hid (HY9.out.below hk8)
          obtain ⟨x0, x1, x2⟩ := HXC.out _ (HXF.out _ HK7.out)
          obtain ⟨x0', x1', x2'⟩ := HXC.out _ (HXF.out _ HK8.out)
          obtain ⟨x0q, x1q, x2q⟩ := HXC.out _ ((HXF.out _ HT9.out).alloc (.cells #[.int .i64 (m : Int), .int .i64 lv1] 3))
          obtain ⟨x0r, x1r, x2r⟩ := HXC.out _ (HXF.out _ HT9.out)
          have hYn : w9.heap.size ≠ Y0 := by have := HY9.out.lt; omega
          clear hG7 hk8
          go_wp2_with fail
          go_region_law (first | (go_simp; go_at_call 7; refine (HNX.out _ HK7.out).mono ?_; rintro e w8 ⟨p, p0, p1, rfl, hst8⟩; obtain ⟨q, rfl⟩ := Int.eq_ofNat_of_zero_le p0; have hq : q < 2 := (by omega); have hq1 : (0 : Int) ≤ (q : Int) := p0; have hq2 : (q : Int) < 2 := (by omega); have HT8 := Lib.hid (HK7.out.trans hst8); have HY8 := Lib.hid (has_tstep HYD.out hYg hst8); have HTF := Lib.hid (HT8.out.below ((Below.refl w8.heap.size w8).alloc (Nat.le_refl _) (.cells #[.int .i64 (m : Int), .int .i64 lv1] 3))); have HYG := Lib.hid (HY8.out.alloc (.cells #[.int .i64 (m : Int), .int .i64 lv1] 3)); obtain ⟨v8, hz8⟩ := HC9.out w8 q hq; have hBY : w8.heap.size ≠ Y0 := (by have := HY8.out.lt; omega); have hs8 := (set3_cell hBY q (.int .i64 xi) (.string xk) (.int .u32 (xw : Int))).trans hz8; obtain ⟨v9, hz9⟩ := HC9.out (((w8.setCell ⟨Y0, 0, none⟩ (.int .i64 xi)).setCell ⟨Y0, 1, none⟩ (.string xk)).setCell ⟨Y0, 2, none⟩ (.int .u32 (xw : Int))) q hq; have hz9' := hz9; simp only [World.size_setCell] at hz9'; obtain ⟨a0, a1, a2⟩ := HXC.out _ (HXF.out _ HT8.out); obtain ⟨b0, b1, b2⟩ := HXC.out _ (HXF.out _ HTF.out); obtain ⟨hfz, p0', p1', p2'⟩ := HYC.out _ HYG.out; obtain ⟨hfz2, r0', r1', r2'⟩ := HYC.out _ HY8.out) | (go_simp; go_at_call 7; refine (HNX.out _ HK8.out).mono ?_; rintro e w8 ⟨p, p0, p1, rfl, hst8⟩; obtain ⟨q, rfl⟩ := Int.eq_ofNat_of_zero_le p0; have hq : q < 2 := (by omega); have hq1 : (0 : Int) ≤ (q : Int) := p0; have hq2 : (q : Int) < 2 := (by omega); have HTF := Lib.hid (HK8.out.trans hst8); have HYG := Lib.hid (has_tstep HYE.out hYg hst8); obtain ⟨v8, hz8⟩ := HC8.out w8 q hq hst8; have hs8 := (set3_cell hYn q (.int .i64 xi) (.string xk) (.int .u32 (xw : Int))).trans hz8; obtain ⟨b0, b1, b2⟩ := HXC.out _ (HXF.out _ HTF.out); obtain ⟨hfz, p0', p1', p2'⟩ := HYC.out _ HYG.out))
          all_goals
            go_wp2_with fail
            go_meet
            first
            | (obtain ⟨hy, ht⟩ := y_set HYG.out HTF.out hYs hg5 xi xk xw; exact ⟨A3, c3, l, id1, _, ⟨xi, xk, xw⟩, by rw [HLN.out], rfl, rfl, by have := HLN.out; omega, HI1.out, HND.out _ (HT5.out.trans ht), HWD, hy, HXW.out, ht⟩)
            | (obtain ⟨hy, ht⟩ := y_set HY8.out HT8.out hYs hg5 xi xk xw; exact ⟨A3, c3, l, id1, _, ⟨xi, xk, xw⟩, by rw [HLN.out], rfl, rfl, by have := HLN.out; omega, HI1.out, HND.out _ (HT5.out.trans (ht.alloc (.cells #[.int .i64 (m : Int), .int .i64 lv1] 3))), HWD, hy.alloc (.cells #[.int .i64 (m : Int), .int .i64 lv1] 3), HXW.out, ht.alloc (.cells #[.int .i64 (m : Int), .int .i64 lv1] 3)⟩)
      case rest =>
      obtain ⟨Ay, cy, ly, idy, gy, z, rfl, rfl, rfl, hly, hidy, hndy, HWY, hYz, hzw, htc⟩ := hcut
      have HTC := Lib.hid (HT5.out.trans htc)
      have HMC := Lib.hid (HMD2.out.step hg1 HTC.out)
      have HWT : Hid (∀ y ∈ ly, y.word < 4294967296) := Lib.hid fun x hx => (HWY.out x hx).2
      have hldc := HRD.out _ htc
      obtain ⟨zi, zk, zw⟩ := z
      have HRM : Hid (Calls Tryz.prog 13 #[.slice Ay ly.length cy, .slice A5 ks.length c5, .agg #[.int .i64 zi, .string zk, .int .u32 (zw : Int)], .int .i64 idy, .int .i64 gy] wc (AnsP (insR ly ks ⟨zi, zk, zw⟩ idy gy) (insC ly ks ⟨zi, zk, zw⟩ idy gy) (insE ly ks ⟨zi, zk, zw⟩ idy gy) wc)) := Lib.hid ((insert_any Ay A5 ly ks ⟨zi, zk, zw⟩ cy c5 idy gy wc hndy hldc (by have := HKN.out; unfold maxLen; omega) HWT.out hzw hidy).mono (fun e w' k => insP_ans k))
      have HRR : Hid (∀ W : World, Below wc.heap.size wc W → Calls Tryz.prog 14 #[.slice Ay ly.length cy, .slice A5 ks.length c5, .agg #[.int .i64 zi, .string zk, .int .u32 (zw : Int)], .int .i64 idy, .int .i64 gy] W (AnsP (insR ly ks ⟨zi, zk, zw⟩ idy gy) (insC ly ks ⟨zi, zk, zw⟩ idy gy) (insE ly ks ⟨zi, zk, zw⟩ idy gy) W)) := Lib.hid (fun W j => (rinsert_any Ay A5 ly ks ⟨zi, zk, zw⟩ cy c5 idy gy W ((hndy.below j).more j.size) ((hldc.below j).more j.size) (by have := HKN.out; omega) HWT.out hzw (by omega)).mono (fun e w' k => insP_ans k))
      have HSM := Lib.hid (fun (W : World) (A5 A6 : Option Addr) (c5 c6 : Nat) (h5 : Lds W W.heap.size A5 (insR ly ks ⟨zi, zk, zw⟩ idy gy)) (h6 : Lds W W.heap.size A6 (insR ly ks ⟨zi, zk, zw⟩ idy gy)) => (by
        have := rsame6_any A5 A6 _ _ c5 c6 W h5 h6 (by have := insR_len ly ks ⟨zi, zk, zw⟩ idy gy; omega)
        rw [decide_eq_true rfl] at this
        exact this))
      rw [← HKN.out] at HRM HRR
      have hnn : (((insC ly ks ⟨zi, zk, zw⟩ idy gy : Nat) : Int) != (insC ly ks ⟨zi, zk, zw⟩ idy gy : Nat)) = false := by simp
      generalize insR ly ks ⟨zi, zk, zw⟩ idy gy = R at *
      generalize insC ly ks ⟨zi, zk, zw⟩ idy gy = C at *
      generalize insE ly ks ⟨zi, zk, zw⟩ idy gy = E at *
      have hne : (E != E) = false := by simp
      have HYz := Lib.hid hYz
      have q0 := hYz.cell 0
      have q1 := hYz.cell 1
      have q2 := hYz.cell 2
      simp at q0 q1 q2
      generalize ly.length = YN at *
      clear hndy hldc hYz hzw
      go_wp2_with fail
      refine (HRM.out).mono ?_
      rintro e wd ⟨v1, rfl, hD1, hbd⟩
      have HD1 := Lib.hid hD1
      have HBD := Lib.hid hbd
      have hYd := HYz.out.below hbd
      have p0 := hYd.cell 0
      have p1 := hYd.cell 1
      have p2 := hYd.cell 2
      simp at p0 p1 p2
      clear hD1 hbd HRM hYd q0 q1 q2
      go_wp2_with fail
      refine (HRR.out _ HBD.out).mono ?_
      rintro e we ⟨v2, rfl, hD2, hbe⟩
      have HBE := Lib.hid (HBD.out.trans (hbe.mono HBD.out.size))
      obtain ⟨A6, c6, rfl, -, -, hr6⟩ := (HD1.out.below hbe).read
      obtain ⟨A7, c7, rfl, -, -, hr7⟩ := hD2.read
      have HSA2 := Lib.hid (HSM.out we A6 A7 c6 c7 hr6 hr7)
      generalize R.length = RN at *
      clear hD2 hbe hr6 hr7 HRR HD1 p0 p1 p2
      go_wp2_with fail
      refine (HSA2.out).mono ?_
      rintro e wn ⟨rfl, hbn⟩
      have HBN := Lib.hid (HBE.out.trans (hbn.mono HBE.out.size))
      clear hbn HSA2
      go_wp2_with fail
      exact ⟨⟨i + 1, by go_num, by omega, HMC.out.on HBN.out⟩, by simp [intOf]; omega⟩
    · have hltz : ¬ (i : Int) < 4 := by omega
      go_wp2_with fail
      refine (HSA.out _).mono ?_
      rintro e wz ⟨rfl, hbz⟩
      have HBZ := Lib.hid (HK0.out.trans ((hmd.below.trans (hbz.mono hmd.below.size)).mono HK0.out.size))
      clear hbz
      go_wp2_with fail
      go_ret
      exact ⟨rfl, HBZ.out⟩
end Go.Proofs.YtjokbdhineilcaaGreatDoor
