/-
  The walk of BulkLoads: from whatever numbers, nodes and height it answers true and only makes memory. Conditions: the arguments can be read; 'letters' is as its initialiser lays it.
-/
import Derived.Test.YtddcfiiahahkbaaDoorLvK
import Derived.Test.YtddcfiiahahkbaaDoorLnC
import Derived.Test.YtddcfiiahahkbaaDoorLgJ
import Derived.Test.YtddcfiiahahkbaaDoorKhU
import Derived.Deep.DeepCutAuto
import Derived.Deep.CutBlock
namespace Go.Proofs.YtddcfiiahahkbaaDoor
open Go.RowKit

set_option maxRecDepth 100000 in
set_option maxHeartbeats 3200000 in
theorem loads9_any (A : Option Addr) (l : List Nd) (c : Nat) (h : Int) (w : World) (hl : Nds w w.heap.size A l) (hwd : ∀ x ∈ l, x.word < 4294967296) :
    Calls Tryd.prog 13 #[.slice A l.length c, .int .i64 h] w (BoolN true w) := by
  have H1 := Lib.hid (load_any A l c h w hl hwd)
  have H2 := Lib.hid (fun (W : World) (j : Below w.heap.size w W) => rload_any A l c h W ((hl.below j).more j.size) hwd)
  have HZ : Hid (ldE l h = 0 → (bldV l (h + 1).toNat).length ≤ 64) := Lib.hid fun e => by
    rw [bld_len]
    rcases ldE_cases l h with ⟨_, k⟩ | ⟨_, _, k⟩ | ⟨_, _, _, k⟩ | ⟨_, k, _, _⟩
    · rw [k] at e; cases e
    · rw [k] at e; cases e
    · rw [k] at e; cases e
    · exact (chkV_zero.1 k).1
  have HSM := Lib.hid (fun (W : World) (A5 A6 : Option Addr) (R : List Ld) (c5 c6 : Nat) (hR : R.length ≤ 64) (h5 : Lds W W.heap.size A5 R) (h6 : Lds W W.heap.size A6 R) => (by
    have := rsame6_any A5 A6 R R c5 c6 W h5 h6 (by omega)
    rw [decide_eq_true rfl] at this
    exact this))
  have HS0 := Lib.hid (fun (W : World) => (by
    have := rsame6_any none none [] [] 0 0 W (fun h => absurd rfl h) (fun h => absurd rfl h) (by simp)
    rw [decide_eq_true rfl] at this
    exact this : Calls Tryd.prog 26 #[.slice none 0 0, .slice none 0 0] W (BoolN true W)))
  unfold LoadP LoadOk at H1 H2
  generalize ldE l h = E at *
  generalize bldV l (h + 1).toNat = R at *
  generalize nzL R = cn at *
  clear hl hwd
  generalize l.length = n at *
  go_enter Tryd.func13, Tryd.ntmps13
  go_wp2_with fail
  refine (H1.out).mono ?_
  rintro e w1 (⟨hE, rfl, hb1⟩ | ⟨hE, v1, rfl, hD1, hb1⟩)
  · have HB1 := Lib.hid hb1
    have HE := Lib.hid hE
    clear hb1 hE H1
    go_wp2_with fail
    refine (H2.out _ HB1.out).mono ?_
    rintro e w2 (⟨-, rfl, hb2⟩ | ⟨hE, -⟩)
    · have HB2 := Lib.hid (HB1.out.trans (hb2.mono HB1.out.size))
      clear hb2 H2
      go_wp2_with fail
      refine (HS0.out _).mono ?_
      rintro e w3 ⟨rfl, hb3⟩
      have HB3 := Lib.hid (HB2.out.trans (hb3.mono HB2.out.size))
      clear hb3
      go_wp2_with fail
      go_ret
      exact ⟨ret_bool (by simp), HB3.out⟩
    · exact absurd hE HE.out
  · have HB1 := Lib.hid hb1
    have hRl := HZ.out hE
    have HE := Lib.hid hE
    obtain ⟨A5, c5, rfl, -, -, hR5⟩ := hD1.read
    have HX5 := Lib.hid hR5
    clear hb1 hD1 hR5 H1 HZ hE
    obtain ⟨RN, hRN⟩ : ∃ n, n = R.length := ⟨_, rfl⟩
    have HRN := Lib.hid hRN
    rw [← hRN] at hRl ⊢
    clear hRN
    go_wp2_with fail
    refine (H2.out _ HB1.out).mono ?_
    rintro e w2 (⟨hE, -⟩ | ⟨-, v2, rfl, hD2, hb2⟩)
    · exact absurd HE.out hE
    · obtain ⟨A6, c6, rfl, -, -, hR6⟩ := hD2.read
      have HSS := Lib.hid (HSM.out w2 A5 A6 R c5 c6 (by rw [← HRN.out]; exact hRl) ((HX5.out.below hb2).more hb2.size) hR6)
      have HB2 := Lib.hid (HB1.out.trans (hb2.mono HB1.out.size))
      rw [← HRN.out] at HSS ⊢
      clear hD2 hR6 hb2 H2 HSM
      go_wp2_with fail
      refine (HSS.out).mono ?_
      rintro e w3 ⟨rfl, hb3⟩
      have HB3 := Lib.hid (HB2.out.trans (hb3.mono HB2.out.size))
      clear hb3
      go_wp2_with fail
      go_ret
      exact ⟨ret_bool (by simp), HB3.out⟩
/-- What is known between the steps of the law's loop. -/
structure Mdw (w wx : World) (g : Nat) : Prop where
  below : Below w.heap.size w wx
  tape : Tape wx g
theorem Mdw.step {w a b : World} {g : Nat} (h : Mdw w a g) (hg : w.heap.size ≤ g) (k : TStep a g b) : Mdw w b g := ⟨h.below.grown k.2 h.below.size (fun j e => by have := Option.some.inj e; omega), k.1⟩
theorem Mdw.on {w a b : World} {g : Nat} (h : Mdw w a g) (k : Below a.heap.size a b) : Mdw w b g := ⟨h.below.trans (k.mono h.below.size), h.tape.below k⟩
set_option maxRecDepth 100000 in
set_option maxHeartbeats 3200000 in
theorem loads_walk (A A1 : Option Addr) (n0 cp c1 : Nat) (l1 : List Nd) (lv1 : Int) (w : World) (hL : Lets w) (hnc : n0 ≤ cp) (hc : cp ≤ maxLen) (hN : Nums w w.heap.size A n0) (hn1 : Nds w w.heap.size A1 l1) (hw1 : ∀ x ∈ l1, x.wide) :
    Calls Tryd.prog 3 #[.slice A n0 cp, .slice A1 l1.length c1, .int .i64 lv1] w (LawP w) := by
  have HSA := Lib.hid (fun (W : World) => sane9_any W)
  have HLD1 := Lib.hid (fun (W : World) (j : Below w.heap.size w W) => loads9_any A1 l1 c1 lv1 W ((hn1.below j).more j.size) (fun x hx => (hw1 x hx).2))
  obtain ⟨k1, hk1⟩ : ∃ k1, k1 = l1.length := ⟨_, rfl⟩
  have HLL := Lib.hid hL
  rw [← hk1] at HLD1 ⊢
  clear hk1 hn1 hw1
  go_enter Tryd.func3, Tryd.ntmps3
  go_wp2_with fail
  refine (new_any A n0 cp _ hnc hc hN).mono ?_
  rintro e w1 ⟨g, hg1, rfl, hTp, hb1⟩
  have hne2 : 0 ≠ g := by have := hL.lt; omega
  have hmd : Mdw w w1 g := ⟨hb1, hTp⟩
  have HLB := Lib.hid (fun (W : World) (h : Mdw w W g) => HLL.out.below h.below)
  clear hN hnc hc hL hTp hb1
  go_wp2_with fail
  go_loopw [8] (fun vi wr => ∃ i : Nat, vi = .int .i64 (i : Int) ∧ i ≤ 4 ∧ Mdw w wr g) (fun vi _ => 4 - (intOf vi).toNat)
  case atStart => exact ⟨0, rfl, by omega, hmd⟩
  case round =>
    clear hmd
    obtain ⟨i, rfl, hi4, hmd⟩ := hrel
    by_cases hlt : i < 4
    · have hltz : (i : Int) < 4 := by omega
      go_wp2_with fail
      refine (roster_any 8 g wr (by omega) (by omega) hmd.tape (HLB.out _ hmd) hne2).mono ?_
      rintro e w2 ⟨A2, c2, l, rfl, ho, hl8, hwd, hchk, hst⟩
      have hmd2 := hmd.step hg1 hst
      obtain ⟨_, _, er, hnd⟩ := ho.read
      injection er with e1 _ e2
      subst e1 e2
      have hA2 : ∀ b o, A2 = some ⟨b, o, none⟩ → b ≠ g := fun b o e => by
        have h1 := (ho.lt b (by rw [e]; rfl)).1
        have h2 := hmd.tape.lt
        omega
      clear ho hwd hst hmd hl8
      go_wp2_with fail
      refine (bool_any g 4 w2 hmd2.tape (by omega) (by omega)).mono ?_
      rintro e w3 ⟨b, rfl, hst3⟩
      have hmd3 := hmd2.step hg1 hst3
      have hnd3 := nds_step hnd hA2 hst3
      have HSR := Lib.hid (sortR_any A2 l c2 w3 hnd3 hchk)
      have hls := (chkV_zero.1 hchk).1
      have HWD : Hid (∀ x ∈ l, x.wide) := Lib.hid (wide_of hchk)
      have HWS : Hid (∀ x ∈ srt l, x.wide) := Lib.hid fun x hx => wide_of hchk x (srt_mem.1 hx)
      have hsl : (srt l).length ≤ 64 := by rw [(srt_srt l).1.length_eq]; exact hls
      clear hmd2 hnd hst3 hchk
      go_upto_if 20 with fail
      go_cut [9] (fun s wx => ∃ (Ax : Option Addr) (cx : Nat) (lx : List Nd), s = .slice Ax lx.length cx ∧ lx.length ≤ 64 ∧ (∀ b o, Ax = some ⟨b, o, none⟩ → b ≠ g) ∧ Nds wx wx.heap.size Ax lx ∧ Mdw w wx g ∧ Hid (∀ x ∈ lx, x.wide))
      case first =>
        cases b
        · go_wp2_with fail
          refine (HSR.out).mono ?_
          rintro e w4 ⟨A4, c4, rfl, ho4, hb4⟩
          obtain ⟨_, _, er, hnd4⟩ := ho4.read
          injection er with e1 _ e2
          subst e1 e2
          have hA4 : ∀ b o, A4 = some ⟨b, o, none⟩ → b ≠ g := fun b o e => by
            have h1 := (ho4.lt b (by rw [e]; rfl)).1
            have h2 := hmd3.tape.lt
            omega
          have hmd4 := hmd3.on hb4
          clear ho4 hb4 HSR
          go_wp2_with fail
          go_meet
          exact ⟨A4, c4, srt l, rfl, hsl, hA4, hnd4, hmd4, HWS⟩
        · go_wp2_with fail
          go_meet
          exact ⟨A2, c2, l, rfl, hls, hA2, hnd3, hmd3, HWD⟩
      case rest =>
        clear hnd3 hA2 HWD hmd3 HWS hsl hls HSR
        obtain ⟨Ax, cx, lx, rfl, hlx, hAx, hndx, hmdx, HWX⟩ := hcut
        go_upto_if 24 with fail
        go_cut [9] (fun s wx => ∃ (Ay : Option Addr) (cy : Nat) (ly : List Nd), s = .slice Ay ly.length cy ∧ (∀ b o, Ay = some ⟨b, o, none⟩ → b ≠ g) ∧ Nds wx wx.heap.size Ay ly ∧ Mdw w wx g ∧ Hid (∀ x ∈ ly, x.wide))
        case first =>
          by_cases hi0 : i = 2
          · have hi0z : ((i : Int) == 2) = true := by simp [hi0]
            have HOD := Lib.hid (oddRoster_any Ax lx cx g _ hmdx.tape (HLB.out _ hmdx) hne2 hndx (by omega) HWX.out)
            clear hi0
            go_wp2_with fail
            refine (HOD.out).mono ?_
            rintro e w6 ⟨A4, c4, l4, rfl, ho4, hl4, hwd4, hst4⟩
            obtain ⟨_, _, er, hnd4⟩ := ho4.read
            injection er with e1 _ e2
            subst e1 e2
            have hA4 : ∀ b o, A4 = some ⟨b, o, none⟩ → b ≠ g := fun b o e => by
              have h1 := (ho4.lt b (by rw [e]; rfl)).1
              have h2 := hmdx.tape.lt
              omega
            have HM4 := Lib.hid (hmdx.step hg1 hst4)
            have HW4 := Lib.hid hwd4
            clear ho4 hst4 HOD hwd4
            go_wp2_with fail
            go_meet
            exact ⟨A4, c4, l4, rfl, hA4, hnd4, HM4.out, HW4⟩
          · have hi0z : ((i : Int) == 2) = false := by simp; omega
            clear hi0
            go_wp2_with fail
            go_meet
            exact ⟨Ax, cx, lx, rfl, hAx, hndx, hmdx, HWX⟩
        case rest =>
          clear hndx hAx HWX hmdx hlx
          obtain ⟨Ay, cy, ly, rfl, hAy, hndy, hmdy, HWY⟩ := hcut
          go_wp2_with fail
          refine (next_any g 4 _ hmdy.tape (by omega)).mono ?_
          rintro e w4 ⟨r, r0, r1, rfl, hst4⟩
          have hmd4 := hmdy.step hg1 hst4
          have hnd4 := nds_step hndy hAy hst4
          have HPK := Lib.hid (pick_new g w4 hmd4.tape [r, -1, 16, 17] (by simp) (by simp))
          clear hndy hmdy hst4 r0 r1
          go_wp2_with fail
          refine (HPK.out).mono ?_
          rintro e w5 ⟨hx, hxm, rfl, hst5⟩
          have hk5 := (Below.refl w4.heap.size w4).alloc (Nat.le_refl _) (.cells (([r, -1, 16, 17] : List Int).map (Value.int .i64)).toArray 3)
          have hmd5 := (hmd4.on hk5).step hg1 hst5
          have hnd5 := nds_step ((hnd4.below hk5).more hk5.size) hAy hst5
          have HLO := Lib.hid (loads9_any Ay ly cy hx w5 hnd5 (fun x hx => (HWY.out x hx).2))
          have HMD := Lib.hid hmd5
          generalize ly.length = ln at *
          clear hmd4 hnd4 hst5 HPK hk5 hxm hnd5 hmd5
          go_wp2_with fail
          refine (HLO.out).mono ?_
          rintro e w6 ⟨rfl, hb6⟩
          have hmd6 := HMD.out.on hb6
          have HM6 := Lib.hid hmd6
          clear hb6 hmd6 HLO
          go_wp2_with fail
          exact ⟨⟨i + 1, by go_num, hlt, HM6.out⟩, by simp [intOf]; omega⟩
    · have hltz : ¬ (i : Int) < 4 := by omega
      have HMD := Lib.hid hmd.below
      clear hmd
      by_cases hk : k1 ≤ 100
      · have hkz : ¬ (k1 : Int) > 100 := by omega
        have HLO := Lib.hid (HLD1.out _ HMD.out)
        go_wp2_with fail
        refine (HLO.out).mono ?_
        rintro e w6 ⟨rfl, hb6⟩
        have HB6 := Lib.hid (HMD.out.trans (hb6.mono HMD.out.size))
        clear hb6 HLO
        go_wp2_with fail
        refine (HSA.out _).mono ?_
        rintro e w8 ⟨rfl, hb8⟩
        have HB8 := Lib.hid (HB6.out.trans (hb8.mono HB6.out.size))
        clear hb8
        go_wp2_with fail
        go_ret
        exact ⟨rfl, HB8.out⟩
      · have hkz : (k1 : Int) > 100 := by omega
        go_wp2_with fail
        refine (HSA.out _).mono ?_
        rintro e w8 ⟨rfl, hb8⟩
        have HB8 := Lib.hid (HMD.out.trans (hb8.mono HMD.out.size))
        clear hb8
        go_wp2_with fail
        go_ret
        exact ⟨rfl, HB8.out⟩
end Go.Proofs.YtddcfiiahahkbaaDoor
