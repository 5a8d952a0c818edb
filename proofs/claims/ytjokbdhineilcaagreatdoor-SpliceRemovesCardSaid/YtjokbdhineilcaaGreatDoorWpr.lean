/-
  The walk of SpliceRemoves: from whatever numbers it answers true and only makes memory. Conditions: the arguments can be read; 'letters' is as its initialiser lays it.
-/
import Derived.Test.YtjokbdhineilcaaGreatDoorKxR
import Derived.Test.YtjokbdhineilcaaGreatDoorLnC
import Derived.Test.YtjokbdhineilcaaGreatDoorLgJ
import Derived.Test.YtjokbdhineilcaaGreatDoorKhU
import Derived.Test.YtjokbdhineilcaaGreatDoorKqJ
import Derived.Deep.DeepCutAuto
import Derived.Deep.CutBlock
namespace Go.Proofs.YtjokbdhineilcaaGreatDoor
open Go.RowKit Go.Maps

structure Mdp (w wx : World) (g : Nat) : Prop where
  below : Below w.heap.size w wx
  tape : Tape wx g
theorem Mdp.step {w a b : World} {g : Nat} (h : Mdp w a g) (hg : w.heap.size ≤ g) (k : TStep a g b) : Mdp w b g := ⟨h.below.grown k.2 h.below.size (fun j e => by have := Option.some.inj e; omega), k.1⟩
theorem Mdp.on {w a b : World} {g : Nat} (h : Mdp w a g) (k : Below a.heap.size a b) : Mdp w b g := ⟨h.below.trans (k.mono h.below.size), h.tape.below k⟩
/-- What is known of the tape's links. -/
theorem links_ok10 {N L g : Nat} {w w' : World} {e : Ending} (h : LinksP N L g w e w') (hg : g < w.heap.size) : ∃ ks A c, e = .returned (.slice A ks.length c) ∧ ks.length ≤ N ∧ (∀ W : World, TStep w' g W → Lds W W.heap.size A ks) ∧ TStep w g w' := by
  obtain ⟨v, n, rfl, hn, ho, hst⟩ := h
  obtain ⟨ks, hrd, hks, hw⟩ := ho.toRd
  obtain ⟨A, c, hv, _⟩ := hrd.read
  refine ⟨ks, A, c, by rw [hv], by omega, fun W k => ?_, hst⟩
  obtain ⟨A5, c5, e5, h5⟩ := (hrd.keep (KpA.step hg k) (Nat.le_refl _)).read
  rw [hv] at e5
  injection e5 with e6
  rw [e6]
  exact h5
set_option maxRecDepth 100000 in
set_option maxHeartbeats 1600000 in
theorem removes_walk (A : Option Addr) (n0 cp : Nat) (id1 lv1 : Int) (w : World) (hL : Lets w) (hnc : n0 ≤ cp) (hc : cp ≤ maxLen) (hN : Nums w w.heap.size A n0) (hid1 : I64 id1) (hlv1 : I64 lv1) :
    Calls Tryz.prog 4 #[.slice A n0 cp, .int .i64 id1, .int .i64 lv1] w (LawP w) := by
  have HSA := Lib.hid (fun (W : World) => sane10_any W)
  have HLL := Lib.hid hL
  have HI1 := Lib.hid hid1
  have HV1 := Lib.hid hlv1
  go_enter Tryz.func4, Tryz.ntmps4
  go_wp2_with fail
  refine (new_any A n0 cp _ hnc hc hN).mono ?_
  rintro e w1 ⟨g, hg1, rfl, hTp, hb1⟩
  have hne2 : 0 ≠ g := by have := hL.lt; omega
  have hmd : Mdp w w1 g := ⟨hb1, hTp⟩
  have HLB := Lib.hid (fun (W : World) (h : Mdp w W g) => HLL.out.below h.below)
  clear hN hnc hc hL hTp hb1 hid1 hlv1
  go_wp2_with fail
  go_loopw [8] (fun vi wr => ∃ i : Nat, vi = .int .i64 (i : Int) ∧ i ≤ 4 ∧ Mdp w wr g) (fun vi _ => 4 - (intOf vi).toNat)
  case atStart => exact ⟨0, rfl, by omega, hmd⟩
  case round =>
    clear hmd
    obtain ⟨i, rfl, hi4, hmd⟩ := hrel
    by_cases hlt : i < 4
    · have hltz : (i : Int) < 4 := by omega
      go_wp2_with fail
      refine (roster_any 7 g wr (by omega) (by omega) hmd.tape (HLB.out _ hmd) hne2).mono ?_
      rintro e w2 ⟨A3, c3, l, rfl, ho, hl8, hwd, hchk, hst⟩
      have HMD2 := Lib.hid (hmd.step hg1 hst)
      have HWD := Lib.hid (wide_of hchk)
      obtain ⟨_, _, er, hnd⟩ := ho.read
      injection er with e1 e3 e2
      clear e3
      subst e1 e2
      have hA3 : ∀ b o, A3 = some ⟨b, o, none⟩ → b ≠ g := fun b o e => by
        have h1 := (ho.lt b (by rw [e]; rfl)).1
        have h2 := hmd.tape.lt
        omega
      have hln : l.length ≤ 7 := hl8
      have HND := Lib.hid (fun (W : World) (k : TStep w2 g W) => nds_step hnd hA3 k)
      have HTR := Lib.hid (TStep.refl hst.1)
      obtain ⟨LN, hLN⟩ : ∃ n, n = l.length := ⟨_, rfl⟩
      have HLN := Lib.hid hLN
      clear ho hwd hst hmd hnd hl8 hchk
      rw [← hLN] at hln ⊢
      clear hLN
      go_wp2_with fail
      refine (next_any g 4 w2 HTR.out.1 (by omega)).mono ?_
      rintro e w3 ⟨r, r0, r1, rfl, hst3⟩
      obtain ⟨m, rfl⟩ : ∃ m : Nat, r = (m : Int) := ⟨r.toNat, by omega⟩
      have hm : m ≤ 3 := by omega
      have HT3 := Lib.hid hst3
      clear r0 r1 hst3 HTR
      go_wp2_with fail
      refine (next_any g 5 w3 HT3.out.1 (by omega)).mono ?_
      rintro e w4 ⟨r, r0, r1, rfl, hst4⟩
      obtain ⟨m1, rfl⟩ : ∃ m : Nat, r = (m : Int) := ⟨r.toNat, by omega⟩
      have hm1 : m1 ≤ 4 := by omega
      have HT4 := Lib.hid (HT3.out.trans hst4)
      clear r0 r1 hst4 HT3
      go_wp2_with fail
      obtain ⟨mo, hmo⟩ : ∃ mo : Nat, mo = m1 / 4 := ⟨_, rfl⟩
      have hdv : (m1 : Int) / 4 = (mo : Int) := by omega
      rw [hdv]
      have hmo2 : mo ≤ 1 := by omega
      have HLK1 := Lib.hid (tlinks_any A3 l c3 (m : Int) mo g w4 HT4.out.1 (HND.out _ HT4.out) (by have := HLN.out; omega) hA3 HWD.out (by omega) (by omega))
      have hg4 := HT4.out.1.lt
      rw [← HLN.out] at HLK1
      clear hmo hdv hm1
      refine (HLK1.out).mono ?_
      rintro e w5 hlk
      obtain ⟨ks, A5, c5, rfl, hkn, hrd5, hst5⟩ := links_ok10 hlk hg4
      have HRD := Lib.hid hrd5
      have HT5 := Lib.hid (HT4.out.trans hst5)
      have HTR5 := Lib.hid (TStep.refl hst5.1)
      obtain ⟨KN, hKN⟩ : ∃ n, n = ks.length := ⟨_, rfl⟩
      have HKN := Lib.hid hKN
      rw [← hKN] at hkn ⊢
      have HIR := Lib.hid (idr_any A3 l c3 g w5 hst5.1 (HND.out _ HT5.out) (by have := HLN.out; omega) hA3 HWD.out)
      rw [← HLN.out] at HIR
      clear hlk hrd5 hst5 HT4 HLK1 hg4 hKN
      go_wp2_with fail
      refine (HIR.out).mono ?_
      rintro e w6 ⟨id, hidb, rfl, hst6⟩
      have HT6 := Lib.hid hst6
      have HPK := Lib.hid (pick_new g w6 hst6.1 [(m : Int), (m : Int), (m : Int), (m : Int), -1, 17] (by simp) (by simp))
      clear hst6 HIR HTR5
      go_wp2_with fail
      refine (HPK.out).mono ?_
      rintro e w7 ⟨G, hG, rfl, hst7⟩
      have hk7 := (Below.refl w6.heap.size w6).alloc (Nat.le_refl _) (.cells (([(m : Int), (m : Int), (m : Int), (m : Int), -1, 17] : List Int).map (Value.int .i64)).toArray 3)
      have HT7 := Lib.hid ((HT6.out.below hk7).trans hst7)
      have HI7 := Lib.hid hidb
      clear hst7 hk7 HPK hG HT6 hidb
      go_upto_if 48 with fail
      go_cut [12, 13] (fun s t wx => ∃ (idy gy : Int), s = .int .i64 idy ∧ t = .int .i64 gy ∧ I64 idy ∧ TStep w5 g wx)
      case first =>
        by_cases hi3 : i = 3
        · have hi3z : ((i : Int) == 3) = true := by simp [hi3]
          clear hi3
          have hG7 : w7.heap.size ≠ g := by have := HT7.out.1.lt; omega
          have HNX := Lib.hid (fun (W : World) (k : TStep w5 g W) => next_any g 2 W k.1 (by omega))
          have HK7 := Lib.hid (HT7.out.below ((Below.refl w7.heap.size w7).drew))
          have HK8 := Lib.hid (HT7.out.below ((Below.refl w7.heap.size w7).drew.alloc (Nat.le_refl _) (.cells #[.int .i64 (m : Int), .int .i64 lv1] 3)))
          have HC8 := Lib.hid (fun (W : World) (q : Nat) (hq : q < 2) (k : TStep (w7.drew.alloc (.cells #[.int .i64 (m : Int), .int .i64 lv1] 3)) g W) => (by
            have h := has_tstep (Has.new w7.drew 3 #[.int .i64 (m : Int), .int .i64 lv1]) hG7 k
            have h2 := h.cell q
            rcases (by omega : q = 0 ∨ q = 1) with rfl | rfl
            · exact ⟨(m : Int), h2⟩
            · exact ⟨lv1, h2⟩ : ∃ v : Int, W.cell? ⟨w7.heap.size, q, none⟩ = some (.int .i64 v)))
          have HC9 := Lib.hid (fun (W : World) (q : Nat) (hq : q < 2) => (by
            have h := Has.new W 3 #[.int .i64 (m : Int), .int .i64 lv1]
            have h2 := h.cell q
            rcases (by omega : q = 0 ∨ q = 1) with rfl | rfl
            · exact ⟨(m : Int), h2⟩
            · exact ⟨lv1, h2⟩ : ∃ v : Int, (W.alloc (.cells #[.int .i64 (m : Int), .int .i64 lv1] 3)).cell? ⟨W.heap.size, q, none⟩ = some (.int .i64 v)))
          clear hG7
          go_wp2_with fail
          go_region_law (first | (go_simp; go_at_call 7; refine (HNX.out _ HK7.out).mono ?_; rintro e w8 ⟨p, p0, p1, rfl, hst8⟩; obtain ⟨q, rfl⟩ := Int.eq_ofNat_of_zero_le p0; have hq : q < 2 := (by omega); have hq1 : (0 : Int) ≤ (q : Int) := p0; have hq2 : (q : Int) < 2 := (by omega); have HT8 := Lib.hid (HK7.out.trans hst8); obtain ⟨v8, hz8⟩ := HC9.out w8 q hq) | (go_simp; go_at_call 7; refine (HNX.out _ HK8.out).mono ?_; rintro e w8 ⟨p, p0, p1, rfl, hst8⟩; obtain ⟨q, rfl⟩ := Int.eq_ofNat_of_zero_le p0; have hq : q < 2 := (by omega); have hq1 : (0 : Int) ≤ (q : Int) := p0; have hq2 : (q : Int) < 2 := (by omega); have HT8 := Lib.hid (HK8.out.trans hst8); obtain ⟨v8, hz8⟩ := HC8.out w8 q hq hst8))
          · go_wp2_with fail
            go_meet
            exact ⟨id1, v8, rfl, rfl, HI1.out, HT8.out⟩
          · go_wp2_with fail
            go_meet
            exact ⟨id1, v8, rfl, rfl, HI1.out, HT8.out.below ((Below.refl w8.heap.size w8).alloc (Nat.le_refl _) (.cells #[.int .i64 (m : Int), .int .i64 lv1] 3))⟩
        · have hi3z : ((i : Int) == 3) = false := by simp; omega
          clear hi3
          go_wp2_with fail
          go_meet
          exact ⟨id, G, rfl, rfl, HI7.out, HT7.out⟩
      case rest =>
      obtain ⟨idy, gy, rfl, rfl, hidy, htc⟩ := hcut
      have HTC := Lib.hid (HT5.out.trans htc)
      have HMC := Lib.hid (HMD2.out.step hg1 HTC.out)
      have HWT : Hid (∀ y ∈ l, y.word < 4294967296) := Lib.hid fun x hx => (HWD.out x hx).2
      have hndc := HND.out _ HTC.out
      have hldc := HRD.out _ htc
      have HRM := Lib.hid ((remove_any A3 A5 l ks c3 c5 idy gy wc hndc hldc (by have := HKN.out; have := HLN.out; unfold maxLen; omega) HWT.out).mono (fun e w' k => remP_ans k))
      have HRR := Lib.hid (fun (W : World) (j : Below wc.heap.size wc W) => (rremove_any A3 A5 l ks c3 c5 idy gy W ((hndc.below j).more j.size) ((hldc.below j).more j.size) (by have := HKN.out; have := HLN.out; omega) HWT.out (by have := HLN.out; omega) hidy).mono (fun e w' k => remP_ans k))
      have HSM := Lib.hid (fun (W : World) (A5 A6 : Option Addr) (c5 c6 : Nat) (h5 : Lds W W.heap.size A5 (remR l ks idy gy)) (h6 : Lds W W.heap.size A6 (remR l ks idy gy)) => (by
        have := rsame6_any A5 A6 _ _ c5 c6 W h5 h6 (by have := remR_len l ks idy gy; have := HLN.out; omega)
        rw [decide_eq_true rfl] at this
        exact this))
      rw [← HLN.out, ← HKN.out] at HRM HRR
      have hnn : (((remC l ks idy gy : Nat) : Int) != (remC l ks idy gy : Nat)) = false := by simp
      generalize remR l ks idy gy = R at *
      generalize remC l ks idy gy = C at *
      generalize remE l ks idy gy = E at *
      have hne : (E != E) = false := by simp
      clear hndc hldc
      go_wp2_with fail
      refine (HRM.out).mono ?_
      rintro e wd ⟨v1, rfl, hD1, hbd⟩
      have HD1 := Lib.hid hD1
      have HBD := Lib.hid hbd
      clear hD1 hbd HRM
      go_wp2_with fail
      refine (HRR.out _ HBD.out).mono ?_
      rintro e we ⟨v2, rfl, hD2, hbe⟩
      have HBE := Lib.hid (HBD.out.trans (hbe.mono HBD.out.size))
      obtain ⟨A6, c6, rfl, -, -, hr6⟩ := (HD1.out.below hbe).read
      obtain ⟨A7, c7, rfl, -, -, hr7⟩ := hD2.read
      have HSA2 := Lib.hid (HSM.out we A6 A7 c6 c7 hr6 hr7)
      generalize R.length = RN at *
      clear hD2 hbe hr6 hr7 HRR HD1
      go_wp2_with fail
      refine (HSA2.out).mono ?_
      rintro e wn ⟨rfl, hbn⟩
      have HBN := Lib.hid (HBE.out.trans (hbn.mono HBE.out.size))
      clear hbn HSA2
      go_wp2_with fail
      exact ⟨⟨i + 1, by go_num, by omega, HMC.out.on HBN.out⟩, by simp [intOf]; omega⟩
    · have hltz : ¬ (i : Int) < 4 := by omega
      go_wp2_with fail
      refine (HSA.out _).mono ?_
      rintro e wz ⟨rfl, hbz⟩
      have HBZ := Lib.hid (hmd.below.trans (hbz.mono hmd.below.size))
      clear hbz
      go_wp2_with fail
      go_ret
      exact ⟨rfl, HBZ.out⟩
end Go.Proofs.YtjokbdhineilcaaGreatDoor
