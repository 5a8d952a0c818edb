/-
  The walk of SearchRoutes: from whatever numbers, nodes, links, number and key it answers true and only makes memory. Conditions: the arguments can be read; 'letters' and the table of trailing zeros are as their initialisers lay them.
-/
import Derived.Test.YtdeamjimjcojhaaDoorLuN
import Derived.Test.YtdeamjimjcojhaaDoorLuK
import Derived.Test.YtdeamjimjcojhaaDoorKhU
import Derived.Test.YtdeamjimjcojhaaDoorLnC
import Derived.Test.YtdeamjimjcojhaaDoorKqJ
import Derived.Test.YtdeamjimjcojhaaDoorKnF
import Derived.Deep.DeepCutAuto
import Derived.Deep.CutBlock
namespace Go.Proofs.YtdeamjimjcojhaaDoor
open Go.RowKit


/-- What is known between the steps of the law's loop. -/
structure Mdw (w wx : World) (g : Nat) : Prop where
  below : Below w.heap.size w wx
  tape : Tape wx g
theorem Mdw.step {w a b : World} {g : Nat} (h : Mdw w a g) (hg : w.heap.size ≤ g) (k : TStep a g b) : Mdw w b g := ⟨h.below.grown k.2 h.below.size (fun j e => by have := Option.some.inj e; omega), k.1⟩
theorem Mdw.on {w a b : World} {g : Nat} (h : Mdw w a g) (k : Below a.heap.size a b) : Mdw w b g := ⟨h.below.trans (k.mono h.below.size), h.tape.below k⟩

theorem rteR_len (l : List Nd) (k : List Ld) (id : Int) (q : ByteArray) : (rteR l k id q).length ≤ l.length + 1 := by
  unfold rteR
  split
  · unfold rteW
    have h1 := rt_len (l := l) (k := k) (q := q) (r := !kl q (fndV l id).key) (fndV l id) 17
    have h2 := ds_le (!kl q (fndV l id).key) l (fndV l id)
    have h3 : ∀ z, (lstO l k q (!kl q (fndV l id).key) z).length ≤ 1 := fun z => by unfold lstO; split <;> simp
    have h4 := h3 (rtW l k q (!kl q (fndV l id).key) (fndV l id) 17).2
    rw [List.length_append]
    omega
  · simp
theorem neq_self (i : Int) : (i != i) = false := by simp
set_option maxRecDepth 100000 in
set_option maxHeartbeats 3200000 in
theorem routes_walk (A A1 A2 : Option Addr) (n0 cp c1 c2 : Nat) (l1 : List Nd) (l2 : List Ld) (id1 : Int) (q1 : ByteArray) (w : World) (hL : Lets w) (hT : Deb w) (hnc : n0 ≤ cp) (hc : cp ≤ maxLen) (hN : Nums w w.heap.size A n0) (h1 : Nds w w.heap.size A1 l1) (hw1 : ∀ x ∈ l1, x.wide) (h2 : Lds w w.heap.size A2 l2) (hw2 : ∀ x ∈ l2, LdW x) (hi1 : I64 id1) :
    Calls Tryd.prog 3 #[.slice A n0 cp, .slice A1 l1.length c1, .slice A2 l2.length c2, .int .i64 id1, .string q1] w (LawP w) := by
  obtain ⟨LN, hLN⟩ : ∃ n, n = l1.length := ⟨_, rfl⟩
  obtain ⟨KN, hKN⟩ : ∃ n, n = l2.length := ⟨_, rfl⟩
  have HLN := Lib.hid hLN
  have HKN := Lib.hid hKN
  rw [← hLN, ← hKN]
  have HSA := Lib.hid (fun (W : World) (j : Below w.heap.size w W) => sane8_any W (hT.below j))
  have HLL := Lib.hid hL
  have HN1 := Lib.hid h1
  have HW1 := Lib.hid hw1
  have HN2 := Lib.hid h2
  have HW2 : Hid (∀ x ∈ l2, I64 x.id ∧ ∀ y ∈ x.levels, LkW y) := Lib.hid fun x hx => ⟨(hw2 x hx).1, (hw2 x hx).2⟩
  have HI1 := Lib.hid hi1
  go_enter Tryd.func3, Tryd.ntmps3
  go_wp2_with fail
  refine (new_any A n0 cp _ hnc hc hN).mono ?_
  rintro e w1 ⟨g, hg1, rfl, hTp, hb1⟩
  have hne2 : 0 ≠ g := by have := hL.lt; omega
  have hmd : Mdw w w1 g := ⟨hb1, hTp⟩
  have HLB := Lib.hid (fun (W : World) (h : Mdw w W g) => HLL.out.below h.below)
  clear hN hnc hc hL hT hTp hb1 h1 hw1 h2 hw2 hi1 hLN hKN
  go_wp2_with fail
  go_loopw [12] (fun vi wr => ∃ i : Nat, vi = .int .i64 (i : Int) ∧ i ≤ 4 ∧ Mdw w wr g) (fun vi _ => 4 - (intOf vi).toNat)
  case atStart => exact ⟨0, rfl, by omega, hmd⟩
  case round =>
    clear hmd
    obtain ⟨i, rfl, hi4, hmd⟩ := hrel
    by_cases hlt : i < 4
    · have hltz : (i : Int) < 4 := by omega
      go_wp2_with fail
      refine (roster_any 7 g wr (by omega) (by omega) hmd.tape (HLB.out _ hmd) hne2).mono ?_
      rintro e w2 ⟨A3, c3, l, rfl, ho, hl8, hwd, hchk, hst⟩
      have hmd2 := hmd.step hg1 hst
      have hwide : ∀ x ∈ l, x.wide := wide_of hchk
      obtain ⟨_, _, er, hnd⟩ := ho.read
      injection er with e1 e3 e2
      clear e3
      subst e1 e2
      have hA3 : ∀ b o, A3 = some ⟨b, o, none⟩ → b ≠ g := fun b o e => by
        have h1 := (ho.lt b (by rw [e]; rfl)).1
        have h2 := hmd.tape.lt
        omega
      have HG2 := Lib.hid hmd2.tape.lt
      clear ho hwd hst hmd
      go_wp2_with fail
      refine (next_any g 4 w2 hmd2.tape (by omega)).mono ?_
      rintro e w3 ⟨r, r0, r1, rfl, hst3⟩
      obtain ⟨m, rfl⟩ : ∃ m : Nat, r = (m : Int) := ⟨r.toNat, by omega⟩
      have hm : m ≤ 3 := by omega
      have hnd3 := nds_step hnd hA3 hst3
      have hln : l.length ≤ 64 := (chkV_zero.1 hchk).1
      have HLK := Lib.hid (tlinks_any A3 l c3 (m : Int) 4 g w3 hst3.1 hnd3 (by omega) hA3 hwide (by omega) (by omega))
      have HND3 := Lib.hid hnd3
      have hmd3 := hmd2.step hg1 hst3
      have HG3 := Lib.hid (show g < w3.heap.size from by have := hst3.2.size; have := HG2.out; omega)
      clear r0 r1 hst3 hnd3 hnd hmd2
      go_wp2_with fail
      refine (HLK.out).mono ?_
      rintro e w4 ⟨v4, n4, rfl, hn4, ho4, hst4⟩
      obtain ⟨ks, hrd4, hks, hw4⟩ := ho4.toRd
      obtain ⟨A4, c4, hv4, _⟩ := hrd4.read
      have hmd4 := hmd3.step hg1 hst4
      have HX4 := Lib.hid (nds_step HND3.out hA3 hst4)
      have HKL : Hid (ks.length ≤ 1000000) := Lib.hid (by rw [hks]; omega)
      have HW4 : Hid (∀ x ∈ ks, I64 x.id ∧ ∀ y ∈ x.levels, LkW y) := Lib.hid fun x hx => ⟨(hw4 x hx).1, (hw4 x hx).2.2⟩
      have HR4 : Hid (∀ W, TStep w4 g W → Lds W W.heap.size A4 ks) := Lib.hid fun W k => by
        obtain ⟨A5, c5, e5, h5⟩ := (hrd4.keep (KpA.step HG3.out k) (Nat.le_refl _)).read
        rw [hv4] at e5
        injection e5 with e6
        rw [e6]
        exact h5
      have HG4 := Lib.hid hmd4.tape.lt
      have HOD := Lib.hid (fun (W : World) (k : TStep w4 g W) => oddRoster_any A3 l c3 g W k.1 (HLB.out W (hmd4.step hg1 k)) hne2 (nds_step HX4.out hA3 k) (by omega) hwide)
      have HWD := Lib.hid hwide
      have HMD4 := Lib.hid hmd4
      subst hv4
      clear hrd4 hks hw4 hst4 ho4 hchk hwide HND3 HLK hmd3 hmd4 HG3
      go_upto_region 7 with fail
      go_cut [39] (fun s39 wx => ∃ b : Bool, s39 = .bool b ∧ TStep w4 g wx)
      case first =>
        have hTR := TStep.refl HMD4.out.tape
        by_cases hi2 : i = 2
        · have hi2z : ((i : Int) == 2) = true := by simp [hi2]
          clear hi2
          go_wp2_with fail
          refine (bool_any g 3 w4 hTR.1 (by omega) (by omega)).mono ?_
          rintro e w5 ⟨b, rfl, hst5⟩
          go_wp2_with fail
          go_meet
          exact ⟨b, rfl, hst5⟩
        · have hi2z : ((i : Int) == 2) = false := by simp; omega
          clear hi2
          go_wp2_with fail
          go_meet
          exact ⟨false, rfl, hTR⟩
      case rest =>
      obtain ⟨b, rfl, hts⟩ := hcut
      go_upto_if 39 with fail
      go_cut [13] (fun s wx => ∃ (Ax : Option Addr) (cx : Nat) (lx : List Nd), s = .slice Ax lx.length cx ∧ lx.length ≤ 70 ∧ (∀ b o, Ax = some ⟨b, o, none⟩ → b ≠ g) ∧ Nds wx wx.heap.size Ax lx ∧ TStep w4 g wx ∧ Hid (∀ x ∈ lx, x.wide))
      case first =>
        cases b
        · have HNX := Lib.hid (nds_step HX4.out hA3 hts)
          go_wp2_with fail
          go_meet
          exact ⟨A3, c3, l, rfl, by omega, hA3, HNX.out, hts, HWD⟩
        · go_wp2_with fail
          refine (HOD.out _ hts).mono ?_
          rintro e w6 ⟨B6, c6, xs, rfl, ho6, hl6, hw6, hst6⟩
          obtain ⟨_, _, er, hnd6⟩ := ho6.read
          injection er with e1 e3' e2
          clear e3'
          subst e1 e2
          have hB6 : ∀ b o, B6 = some ⟨b, o, none⟩ → b ≠ g := fun b o e => by
            have h5 := (ho6.lt b (by rw [e]; rfl)).1
            have h6 := hts.2.size
            have h7 := HG4.out
            omega
          have HT6 := Lib.hid (hts.trans hst6)
          have HN6 := Lib.hid hnd6
          have HW6 := Lib.hid hw6
          clear ho6 hst6 hnd6 hw6
          go_wp2_with fail
          go_meet
          exact ⟨B6, c6, xs, rfl, by omega, hB6, HN6.out, HT6.out, HW6⟩
      case rest =>
      clear HOD HWD HX4 hA3 hl8 hts hln
      obtain ⟨Ax, cx, lx, rfl, hlx, hAx, hndx, htx, HWX⟩ := hcut
      have hmdx := HMD4.out.step hg1 htx
      go_wp2_with fail
      refine (idr_any Ax lx cx g wc hmdx.tape hndx (by omega) hAx HWX.out).mono ?_
      rintro e w5 ⟨id, hidb, rfl, hst5⟩
      have hmd5 := hmdx.step hg1 hst5
      have hnd5 := nds_step hndx hAx hst5
      have HT5 := Lib.hid (htx.trans hst5)
      have HOK := Lib.hid (oddKey_any g w5 hmd5.tape (HLB.out _ hmd5) hne2)
      have hid6 : I64 id := hidb
      clear hmdx hndx hst5 htx hidb
      go_wp2_with fail
      refine (HOK.out).mono ?_
      rintro e w6 ⟨key, hkey, rfl, hst6⟩
      have hmd6 := hmd5.step hg1 hst6
      have HND6 := Lib.hid (nds_step hnd5 hAx hst6)
      have HLD6 := Lib.hid (HR4.out w6 (HT5.out.trans hst6))
      clear hmd5 hnd5 hst6 HOK hkey HT5 HR4
      obtain ⟨bb, hbb⟩ : ∃ bb : Bool, bb = decide (i = 3 ∧ LN ≤ 20 ∧ KN ≤ 100) := ⟨_, rfl⟩
      have HBB := Lib.hid hbb
      clear hbb
      go_upto_region 10 with fail
      go_cut [59] (fun s59 wx => s59 = .bool bb ∧ w6 = wx)
      case first =>
        clear HND6 hmd6 HWX hAx hlx HLD6
        by_cases hi3 : i = 3
        · have hi3z : ((i : Int) == 3) = true := by simp [hi3]
          by_cases hk : LN ≤ 20
          · have hkz : (LN : Int) ≤ 20 := by omega
            by_cases hk2 : KN ≤ 100
            · have hkz2 : (KN : Int) ≤ 100 := by omega
              obtain rfl : bb = true := by rw [HBB.out]; simp [hi3, hk, hk2]
              clear hi3
              go_wp2_with fail
              go_meet
              exact ⟨rfl, rfl⟩
            · have hkz2 : ¬ (KN : Int) ≤ 100 := by omega
              obtain rfl : bb = false := by rw [HBB.out]; simp [hk2]
              clear hi3
              go_wp2_with fail
              go_meet
              exact ⟨rfl, rfl⟩
          · have hkz : ¬ (LN : Int) ≤ 20 := by omega
            obtain rfl : bb = false := by rw [HBB.out]; simp [hk]
            clear hi3
            go_wp2_with fail
            go_meet
            exact ⟨rfl, rfl⟩
        · have hi3z : ((i : Int) == 3) = false := by simp; omega
          obtain rfl : bb = false := by rw [HBB.out]; simp [hi3]
          clear hi3
          go_wp2_with fail
          go_meet
          exact ⟨rfl, rfl⟩
      case rest =>
      obtain ⟨rfl, rfl⟩ := hcut
      go_upto_if 59 with fail
      go_cut [13, 14, 15, 16] (fun s13 s14 s15 s16 wx => ∃ (Ay : Option Addr) (cy : Nat) (ly : List Nd) (B5 : Option Addr) (d5 : Nat) (k5 : List Ld) (idy : Int) (qy : ByteArray), s13 = .slice Ay ly.length cy ∧ s14 = .slice B5 k5.length d5 ∧ s15 = .int .i64 idy ∧ s16 = .string qy ∧ ly.length ≤ 70 ∧ k5.length ≤ 1000000 ∧ I64 idy ∧ Nds wx wx.heap.size Ay ly ∧ Hid (Lds wx wx.heap.size B5 k5) ∧ Mdw w wx g ∧ Hid (∀ x ∈ ly, x.wide) ∧ Hid (∀ x ∈ k5, I64 x.id ∧ ∀ y ∈ x.levels, LkW y))
      case first =>
        cases bb
        · go_wp2_with fail
          go_meet
          exact ⟨Ax, cx, lx, A4, c4, ks, id, key, rfl, rfl, rfl, rfl, hlx, HKL.out, hid6, HND6.out, HLD6, hmd6, HWX, HW4⟩
        · have HBC : Hid (LN ≤ 20 ∧ KN ≤ 100) := Lib.hid (by have := HBB.out; simp at this; exact this.2)
          have HNR := Lib.hid ((HN1.out.below hmd6.below).more hmd6.below.size)
          have HLR := Lib.hid ((HN2.out.below hmd6.below).more hmd6.below.size)
          clear HND6 HLD6
          go_wp2_with fail
          go_meet
          exact ⟨A1, c1, l1, A2, c2, l2, id1, q1, by rw [← HLN.out], by rw [← HKN.out], rfl, rfl, by have := HBC.out.1; have := HLN.out; omega, by have := HBC.out.2; have := HKN.out; omega, HI1.out, HNR.out, HLR, hmd6, HW1, HW2⟩
      case rest =>
      clear HND6 HLD6 hmd6 HWX HW4 hAx hlx HKL HMD4 HG4 hid6
      obtain ⟨Ay, cy, ly, B5, d5, k5, idy, qy, rfl, rfl, rfl, rfl, hly, hk5, hidy, hnd, HLD, hmd, HWY, HW5⟩ := hcut
      have HWZ : ∀ x ∈ ly, x.word < 4294967296 := fun x hx => (HWY.out x hx).2
      have hkm : k5.length ≤ maxLen := by unfold maxLen; omega
      have RK := Lib.hid (fun (W : World) (k : Below wc.heap.size wc W) => routeK_any Ay B5 ly k5 cy d5 idy qy W ((hnd.below k).more k.size) ((HLD.out.below k).more k.size) (fun x hx => (HW5.out x hx).1) hkm HWZ hidy (fun i t => atV_wide8 (fun x hx y hy => (HW5.out x hx).2 y hy) i (t : Int)))
      have RR := Lib.hid (fun (W : World) (k : Below wc.heap.size wc W) => rroute_any Ay B5 ly k5 cy d5 idy qy W ((hnd.below k).more k.size) ((HLD.out.below k).more k.size) hkm HWZ)
      have HRL : Hid ((rteR ly k5 idy qy).length ≤ 1000000) := Lib.hid (by have := rteR_len ly k5 idy qy; omega)
      obtain ⟨ny, hny⟩ : ∃ ny, ny = ly.length := ⟨_, rfl⟩
      obtain ⟨ky, hky⟩ : ∃ ny, ny = k5.length := ⟨_, rfl⟩
      rw [← hny, ← hky] at RK RR ⊢
      generalize rteR ly k5 idy qy = R at *
      generalize rteE ly idy qy = E at *
      have hEE := neq_self E
      have HMD := Lib.hid hmd
      clear hmd hny hky hnd HWY HWZ hidy HLD HW5 hkm hk5 hly
      go_wp2_with fail
      refine (RK.out wc (Below.refl _ _)).mono ?_
      rintro e w6 ⟨v6, rfl, ho6, hb6⟩
      obtain ⟨A6, c6, hv6, hr6⟩ := ho6.read
      subst hv6
      have HK6 := Lib.hid hb6
      have HR6 := Lib.hid hr6
      clear hb6 RK ho6 hr6
      go_wp2_with fail
      refine (RR.out _ HK6.out).mono ?_
      rintro e w7 ⟨v7, rfl, ho7, hb7⟩
      obtain ⟨A7, c7, hv7, hr7⟩ := ho7.read
      subst hv7
      have HK7 := Lib.hid (HK6.out.trans (hb7.mono HK6.out.size))
      have HSM := Lib.hid (sameH_self A6 A7 R c6 c7 w7 ((HR6.out.below hb7).more hb7.size) hr7 HRL.out)
      have HR7 := Lib.hid hr7
      have HEN := Lib.hid (fun (W : World) (k : Below w7.heap.size w7 W) => endH_any A7 R c7 idy W ((HR7.out.below k).more k.size) (by have := HRL.out; unfold maxLen; omega))
      have HRN := Lib.hid (fun (W : World) (k : Below w7.heap.size w7 W) => rendH_any A7 R c7 idy W ((HR7.out.below k).more k.size) (by have := HRL.out; unfold maxLen; omega))
      generalize endV idy R = Z at *
      have hZZ := neq_self Z
      obtain ⟨rn, hrn⟩ : ∃ rn, rn = R.length := ⟨_, rfl⟩
      rw [← hrn] at HSM HEN HRN ⊢
      clear hb7 RR HK6 HR6 ho7 hr7 hrn
      go_wp2_with fail
      refine (HSM.out).mono ?_
      rintro e w8 ⟨rfl, hb8⟩
      have HK8 := Lib.hid (HK7.out.trans (hb8.mono HK7.out.size))
      have HB8 := Lib.hid hb8
      clear hb8 HSM HK7
      go_wp2_with fail
      refine (HEN.out _ HB8.out).mono ?_
      rintro e w9 ⟨rfl, rfl⟩
      go_wp2_with fail
      refine (HRN.out _ HB8.out).mono ?_
      rintro e w9 ⟨rfl, rfl⟩
      go_wp2_with fail
      exact ⟨⟨i + 1, by go_num, by omega, HMD.out.on HK8.out⟩, by simp [intOf]; try omega⟩
    · have hltz : ¬ (i : Int) < 4 := by omega
      have HMD := Lib.hid hmd
      clear hmd
      go_wp2_with fail
      refine (HSA.out _ HMD.out.below).mono ?_
      rintro e wz ⟨rfl, hbz⟩
      have HBZ := Lib.hid (HMD.out.below.trans (hbz.mono HMD.out.below.size))
      clear hbz
      go_wp2_with fail
      go_ret
      exact ⟨rfl, HBZ.out⟩
end Go.Proofs.YtdeamjimjcojhaaDoor
