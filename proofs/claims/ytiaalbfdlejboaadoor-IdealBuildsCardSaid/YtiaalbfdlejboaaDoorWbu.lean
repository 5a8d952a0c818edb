/-
  The walk of IdealBuilds: from whatever numbers, nodes, number and level it answers true and only makes memory. Conditions: the arguments can be read; 'letters' is as its initialiser lays it.
-/
import Derived.Test.YtiaalbfdlejboaaDoorKmN
import Derived.Test.YtiaalbfdlejboaaDoorKmK
import Derived.Test.YtiaalbfdlejboaaDoorKmI
import Derived.Test.YtiaalbfdlejboaaDoorLgJ
import Derived.Deep.DeepCutAuto
import Derived.Deep.CutBlock
namespace Go.Proofs.YtiaalbfdlejboaaDoor
open Go.RowKit

theorem bldR_len (l : List Nd) (h : Int) : (bldR l h).length ≤ 64 := by
  unfold bldR
  split
  · rename_i k
    rw [bld_len]
    by_cases hc : chkV l = 0
    · exact (chkV_zero.1 hc).1
    · unfold bldE at k
      rw [if_neg hc] at k
      cases k
  · simp
theorem bld_read {l : List Nd} {h : Int} {w w' : World} {e : Ending} (k : BldP l h w e w') (hh : bldE l h = 0 → h ≤ 16) : ∃ A c, e = .returned (.tuple #[.slice A (bldR l h).length c, .int .i64 (bldE l h)]) ∧ Lds w' w'.heap.size A (bldR l h) ∧ Below w.heap.size w w' := by
  rcases k with ⟨k1, rfl, k2⟩ | ⟨k1, g, H, _, rfl, k3, k4⟩
  · have e : bldR l h = [] := if_neg k1
    rw [e]
    exact ⟨none, 0, rfl, fun h => absurd rfl h, k2⟩
  · have e : bldR l h = bldV l (h + 1).toNat := if_pos k1
    rw [e, k1]
    exact ⟨_, _, rfl, k3.read (fun x hx => by rw [bld_lev l _ x hx]; have := hh k1; unfold maxLen; omega), k4⟩
theorem rbld_read {l : List Nd} {h : Int} {w w' : World} {e : Ending} (k : RBldP l h w e w') : ∃ A c, e = .returned (.tuple #[.slice A (bldR l h).length c, .int .i64 (bldE l h)]) ∧ Lds w' w'.heap.size A (bldR l h) ∧ Below w.heap.size w w' := by
  rcases k with ⟨k1, rfl, k2⟩ | ⟨k1, v, rfl, k3, k4⟩
  · have e : bldR l h = [] := if_neg k1
    rw [e]
    exact ⟨none, 0, rfl, fun h => absurd rfl h, k2⟩
  · have e : bldR l h = bldV l (h + 1).toNat := if_pos k1
    rw [e, k1]
    obtain ⟨A, c, rfl, _, _, hr⟩ := k3.read
    exact ⟨A, c, rfl, hr, k4⟩
theorem bldE_le {l : List Nd} {h : Int} (k : bldE l h = 0) : h ≤ 16 := by
  unfold bldE at k
  split at k
  · split at k
    · rename_i k2
      have : 0 ≤ h ∧ h ≤ 16 := by simpa [lvB] using k2
      exact this.2
    · cases k
  · cases k
/-- What is known between the steps of the law's loop. -/
structure Mdi (w wx : World) (g : Nat) : Prop where
  below : Below w.heap.size w wx
  tape : Tape wx g
theorem Mdi.step {w a b : World} {g : Nat} (h : Mdi w a g) (hg : w.heap.size ≤ g) (k : TStep a g b) : Mdi w b g := ⟨h.below.grown k.2 h.below.size (fun j e => by have := Option.some.inj e; omega), k.1⟩
theorem Mdi.on {w a b : World} {g : Nat} (h : Mdi w a g) (k : Below a.heap.size a b) : Mdi w b g := ⟨h.below.trans (k.mono h.below.size), h.tape.below k⟩
theorem wide_ros {l : List Nd} (hc : chkV l = 0) : ∀ x ∈ l, x.wide := wide_of hc

set_option maxRecDepth 100000 in
set_option maxHeartbeats 3200000 in
theorem builds_walk (A A1 : Option Addr) (n0 cp c1 : Nat) (l1 : List Nd) (id1 lv1 : Int) (w : World) (hL : Lets w) (hnc : n0 ≤ cp) (hc : cp ≤ maxLen) (hN : Nums w w.heap.size A n0) (hn1 : Nds w w.heap.size A1 l1) (hw1 : ∀ x ∈ l1, x.wide) (hid1 : -9223372036854775808 ≤ id1 ∧ id1 ≤ 9223372036854775807) :
    Calls Tryd.prog 5 #[.slice A n0 cp, .slice A1 l1.length c1, .int .i64 id1, .int .i64 lv1] w (LawP w) := by
  have HSA := Lib.hid sane6_any
  obtain ⟨k1, hk1⟩ : ∃ k1, k1 = l1.length := ⟨_, rfl⟩
  have HK1 := Lib.hid hk1
  have HN1 := Lib.hid hn1
  have HW1 := Lib.hid hw1
  have HI1 := Lib.hid hid1
  have HLL := Lib.hid hL
  rw [← hk1]
  clear hk1 hn1 hw1 hid1
  go_enter Tryd.func5, Tryd.ntmps5
  go_wp2_with fail
  refine (new_any A n0 cp _ hnc hc hN).mono ?_
  rintro e w1 ⟨g, hg1, rfl, hTp, hb1⟩
  have hne2 : 0 ≠ g := by have := hL.lt; omega
  have hmd : Mdi w w1 g := ⟨hb1, hTp⟩
  have HLB := Lib.hid (fun (W : World) (h : Mdi w W g) => HLL.out.below h.below)
  clear hN hnc hc hL hTp hb1
  go_wp2_with fail
  go_loopw [10] (fun vi wr => ∃ i : Nat, vi = .int .i64 (i : Int) ∧ i ≤ 4 ∧ Mdi w wr g) (fun vi _ => 4 - (intOf vi).toNat)
  case atStart => exact ⟨0, rfl, by omega, hmd⟩
  case round =>
    clear hmd
    obtain ⟨i, rfl, hi4, hmd⟩ := hrel
    by_cases hlt : i < 4
    · have hltz : (i : Int) < 4 := by omega
      go_wp2_with fail
      refine (roster_any 8 g wr (by omega) (by omega) hmd.tape (HLB.out _ hmd) hne2).mono ?_
      rintro e w2 ⟨A2, c2, l, rfl, ho, hl8, hwd, hchk, hst⟩
      have hmd2 := hmd.step hg1 hst
      have HWD : Hid (∀ x ∈ l, x.wide) := Lib.hid (wide_of hchk)
      obtain ⟨_, _, er, hnd⟩ := ho.read
      injection er with e1 _ e2
      subst e1 e2
      have hA2 : ∀ b o, A2 = some ⟨b, o, none⟩ → b ≠ g := fun b o e => by
        have h1 := (ho.lt b (by rw [e]; rfl)).1
        have h2 := hmd.tape.lt
        omega
      clear ho hwd hchk hst hmd
      go_wp2_with fail
      refine (idr_any A2 l c2 g w2 hmd2.tape hnd (by omega) hA2 HWD.out).mono ?_
      rintro e w3 ⟨id, hidb, rfl, hst3⟩
      have hmd3 := hmd2.step hg1 hst3
      have hnd3 := nds_step hnd hA2 hst3
      have HIB := Lib.hid hidb
      clear hmd2 hnd hst3 hidb
      go_wp2_with fail
      refine (next_any g 5 w3 hmd3.tape (by omega)).mono ?_
      rintro e w4 ⟨r, r0, r1, rfl, hst4⟩
      have hmd4 := hmd3.step hg1 hst4
      have hnd4 := nds_step hnd3 hA2 hst4
      have HPK := Lib.hid (pick_new g w4 hmd4.tape [r, -1, 16, 17, 1] (by simp) (by simp))
      clear hmd3 hnd3 hst4 r0 r1
      go_wp2_with fail
      refine (HPK.out).mono ?_
      rintro e w5 ⟨hx, hxm, rfl, hst5⟩
      have hk5 := (Below.refl w4.heap.size w4).alloc (Nat.le_refl _) (.cells (([r, -1, 16, 17, 1] : List Int).map (Value.int .i64)).toArray 3)
      have hmd5 := (hmd4.on hk5).step hg1 hst5
      have hnd5 := nds_step ((hnd4.below hk5).more hk5.size) hA2 hst5
      clear hmd4 hnd4 hst5 HPK hk5 hxm
      go_upto_if 39 with fail
      go_cut [11] (fun s wx => ∃ (Ax : Option Addr) (cx : Nat) (lx : List Nd), s = .slice Ax lx.length cx ∧ lx.length ≤ 9 ∧ (∀ b o, Ax = some ⟨b, o, none⟩ → b ≠ g) ∧ Nds wx wx.heap.size Ax lx ∧ Mdi w wx g ∧ Hid (∀ x ∈ lx, x.wide))
      case first =>
        by_cases hi0 : i = 2
        · have hi0z : ((i : Int) == 2) = true := by simp [hi0]
          have HOD := Lib.hid (oddRoster_any A2 l c2 g w5 hmd5.tape (HLB.out _ hmd5) hne2 hnd5 (by omega) HWD.out)
          clear hi0
          go_wp2_with fail
          refine (HOD.out).mono ?_
          rintro e w6 ⟨A4, c4, l4, rfl, ho4, hl4, hwd4, hst4⟩
          obtain ⟨_, _, er, hnd4⟩ := ho4.read
          injection er with e1 _ e2
          subst e1 e2
          have hA4 : ∀ b o, A4 = some ⟨b, o, none⟩ → b ≠ g := fun b o e => by
            have h1 := (ho4.lt b (by rw [e]; rfl)).1
            have h2 := hmd5.tape.lt
            omega
          have HM4 := Lib.hid (hmd5.step hg1 hst4)
          have HW4 := Lib.hid hwd4
          clear ho4 hst4 HOD hwd4
          go_wp2_with fail
          go_meet
          exact ⟨A4, c4, l4, rfl, by omega, hA4, hnd4, HM4.out, HW4⟩
        · have hi0z : ((i : Int) == 2) = false := by simp; omega
          clear hi0
          go_wp2_with fail
          go_meet
          exact ⟨A2, c2, l, rfl, by omega, hA2, hnd5, hmd5, HWD⟩
      case rest =>
        clear hnd5 hA2 HWD hmd5 hl8
        obtain ⟨Ax, cx, lx, rfl, hlx, hAx, hndx, hmdx, HWX⟩ := hcut
        obtain ⟨bb, hbb⟩ : ∃ bb : Bool, bb = decide (i = 3 ∧ k1 ≤ 100) := ⟨_, rfl⟩
        have HBB := Lib.hid hbb
        clear hbb
        obtain ⟨wq, rfl⟩ : ∃ wq, wq = wc := ⟨_, rfl⟩
        go_upto_region 9 with fail
        go_cut [49] (fun s49 wx => s49 = .bool bb ∧ wq = wx)
        case first =>
          clear hndx hmdx HWX hAx hlx
          by_cases hi3 : i = 3
          · have hi3z : ((i : Int) == 3) = true := by simp [hi3]
            by_cases hk : k1 ≤ 100
            · have hkz : (k1 : Int) ≤ 100 := by omega
              obtain rfl : bb = true := by rw [HBB.out]; simp [hi3, hk]
              clear hi3
              go_wp2_with fail
              go_meet
              exact ⟨rfl, rfl⟩
            · have hkz : ¬ (k1 : Int) ≤ 100 := by omega
              obtain rfl : bb = false := by rw [HBB.out]; simp [hk]
              clear hi3
              go_wp2_with fail
              go_meet
              exact ⟨rfl, rfl⟩
          · have hi3z : ((i : Int) == 3) = false := by simp; omega
            obtain rfl : bb = false := by rw [HBB.out]; simp [hi3]
            clear hi3
            go_wp2_with fail
            go_meet
            exact ⟨rfl, rfl⟩
        case rest =>
        obtain ⟨rfl, rfl⟩ := hcut
        go_upto_if 49 with fail
        go_cut [11, 12, 13] (fun s11 s12 s13 wx => ∃ (Ay : Option Addr) (cy : Nat) (ly : List Nd) (idy hy : Int), s11 = .slice Ay ly.length cy ∧ s12 = .int .i64 idy ∧ s13 = .int .i64 hy ∧ ly.length ≤ 100 ∧ (-9223372036854775808 ≤ idy ∧ idy ≤ 9223372036854775807) ∧ Nds wx wx.heap.size Ay ly ∧ Mdi w wx g ∧ Hid (∀ x ∈ ly, x.wide))
        case first =>
          cases bb
          · go_wp2_with fail
            go_meet
            exact ⟨Ax, cx, lx, id, hx, rfl, rfl, rfl, by omega, HIB.out, hndx, hmdx, HWX⟩
          · have HBC : Hid (k1 ≤ 100) := Lib.hid (by have := HBB.out; simp at this; exact this.2)
            have HNR := Lib.hid ((HN1.out.below hmdx.below).more hmdx.below.size)
            clear hndx
            go_wp2_with fail
            go_meet
            exact ⟨A1, c1, l1, id1, lv1, by rw [← HK1.out], rfl, rfl, by rw [← HK1.out]; exact HBC.out, HI1.out, HNR.out, hmdx, HW1⟩
        case rest =>
          clear hndx hmdx HWX hAx hlx
          obtain ⟨Ay, cy, ly, idy, hy, rfl, rfl, rfl, hly, hidy, hnd, hmd, HWY⟩ := hcut
          obtain ⟨wz, rfl⟩ : ∃ wz, wz = wc := ⟨_, rfl⟩
          have hwdy : ∀ x ∈ ly, x.word < 4294967296 := fun x hx => (HWY.out x hx).2
          have BD := Lib.hid (fun (W : World) (k : Below wz.heap.size wz W) => (build_any Ay ly cy hy W ((hnd.below k).more k.size) hwdy).mono fun e w' k => bld_read k (fun k => bldE_le k))
          have RB := Lib.hid (fun (W : World) (k : Below wz.heap.size wz W) => (rbuild_any Ay ly cy hy W ((hnd.below k).more k.size) hwdy).mono fun e w' k => rbld_read k)
          have NK := Lib.hid (fun (W : World) (k : Below wz.heap.size wz W) => neighbours_any Ay ly cy idy hy W ((hnd.below k).more k.size) hwdy hidy)
          have RN := Lib.hid (fun (W : World) (k : Below wz.heap.size wz W) => rneighbours_any Ay ly cy idy hy W ((hnd.below k).more k.size) (by omega) hwdy hidy)
          have LI := Lib.hid (fun (W : World) (k : Below wz.heap.size wz W) => lists_any6 Ay ly cy hy W ((hnd.below k).more k.size) hwdy)
          have RL := Lib.hid (fun (W : World) (k : Below wz.heap.size wz W) => rlists_any Ay ly cy hy W ((hnd.below k).more k.size) hwdy)
          have HK := Lib.hid (fun (W : World) (k : Below wz.heap.size wz W) => height_any Ay ly cy W ((hnd.below k).more k.size) hwdy)
          have RH := Lib.hid (fun (W : World) (k : Below wz.heap.size wz W) => rheight_any Ay ly cy W ((hnd.below k).more k.size) hwdy)
          unfold NbP at NK RN
          unfold LstP at LI RL
          obtain ⟨ny, hny⟩ : ∃ ny, ny = ly.length := ⟨_, rfl⟩
          rw [← hny] at BD RB NK RN LI RL HK RH ⊢
          have HRB := Lib.hid (bldR_len ly hy)
          have HLB2 := Lib.hid (lst_bd (l := ly) hy)
          clear hny hwdy hnd hly hidy
          generalize bldR ly hy = R at *
          generalize bldE ly hy = E at *
          generalize nbL ly idy hy = Y at *
          generalize nbB ly idy hy = B at *
          generalize lstV ly hy = LL at *
          generalize hgtV ly = HG at *
          obtain ⟨yl, yr⟩ := Y
          have HMD := Lib.hid hmd
          clear hmd HWY
          have hEE : (E != E) = false := by simp
          have hBB : (B != B) = false := by simp
          have hHH : ((HG : Int) != (HG : Int)) = false := by simp
          have hNE : ∀ W, (binOp .neq 53 (.agg #[.int .i64 yl, .int .i64 yr]) (.agg #[.int .i64 yl, .int .i64 yr])).run Tryd.prog W = .ok (.bool false) W := fun W => by rw [neq_lk ⟨yl, yr⟩ ⟨yl, yr⟩]; simp
          go_wp2_with fail
          refine (BD.out wz (Below.refl _ _)).mono ?_
          rintro e w6 ⟨Aa, ca, rfl, hra, hb6⟩
          have HRA := Lib.hid hra
          have HK6 := Lib.hid hb6
          clear hra hb6 BD
          go_wp2_with fail
          refine (RB.out w6 HK6.out).mono ?_
          rintro e w7 ⟨Ab, cb, rfl, hrb, hb7⟩
          have HRA7 := Lib.hid ((HRA.out.below hb7).more hb7.size)
          have HRB7 := Lib.hid hrb
          have HK7 := Lib.hid (HK6.out.trans (hb7.mono HK6.out.size))
          clear hrb hb7 RB HRA HK6
          go_wp2_with fail
          refine (NK.out w7 HK7.out).mono ?_
          rintro e w8 ⟨rfl, hb8⟩
          have k8 := hb8.trans (((Below.refl w8.heap.size w8).alloc (Nat.le_refl _) (.cells #[.int .i64 yl, .int .i64 yr] 53)).mono hb8.size)
          have HX8 := Lib.hid (Has.new w8 53 #[.int .i64 yl, .int .i64 yr])
          have HRA8 := Lib.hid ((HRA7.out.below k8).more k8.size)
          have HRB8 := Lib.hid ((HRB7.out.below k8).more k8.size)
          have HK8 := Lib.hid (HK7.out.trans (k8.mono HK7.out.size))
          clear hb8 k8 NK HRA7 HRB7 HK7
          go_wp2_with fail
          refine (RN.out _ HK8.out).mono ?_
          rintro e w9 ⟨rfl, hb9⟩
          have k9 := hb9.trans (((Below.refl w9.heap.size w9).alloc (Nat.le_refl _) (.cells #[.int .i64 yl, .int .i64 yr] 53)).mono hb9.size)
          have HX9 := Lib.hid (HX8.out.below k9)
          have HY9 := Lib.hid (Has.new w9 53 #[.int .i64 yl, .int .i64 yr])
          have hra9 := (HRA8.out.below k9).more k9.size
          have hrb9 := (HRB8.out.below k9).more k9.size
          have HK9 := Lib.hid (HK8.out.trans (k9.mono HK8.out.size))
          have HSM := Lib.hid (rsame6_any Aa Ab R R ca cb _ hra9 hrb9 (by have := HRB.out; omega))
          rw [decide_eq_true (rfl : R = R)] at HSM
          clear hb9 k9 RN HRA8 HRB8 HK8 HX8 hra9 hrb9
          go_wp2_with fail
          refine (HSM.out).mono ?_
          rintro e wa ⟨rfl, hba⟩
          have HXa := HX9.out.below hba
          have HYa := HY9.out.below hba
          have x0 := HXa.cell 0
          have x1 := HXa.cell 1
          have y0 := HYa.cell 0
          have y1 := HYa.cell 1
          have HKa := Lib.hid (HK9.out.trans (hba.mono HK9.out.size))
          clear hba HSM HX9 HY9 HK9 HXa HYa
          go_wp2_with fail
          refine (LI.out _ HKa.out).mono ?_
          rintro e wb ⟨Ac, cc, rfl, hrc, hbb⟩
          have HRC := Lib.hid hrc
          have HKb := Lib.hid (HKa.out.trans (hbb.mono HKa.out.size))
          clear hbb LI HKa hrc x0 x1 y0 y1
          go_wp2_with fail
          refine (RL.out _ HKb.out).mono ?_
          rintro e wd ⟨Ad, cd, rfl, hrd, hbd⟩
          have HKd := Lib.hid (HKb.out.trans (hbd.mono HKb.out.size))
          have HSL := Lib.hid (sameLists_self Ac Ad LL cc cd wd ((HRC.out.below hbd).more hbd.size) hrd HLB2.out.1 HLB2.out.2)
          clear hbd RL HKb hrd HRC
          go_wp2_with fail
          refine (HSL.out).mono ?_
          rintro e we ⟨rfl, hbe⟩
          have HKe := Lib.hid (HKd.out.trans (hbe.mono HKd.out.size))
          clear hbe HSL HKd
          go_wp2_with fail
          refine (HK.out _ HKe.out).mono ?_
          rintro e wf ⟨rfl, hbf⟩
          have HKf := Lib.hid (HKe.out.trans (hbf.mono HKe.out.size))
          clear hbf HK HKe
          go_wp2_with fail
          refine (RH.out _ HKf.out).mono ?_
          rintro e wg ⟨rfl, hbg⟩
          have HMG := Lib.hid (HMD.out.on (HKf.out.trans (hbg.mono HKf.out.size)))
          clear hbg RH HKf
          go_wp2_with fail
          exact ⟨⟨i + 1, by go_num, hlt, HMG.out⟩, by simp [intOf]; omega⟩
    · have hltz : ¬ (i : Int) < 4 := by omega
      have HS5 := Lib.hid (HSA.out wr)
      go_wp2_with fail
      refine (HS5.out).mono ?_
      rintro e w9 ⟨rfl, hb9⟩
      go_wp2_with fail
      go_ret
      exact ⟨rfl, hmd.below.trans (hb9.mono hmd.below.size)⟩
end Go.Proofs.YtiaalbfdlejboaaDoor
