/-
  The walk of SearchRuns: from whatever numbers, nodes, number and level it answers true and only makes memory. Conditions: the arguments can be read; 'letters' and the table of trailing zeros are as their initialisers lay them.
-/
import Derived.Test.YtdeamjimjcojhaaDoorLuN
import Derived.Test.YtdeamjimjcojhaaDoorKuG
import Derived.Test.YtdeamjimjcojhaaDoorKhU
import Derived.Test.YtdeamjimjcojhaaDoorLnC
import Derived.Deep.DeepCutAuto
import Derived.Deep.CutBlock
namespace Go.Proofs.YtdeamjimjcojhaaDoor
open Go.RowKit


/-- What is known between the steps of the law's loop. -/
structure Mdw (w wx : World) (g : Nat) : Prop where
  below : Below w.heap.size w wx
  tape : Tape wx g
theorem Mdw.step {w a b : World} {g : Nat} (h : Mdw w a g) (hg : w.heap.size ≤ g) (k : TStep a g b) : Mdw w b g := ⟨h.below.grown k.2 h.below.size (fun j e => by have := Option.some.inj e; omega), k.1⟩
theorem Mdw.on {w a b : World} {g : Nat} (h : Mdw w a g) (k : Below a.heap.size a b) : Mdw w b g := ⟨h.below.trans (k.mono h.below.size), h.tape.below k⟩

set_option maxRecDepth 100000 in
set_option maxHeartbeats 3200000 in
theorem runs_walk (A A1 : Option Addr) (n0 cp c1 : Nat) (l1 : List Nd) (id1 lv1 : Int) (w : World) (hL : Lets w) (hT : Deb w) (hnc : n0 ≤ cp) (hc : cp ≤ maxLen) (hN : Nums w w.heap.size A n0) (hn1 : Nds w w.heap.size A1 l1) (hw1 : ∀ x ∈ l1, x.wide) (hi1 : I64 id1) :
    Calls Tryd.prog 4 #[.slice A n0 cp, .slice A1 l1.length c1, .int .i64 id1, .int .i64 lv1] w (LawP w) := by
  have HSA := Lib.hid (fun (W : World) (j : Below w.heap.size w W) => sane8_any W (hT.below j))
  have HDB := Lib.hid (fun (W : World) (j : Below w.heap.size w W) => hT.below j)
  obtain ⟨k1, hk1⟩ : ∃ k1, k1 = l1.length := ⟨_, rfl⟩
  have HK1 := Lib.hid hk1
  have HN1 := Lib.hid hn1
  have HW1 := Lib.hid hw1
  have HI1 := Lib.hid hi1
  have HLL := Lib.hid hL
  rw [← hk1]
  clear hk1 hn1 hw1 hi1
  go_enter Tryd.func4, Tryd.ntmps4
  go_wp2_with fail
  refine (new_any A n0 cp _ hnc hc hN).mono ?_
  rintro e w1 ⟨g, hg1, rfl, hTp, hb1⟩
  have hne2 : 0 ≠ g := by have := hL.lt; omega
  have hmd : Mdw w w1 g := ⟨hb1, hTp⟩
  have HLB := Lib.hid (fun (W : World) (h : Mdw w W g) => HLL.out.below h.below)
  clear hN hnc hc hL hT hTp hb1
  go_wp2_with fail
  go_loopw [10] (fun vi wr => ∃ i : Nat, vi = .int .i64 (i : Int) ∧ i ≤ 4 ∧ Mdw w wr g) (fun vi _ => 4 - (intOf vi).toNat)
  case atStart => exact ⟨0, rfl, by omega, hmd⟩
  case round =>
    clear hmd
    obtain ⟨i, rfl, hi4, hmd⟩ := hrel
    by_cases hlt : i < 4
    · have hltz : (i : Int) < 4 := by omega
      go_wp2_with fail
      refine (roster_any 8 g wr (by omega) (by omega) hmd.tape (HLB.out _ hmd) hne2).mono ?_
      rintro e w2 ⟨A2, c2, l, rfl, ho, hl8, hwd, hchk, hst⟩
      have hmd2 := hmd.step hg1 hst
      have HWD : Hid (∀ x ∈ l, x.wide) := Lib.hid (wide_of hchk)
      obtain ⟨_, _, er, hnd⟩ := ho.read
      injection er with e1 e3 e2
      clear e3
      subst e1 e2
      have hA2 : ∀ b o, A2 = some ⟨b, o, none⟩ → b ≠ g := fun b o e => by
        have h1 := (ho.lt b (by rw [e]; rfl)).1
        have h2 := hmd.tape.lt
        omega
      clear ho hwd hchk hst hmd
      go_wp2_with fail
      refine (idr_any A2 l c2 g w2 hmd2.tape hnd (by omega) hA2 HWD.out).mono ?_
      rintro e w3 ⟨id, hidb, rfl, hst3⟩
      have hmd3 := hmd2.step hg1 hst3
      have HND3 := Lib.hid (nds_step hnd hA2 hst3)
      clear hnd hmd2 hst3
      go_wp2_with fail
      refine (next_any g 5 w3 hmd3.tape (by omega)).mono ?_
      rintro e w4 ⟨r, r0, r1, rfl, hst4⟩
      have hmd4 := hmd3.step hg1 hst4
      have HND4 := Lib.hid (nds_step HND3.out hA2 hst4)
      have HPK := Lib.hid (pick_new g w4 hmd4.tape [r, -1, 16, 17] (by simp) (by simp))
      have hbV := (Below.refl w4.heap.size w4).alloc (Nat.le_refl _) (.cells ([r, -1, 16, 17].map (Value.int .i64)).toArray 3)
      have hmd5 := hmd4.on hbV
      have HND5 : Hid (Nds (w4.alloc (.cells ([r, -1, 16, 17].map (Value.int .i64)).toArray 3)) (w4.alloc (.cells ([r, -1, 16, 17].map (Value.int .i64)).toArray 3)).heap.size A2 l) := Lib.hid ((HND4.out.below hbV).more hbV.size)
      clear hbV
      have hr5 : r < 5 := by omega
      simp only [List.map_cons, List.map_nil, List.length_cons, List.length_nil] at HPK hmd5 HND5
      clear hst4 hmd3 hmd4 HND3 HND4 r1
      go_wp2_with fail
      refine (HPK.out).mono ?_
      rintro e w6 ⟨lv, hlv, rfl, hst6⟩
      have hmd6 := hmd5.step hg1 hst6
      have HND6 := Lib.hid (nds_step HND5.out hA2 hst6)
      have hid6 : I64 id := hidb
      clear hst6 hmd5 HND5 HPK hlv r0 hr5 hidb
      obtain ⟨bb, hbb⟩ : ∃ bb : Bool, bb = decide (i = 3 ∧ k1 ≤ 20) := ⟨_, rfl⟩
      have HBB := Lib.hid hbb
      clear hbb
      go_upto_region 7 with fail
      go_cut [36] (fun s36 wx => s36 = .bool bb ∧ w6 = wx)
      case first =>
        clear HND6 hmd6 HWD hA2 hl8
        by_cases hi3 : i = 3
        · have hi3z : ((i : Int) == 3) = true := by simp [hi3]
          by_cases hk : k1 ≤ 20
          · have hkz : (k1 : Int) ≤ 20 := by omega
            obtain rfl : bb = true := by rw [HBB.out]; simp [hi3, hk]
            clear hi3
            go_wp2_with fail
            go_meet
            exact ⟨rfl, rfl⟩
          · have hkz : ¬ (k1 : Int) ≤ 20 := by omega
            obtain rfl : bb = false := by rw [HBB.out]; simp [hk]
            clear hi3
            go_wp2_with fail
            go_meet
            exact ⟨rfl, rfl⟩
        · have hi3z : ((i : Int) == 3) = false := by simp; omega
          obtain rfl : bb = false := by rw [HBB.out]; simp [hi3]
          clear hi3
          go_wp2_with fail
          go_meet
          exact ⟨rfl, rfl⟩
      case rest =>
      obtain ⟨rfl, rfl⟩ := hcut
      go_upto_if 36 with fail
      go_cut [11, 12, 13] (fun s11 s12 s13 wx => ∃ (Ay : Option Addr) (cy : Nat) (ly : List Nd) (idy lvy : Int), s11 = .slice Ay ly.length cy ∧ s12 = .int .i64 idy ∧ s13 = .int .i64 lvy ∧ ly.length ≤ 20 ∧ I64 idy ∧ Nds wx wx.heap.size Ay ly ∧ Mdw w wx g ∧ Hid (∀ x ∈ ly, x.wide))
      case first =>
        cases bb
        · go_wp2_with fail
          go_meet
          exact ⟨A2, c2, l, id, lv, rfl, rfl, rfl, by omega, hid6, HND6.out, hmd6, HWD⟩
        · have HBC : Hid (k1 ≤ 20) := Lib.hid (by have := HBB.out; simp at this; exact this.2)
          have HNR := Lib.hid ((HN1.out.below hmd6.below).more hmd6.below.size)
          clear HND6
          go_wp2_with fail
          go_meet
          exact ⟨A1, c1, l1, id1, lv1, by rw [← HK1.out], rfl, rfl, by rw [← HK1.out]; exact HBC.out, HI1.out, HNR.out, hmd6, HW1⟩
      case rest =>
        clear HND6 hmd6 HWD hA2 hl8 hid6
        obtain ⟨Ay, cy, ly, idy, lvy, rfl, rfl, rfl, hly, hidy, hnd, hmd, HWY⟩ := hcut
        have HWZ : ∀ x ∈ ly, x.word < 4294967296 := fun x hx => (HWY.out x hx).2
        obtain ⟨ny, hny⟩ : ∃ ny, ny = ly.length := ⟨_, rfl⟩
        have RK := Lib.hid (fun (W : World) (k : Below wc.heap.size wc W) => runK_any Ay ly cy idy lvy W ((hnd.below k).more k.size) HWZ (HDB.out _ (hmd.on k).below))
        have RR := Lib.hid (fun (W : World) (k : Below wc.heap.size wc W) => rrun_any Ay ly cy idy lvy W ((hnd.below k).more k.size) (by omega) HWZ hidy)
        have BK := Lib.hid (fun (W : World) (k : Below wc.heap.size wc W) => bndK_any Ay ly cy idy W ((hnd.below k).more k.size) HWZ (HDB.out _ (hmd.on k).below))
        have BR := Lib.hid (fun (W : World) (k : Below wc.heap.size wc W) => rbnd_any Ay ly cy idy W ((hnd.below k).more k.size) (by omega) HWZ hidy)
        rw [← hny] at hly RK RR BK BR ⊢
        generalize runR ly idy lvy = R at *
        generalize bndR ly idy = B at *
        have hRR : ((R : Int) != (R : Int)) = false := by simp
        have hBB : ((B : Int) != (B : Int)) = false := by simp
        have HMD := Lib.hid hmd
        clear hmd hny hnd HWY HWZ hidy
        go_wp2_with fail
        refine (RK.out wc (Below.refl _ _)).mono ?_
        rintro e w6 ⟨rfl, hb6⟩
        have HK6 := Lib.hid hb6
        clear hb6 RK
        go_wp2_with fail
        refine (RR.out _ HK6.out).mono ?_
        rintro e w7 ⟨rfl, hb7⟩
        have HK7 := Lib.hid (HK6.out.trans (hb7.mono HK6.out.size))
        clear hb7 RR HK6
        go_wp2_with fail
        refine (BK.out _ HK7.out).mono ?_
        rintro e w8 ⟨rfl, hb8⟩
        have HK8 := Lib.hid (HK7.out.trans (hb8.mono HK7.out.size))
        clear hb8 BK HK7
        go_wp2_with fail
        refine (BR.out _ HK8.out).mono ?_
        rintro e w9 ⟨rfl, hb9⟩
        have HK9 := Lib.hid (HK8.out.trans (hb9.mono HK8.out.size))
        clear hb9 BR HK8
        go_wp2_with fail
        exact ⟨⟨i + 1, by go_num, by omega, HMD.out.on HK9.out⟩, by simp [intOf]; try omega⟩
    · have hltz : ¬ (i : Int) < 4 := by omega
      have HMD := Lib.hid hmd
      clear hmd
      go_wp2_with fail
      refine (HSA.out _ HMD.out.below).mono ?_
      rintro e wz ⟨rfl, hbz⟩
      have HBZ := Lib.hid (HMD.out.below.trans (hbz.mono HMD.out.below.size))
      clear hbz
      go_wp2_with fail
      go_ret
      exact ⟨rfl, HBZ.out⟩
end Go.Proofs.YtdeamjimjcojhaaDoor
