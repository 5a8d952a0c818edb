/-
  The walk of RosterChecks: from whatever numbers, nodes and numbers of nodes it answers true and only makes memory. Conditions: the arguments can be read; 'letters' is as its initialiser lays it.
-/
import Derived.Test.YtiafimbehcemcaaDoorKhU
import Derived.Test.YtiafimbehcemcaaDoorKhT
import Derived.Test.YtiafimbehcemcaaDoorKhS
import Derived.Test.YtiafimbehcemcaaDoorKgL
import Derived.Deep.DeepCutAuto
import Derived.Deep.CutBlock
namespace Go.Proofs.YtiafimbehcemcaaDoor
open Go.RowKit

theorem neq_nself (i : Int) (k : ByteArray) (n : Nat) : ∀ w : World, (binOp .neq 60 (.agg #[.int .i64 i, .string k, .int .u32 (n : Int)]) (.agg #[.int .i64 i, .string k, .int .u32 (n : Int)])).run Tryd.prog w = .ok (.bool false) w := fun w => by
  rw [neq_nd ⟨i, k, n⟩ ⟨i, k, n⟩]
  simp [Nd.same]
theorem ins_of_nums {w : World} {B n : Nat} {A : Option Addr} (h : Nums w B A n) : ∃ l : List Int, l.length = n ∧ Ins w B A l := by
  by_cases h0 : 0 < n
  · obtain ⟨b, o, e, hb, hc⟩ := h h0
    have hc' : ∀ i : Nat, ∃ v : Int, i < n → (-9223372036854775808 ≤ v ∧ v ≤ 9223372036854775807) ∧ w.cell? ⟨b, o + i, none⟩ = some (.int .i64 v) := fun i => by
      by_cases hi : i < n
      · obtain ⟨v, v1, v2, v3⟩ := hc i hi
        exact ⟨v, fun _ => ⟨⟨v1, v2⟩, v3⟩⟩
      · exact ⟨0, fun h => absurd h hi⟩
    obtain ⟨f, hf⟩ := Classical.axiomOfChoice hc'
    refine ⟨(List.range n).map f, by simp, fun _ => ⟨b, o, e, hb, fun i hi => ?_⟩⟩
    have hi' : i < n := by simpa using hi
    have g : ((List.range n).map f)[i] = f i := by simp
    rw [g]
    exact hf i hi'
  · have : n = 0 := by omega
    subst this
    exact ⟨[], rfl, fun h => absurd rfl h⟩
theorem Ins.below {w w' : World} {B : Nat} {A : Option Addr} {l : List Int} (h : Ins w B A l) (hB : B ≤ w.heap.size) (k : Below w.heap.size w w') : Ins w' w'.heap.size A l := (h.keep fun i hi => k.block i (by omega)).more (Nat.le_trans hB k.size)
theorem ins_step {w w' : World} {g : Nat} {A : Option Addr} {l : List Int} (h : Ins w w.heap.size A l) (hA : ∀ b o, A = some ⟨b, o, none⟩ → b ≠ g) (k : TStep w g w') : Ins w' w'.heap.size A l := fun hn => by
  obtain ⟨b, o, e, hb, hc⟩ := h hn
  have hk := k.2.block b hb (fun e2 => hA b o e (Option.some.inj e2))
  exact ⟨b, o, e, Nat.lt_of_lt_of_le hb k.2.size, fun i hi => ⟨(hc i hi).1, (World.cell?_of_block hk).trans (hc i hi).2⟩⟩
/-- What is known between the steps of the law's loop. -/
structure Mdw (w wx : World) (g : Nat) : Prop where
  below : Below w.heap.size w wx
  tape : Tape wx g
theorem Mdw.step {w a b : World} {g : Nat} (h : Mdw w a g) (hg : w.heap.size ≤ g) (k : TStep a g b) : Mdw w b g := ⟨h.below.grown k.2 h.below.size (fun j e => by have := Option.some.inj e; omega), k.1⟩
theorem Mdw.on {w a b : World} {g : Nat} (h : Mdw w a g) (k : Below a.heap.size a b) : Mdw w b g := ⟨h.below.trans (k.mono h.below.size), h.tape.below k⟩

set_option maxRecDepth 100000 in
set_option maxHeartbeats 3200000 in
theorem checks_walk (A A1 A3 : Option Addr) (n0 cp c1 n3 c3 : Nat) (l1 : List Nd) (id1 : Int) (w : World) (hL : Lets w) (hnc : n0 ≤ cp) (hc : cp ≤ maxLen) (hN : Nums w w.heap.size A n0) (hn1 : Nds w w.heap.size A1 l1) (hw1 : ∀ x ∈ l1, x.wide) (hN3 : Nums w w.heap.size A3 n3) :
    Calls Tryd.prog 7 #[.slice A n0 cp, .slice A1 l1.length c1, .int .i64 id1, .slice A3 n3 c3] w (LawP w) := by
  have HSA := Lib.hid sane5_any
  obtain ⟨ids1, hids, hI3⟩ := ins_of_nums hN3
  obtain ⟨k1, hk1⟩ : ∃ k1, k1 = l1.length := ⟨_, rfl⟩
  have HK1 := Lib.hid hk1
  have HID := Lib.hid hids
  have HN1 := Lib.hid hn1
  have HW1 := Lib.hid hw1
  have HI3 := Lib.hid hI3
  have HLL := Lib.hid hL
  rw [← hk1]
  clear hk1 hids hn1 hw1 hI3 hN3
  go_enter Tryd.func7, Tryd.ntmps7
  go_wp2_with fail
  refine (new_any A n0 cp _ hnc hc hN).mono ?_
  rintro e w1 ⟨g, hg1, rfl, hTp, hb1⟩
  have hne2 : 0 ≠ g := by have := hL.lt; omega
  have hmd : Mdw w w1 g := ⟨hb1, hTp⟩
  have HLB := Lib.hid (fun (W : World) (h : Mdw w W g) => HLL.out.below h.below)
  clear hN hnc hc hL hTp hb1
  go_wp2_with fail
  go_loopw [10] (fun vi wr => ∃ i : Nat, vi = .int .i64 (i : Int) ∧ i ≤ 4 ∧ Mdw w wr g) (fun vi _ => 4 - (intOf vi).toNat)
  case atStart => exact ⟨0, rfl, by omega, hmd⟩
  case round =>
    clear hmd
    obtain ⟨i, rfl, hi4, hmd⟩ := hrel
    by_cases hlt : i < 4
    · have hltz : (i : Int) < 4 := by omega
      go_wp2_with fail
      refine (roster_any 8 g wr (by omega) (by omega) hmd.tape (HLB.out _ hmd) hne2).mono ?_
      rintro e w2 ⟨A2, c2, l, rfl, ho, hl8, hwd, hchk, hst⟩
      have hmd2 := hmd.step hg1 hst
      have HWD : Hid (∀ x ∈ l, x.wide) := Lib.hid fun x hx => by
        have := List.all_eq_true.1 (chkV_zero.1 hchk).2.1 x hx
        simp [Nd.ok] at this
        exact ⟨⟨by omega, by omega⟩, by omega⟩
      obtain ⟨_, _, er, hnd⟩ := ho.read
      injection er with e1 _ e2
      subst e1 e2
      have hA2 : ∀ b o, A2 = some ⟨b, o, none⟩ → b ≠ g := fun b o e => by
        have h1 := (ho.lt b (by rw [e]; rfl)).1
        have h2 := hmd.tape.lt
        omega
      clear ho hwd hchk hst hmd
      go_upto_if 27 with fail
      go_cut [11] (fun s wx => ∃ (Ax : Option Addr) (cx : Nat) (lx : List Nd), s = .slice Ax lx.length cx ∧ lx.length ≤ 9 ∧ (∀ b o, Ax = some ⟨b, o, none⟩ → b ≠ g) ∧ Nds wx wx.heap.size Ax lx ∧ Mdw w wx g ∧ Hid (∀ x ∈ lx, x.wide))
      case first =>
        by_cases hi0 : 0 < i
        · have hi0z : (0 : Int) < (i : Int) := by omega
          have HOD := Lib.hid (oddRoster_any A2 l c2 g w2 hmd2.tape (HLB.out _ hmd2) hne2 hnd (by omega) HWD.out)
          go_wp2_with fail
          refine (HOD.out).mono ?_
          rintro e w3 ⟨A4, c4, l4, rfl, ho4, hl4, hwd4, hst4⟩
          obtain ⟨_, _, er, hnd4⟩ := ho4.read
          injection er with e1 _ e2
          subst e1 e2
          have hA4 : ∀ b o, A4 = some ⟨b, o, none⟩ → b ≠ g := fun b o e => by
            have h1 := (ho4.lt b (by rw [e]; rfl)).1
            have h2 := hmd2.tape.lt
            omega
          have HM4 := Lib.hid (hmd2.step hg1 hst4)
          have HW4 := Lib.hid hwd4
          clear ho4 hst4 HOD hwd4
          go_wp2_with fail
          go_meet
          exact ⟨A4, c4, l4, rfl, by omega, hA4, hnd4, HM4.out, HW4⟩
        · have hi0z : ¬ (0 : Int) < (i : Int) := by omega
          go_wp2_with fail
          go_meet
          exact ⟨A2, c2, l, rfl, by omega, hA2, hnd, hmd2, HWD⟩
      case rest =>
        clear hnd hA2 HWD hmd2 hl8
        obtain ⟨Ax, cx, lx, rfl, hlx, hAx, hndx, hmdx, HWX⟩ := hcut
        go_wp2_with fail
        refine (idr_any Ax lx cx g wc hmdx.tape hndx (by omega) hAx HWX.out).mono ?_
        rintro e w4 ⟨id, hidb, rfl, hst4⟩
        have hmd4 := hmdx.step hg1 hst4
        have hnd4 := nds_step hndx hAx hst4
        have HDW := Lib.hid (down_any Ax lx cx 4 g w4 hmd4.tape hnd4 (by omega) hAx HWX.out (by omega))
        clear hmdx hndx hst4
        go_wp2_with fail
        refine (HDW.out).mono ?_
        rintro e w5 ⟨A5, c5, ids, rfl, ho5, hl5, hst5⟩
        have hmd5 := hmd4.step hg1 hst5
        have hnd5 := nds_step hnd4 hAx hst5
        obtain ⟨_, _, er, hI5, hA5⟩ := ho5.read
        injection er with e1 _ e2
        subst e1 e2
        clear hmd4 hnd4 hst5 HDW ho5 hidb
        obtain ⟨bb, hbb⟩ : ∃ bb : Bool, bb = decide (i = 3 ∧ k1 ≤ 200 ∧ n3 ≤ 200) := ⟨_, rfl⟩
        have HBB := Lib.hid hbb
        clear hbb
        go_upto_region 9 with fail
        go_cut [48] (fun s48 wx => s48 = .bool bb ∧ w5 = wx)
        case first =>
          clear hnd5 hI5 hmd5 HWX hAx hA5 hlx hl5
          by_cases hi3 : i = 3
          · have hi3z : ((i : Int) == 3) = true := by simp [hi3]
            by_cases hk : k1 ≤ 200
            · have hkz : (k1 : Int) ≤ 200 := by omega
              by_cases hm : n3 ≤ 200
              · have hmz : (n3 : Int) ≤ 200 := by omega
                obtain rfl : bb = true := by rw [HBB.out]; simp [hi3, hk, hm]
                clear hi3
                go_wp2_with fail
                go_meet
                exact ⟨rfl, rfl⟩
              · have hmz : ¬ (n3 : Int) ≤ 200 := by omega
                obtain rfl : bb = false := by rw [HBB.out]; simp [hm]
                clear hi3
                go_wp2_with fail
                go_meet
                exact ⟨rfl, rfl⟩
            · have hkz : ¬ (k1 : Int) ≤ 200 := by omega
              obtain rfl : bb = false := by rw [HBB.out]; simp [hk]
              clear hi3
              go_wp2_with fail
              go_meet
              exact ⟨rfl, rfl⟩
          · have hi3z : ((i : Int) == 3) = false := by simp; omega
            obtain rfl : bb = false := by rw [HBB.out]; simp [hi3]
            clear hi3
            go_wp2_with fail
            go_meet
            exact ⟨rfl, rfl⟩
        case rest =>
        obtain ⟨rfl, rfl⟩ := hcut
        go_upto_if 48 with fail
        go_cut [11, 12, 13] (fun s11 s12 s13 wx => ∃ (Ay : Option Addr) (cy : Nat) (ly : List Nd) (idy : Int) (Ad : Option Addr) (cd : Nat) (dn : List Int), s11 = .slice Ay ly.length cy ∧ s12 = .int .i64 idy ∧ s13 = .slice Ad dn.length cd ∧ ly.length ≤ 200 ∧ dn.length ≤ 200 ∧ Nds wx wx.heap.size Ay ly ∧ Ins wx wx.heap.size Ad dn ∧ Mdw w wx g ∧ Hid (∀ x ∈ ly, x.wide))
        case first =>
          cases bb
          · go_wp2_with fail
            go_meet
            exact ⟨Ax, cx, lx, id, A5, c5, ids, rfl, rfl, rfl, by omega, by omega, hnd5, hI5, hmd5, HWX⟩
          · have HBC : Hid (k1 ≤ 200 ∧ n3 ≤ 200) := Lib.hid (by have := HBB.out; simp at this; exact this.2)
            have HNR := Lib.hid ((HN1.out.below hmd5.below).more hmd5.below.size)
            have HIR := Lib.hid (HI3.out.below (Nat.le_refl _) hmd5.below)
            clear hnd5 hI5
            go_wp2_with fail
            go_meet
            exact ⟨A1, c1, l1, id1, A3, c3, ids1, by rw [← HK1.out], rfl, by rw [HID.out], by rw [← HK1.out]; exact HBC.out.1, by rw [HID.out]; exact HBC.out.2, HNR.out, HIR.out, hmd5, HW1⟩
        case rest =>
          clear hnd5 hI5 hmd5 HWX hAx hA5 hlx hl5
          obtain ⟨Ay, cy, ly, idy, Ad, cd, dn, rfl, rfl, rfl, hly, hdn, hnd, hin, hmd, HWY⟩ := hcut
          obtain ⟨ny, hny⟩ : ∃ ny, ny = ly.length := ⟨_, rfl⟩
          obtain ⟨nd, hndl⟩ : ∃ nd, nd = dn.length := ⟨_, rfl⟩
          have FD := Lib.hid (fun (W : World) (k : Below wc.heap.size wc W) => find_any Ay ly cy idy W ((hnd.below k).more k.size) (by omega))
          have RF := Lib.hid (fun (W : World) (k : Below wc.heap.size wc W) => rfind_any Ay ly cy idy W ((hnd.below k).more k.size) (by omega))
          have CK := Lib.hid (fun (W : World) (k : Below wc.heap.size wc W) => check_any Ay ly cy W ((hnd.below k).more k.size) (fun x hx => (HWY.out x hx).2))
          have RC := Lib.hid (fun (W : World) (k : Below wc.heap.size wc W) => rcheck_any Ay ly cy W ((hnd.below k).more k.size) (fun x hx => (HWY.out x hx).2))
          have SO := Lib.hid (fun (W : World) (k : Below wc.heap.size wc W) => sort_big Ay ly cy W ((hnd.below k).more k.size) (by omega))
          have RS := Lib.hid (fun (W : World) (k : Below wc.heap.size wc W) => rsort_any Ay ly cy W ((hnd.below k).more k.size) (by omega))
          have WO := Lib.hid (fun (W : World) (k : Below wc.heap.size wc W) => without_any Ay Ad ly cy cd dn W ((hnd.below k).more k.size) (hin.below (Nat.le_refl _) k) (by omega) (by omega) (fun x hx => (HWY.out x hx).1))
          have RW := Lib.hid (fun (W : World) (k : Below wc.heap.size wc W) => rwithout_any Ay Ad ly cy cd dn W ((hnd.below k).more k.size) (hin.below (Nat.le_refl _) k) (by omega) (by omega))
          unfold FndP at FD RF
          rw [← hny] at hly FD RF CK RC SO RS WO RW ⊢
          rw [← hndl] at WO RW ⊢
          have HSL : Hid (∀ s, StbS ly s → s.length = ny) := Lib.hid fun s h => by rw [h.perm.length_eq, hny]
          have HWL : Hid ((wout ly dn).length ≤ 200) := Lib.hid (Nat.le_trans (List.length_filter_le _ _) (by rw [← hny]; exact hly))
          clear hny hndl hnd hin HWY
          obtain ⟨V, hV⟩ : ∃ V, V = fndV ly idy := ⟨_, rfl⟩
          rw [← hV] at FD RF
          generalize decide (plc ly idy < ny) = D at *
          generalize chkV ly = Z at *
          obtain ⟨Vi, Vk, Vw⟩ := V
          clear hV
          have hZZ : (Z != Z) = false := by simp
          have hDD : (D != D) = false := by simp
          have hNE := neq_nself Vi Vk Vw
          have HMD := Lib.hid hmd
          clear hmd
          go_wp2_with fail
          refine (FD.out wc (Below.refl _ _)).mono ?_
          rintro e w6 ⟨rfl, hb6⟩
          have k6 := hb6.alloc hb6.size (.cells #[.int .i64 Vi, .string Vk, .int .u32 (Vw : Int)] 60)
          have HX6 := Lib.hid (Has.new w6 60 #[.int .i64 Vi, .string Vk, .int .u32 (Vw : Int)])
          have HK6 := Lib.hid k6
          clear hb6 k6 FD
          go_wp2_with fail
          refine (RF.out _ HK6.out).mono ?_
          rintro e w7 ⟨rfl, hb7⟩
          have k7 := hb7.alloc hb7.size (.cells #[.int .i64 Vi, .string Vk, .int .u32 (Vw : Int)] 60)
          have HX7 := Lib.hid (HX6.out.below k7)
          have HY7 := Lib.hid (Has.new w7 60 #[.int .i64 Vi, .string Vk, .int .u32 (Vw : Int)])
          have HK7 := Lib.hid (HK6.out.trans (k7.mono HK6.out.size))
          clear hb7 k7 RF HX6 HK6
          go_wp2_with fail
          refine (CK.out _ HK7.out).mono ?_
          rintro e w8 ⟨rfl, hb8⟩
          have HX8 := Lib.hid (HX7.out.below hb8)
          have HY8 := Lib.hid (HY7.out.below hb8)
          have HK8 := Lib.hid (HK7.out.trans (hb8.mono HK7.out.size))
          clear hb8 CK HX7 HY7 HK7
          go_wp2_with fail
          refine (RC.out _ HK8.out).mono ?_
          rintro e w9 ⟨rfl, hb9⟩
          have HX9 := Lib.hid (HX8.out.below hb9)
          have HY9 := Lib.hid (HY8.out.below hb9)
          have HK9 := Lib.hid (HK8.out.trans (hb9.mono HK8.out.size))
          clear hb9 RC HX8 HY8 HK8
          go_wp2_with fail
          refine (SO.out _ HK9.out).mono ?_
          rintro e wa ⟨s1, hs1, Aa, ca, rfl, hoa, hba⟩
          have HXa := Lib.hid (HX9.out.below hba)
          have HYa := Lib.hid (HY9.out.below hba)
          have HKa := Lib.hid (HK9.out.trans (hba.mono HK9.out.size))
          obtain ⟨_, _, er, hra⟩ := hoa.read
          injection er with e1 _ e2
          subst e1 e2
          have hsl1 := HSL.out s1 hs1
          have HS1 := Lib.hid hs1
          have HRA := Lib.hid hra
          rw [hsl1]
          clear hba hoa SO HX9 HY9 HK9 hs1 hra
          go_wp2_with fail
          refine (RS.out _ HKa.out).mono ?_
          rintro e wb ⟨s2, hs2, Ab, cb, rfl, hob, hbb⟩
          obtain rfl := stb_unique hs2 HS1.out
          have HXb := Lib.hid (HXa.out.below hbb)
          have HYb := Lib.hid (HYa.out.below hbb)
          have HKb := Lib.hid (HKa.out.trans (hbb.mono HKa.out.size))
          obtain ⟨_, _, er, hrb⟩ := hob.read
          injection er with e1 _ e2
          subst e1 e2
          have HSM := Lib.hid (same_nodes Aa Ab s2 s2 ca cb wb ((HRA.out.below hbb).more hbb.size) hrb (by rw [hsl1]; omega))
          rw [hsl1, sameN_self] at HSM
          rw [hsl1]
          clear hbb hob RS HXa HYa HKa hs2 hrb HRA HS1 hsl1 HSL
          go_wp2_with fail
          refine (HSM.out).mono ?_
          rintro e w10 ⟨rfl, hb10⟩
          have X10 := HXb.out.below hb10
          have Y10 := HYb.out.below hb10
          have x0 := X10.cell 0
          have x1 := X10.cell 1
          have x2 := X10.cell 2
          have y0 := Y10.cell 0
          have y1 := Y10.cell 1
          have y2 := Y10.cell 2
          have HK10 := Lib.hid (HKb.out.trans (hb10.mono HKb.out.size))
          clear hb10 HSM HXb HYb HKb X10 Y10
          go_wp2_with fail
          refine (WO.out _ HK10.out).mono ?_
          rintro e w11 ⟨A11, c11, rfl, ho11, hb11⟩
          have HK11 := Lib.hid (HK10.out.trans (hb11.mono HK10.out.size))
          obtain ⟨_, _, er, hr11⟩ := ho11.read
          injection er with e1 _ e2
          subst e1 e2
          have HR11 := Lib.hid hr11
          clear ho11 hb11 WO HK10 hr11 x0 x1 x2 y0 y1 y2
          go_wp2_with fail
          refine (RW.out _ HK11.out).mono ?_
          rintro e w12 ⟨A12, c12, rfl, ho12, hb12⟩
          have HK12 := Lib.hid (HK11.out.trans (hb12.mono HK11.out.size))
          obtain ⟨_, _, er, hr12⟩ := ho12.read
          injection er with e1 _ e2
          subst e1 e2
          have HSM := Lib.hid (same_nodes A11 A12 (wout ly dn) (wout ly dn) c11 c12 w12 ((HR11.out.below hb12).more hb12.size) hr12 (by have := HWL.out; omega))
          rw [sameN_self] at HSM
          clear ho12 hb12 RW HK11 hr12 HR11 HWL
          go_wp2_with fail
          refine (HSM.out).mono ?_
          rintro e w13 ⟨rfl, hb13⟩
          have HM13 := Lib.hid (HMD.out.on (HK12.out.trans (hb13.mono HK12.out.size)))
          clear hb13 HSM HK12
          go_wp2_with fail
          exact ⟨⟨i + 1, by go_num, hlt, HM13.out⟩, by simp [intOf]; omega⟩
    · have hltz : ¬ (i : Int) < 4 := by omega
      have HS5 := Lib.hid (HSA.out wr)
      go_wp2_with fail
      refine (HS5.out).mono ?_
      rintro e w9 ⟨rfl, hb9⟩
      go_wp2_with fail
      go_ret
      exact ⟨rfl, hmd.below.trans (hb9.mono hmd.below.size)⟩
end Go.Proofs.YtiafimbehcemcaaDoor
