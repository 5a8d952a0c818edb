/-
  The walk of RosterOwners: from whatever numbers, nodes, number and key it answers true and only makes memory. Conditions: the arguments can be read; 'letters' is as its initialiser lays it.
-/
import Derived.Test.YtiafimbehcemcaaDoorKhW
import Derived.Test.YtiafimbehcemcaaDoorKhU
import Derived.Test.YtiafimbehcemcaaDoorKgL
import Derived.Deep.DeepCutAuto
import Derived.Deep.CutBlock
namespace Go.Proofs.YtiafimbehcemcaaDoor
open Go.RowKit

theorem neq_nself (i : Int) (k : ByteArray) (n : Nat) : ∀ w : World, (binOp .neq 60 (.agg #[.int .i64 i, .string k, .int .u32 (n : Int)]) (.agg #[.int .i64 i, .string k, .int .u32 (n : Int)])).run Tryd.prog w = .ok (.bool false) w := fun w => by
  rw [neq_nd ⟨i, k, n⟩ ⟨i, k, n⟩]
  simp [Nd.same]
theorem eq_rg2 (a b : Rg) (w : World) : (Op.equalIn 10000 74 a.val b.val).run Tryd.prog w = .ok (a.lo.key.toList == b.lo.key.toList && (a.lo.top == b.lo.top && (a.hi.key.toList == b.hi.key.toList && a.hi.top == b.hi.top))) w := by
  show (Op.equalIn 10000 74 (.agg #[.string a.lo.key, .bool a.lo.top, .string a.hi.key, .bool a.hi.top]) (.agg #[.string b.lo.key, .bool b.lo.top, .string b.hi.key, .bool b.hi.top])).run Tryd.prog w = _
  rw [run_equalIn_agg w 9999 74 _ _ (by kernel_rfl) (by kernel_rfl)]
  by_cases h1 : a.lo.key.toList = b.lo.key.toList <;> by_cases h2 : a.lo.top = b.lo.top <;> by_cases h3 : a.hi.key.toList = b.hi.key.toList <;> by_cases h4 : a.hi.top = b.hi.top <;> simp [go_sem, Tryd.underlying74, Tryd.underlying72, Tryd.underlying4, Tryd.underlying9, h1, h2, h3, h4]
theorem neq_rg2 (a b : Rg) (w : World) : (binOp .neq 74 a.val b.val).run Tryd.prog w = .ok (.bool (!(a.lo.key.toList == b.lo.key.toList && (a.lo.top == b.lo.top && (a.hi.key.toList == b.hi.key.toList && a.hi.top == b.hi.top))))) w := by
  rw [run_neq_struct, eq_rg2]
  rfl
theorem neq_rself2 (r : Rg) : ∀ w : World, (binOp .neq 74 (.agg #[.string r.lo.key, .bool r.lo.top, .string r.hi.key, .bool r.hi.top]) (.agg #[.string r.lo.key, .bool r.lo.top, .string r.hi.key, .bool r.hi.top])).run Tryd.prog w = .ok (.bool false) w := fun w => by
  rw [neq_rg2 r r]
  simp
/-- What is known between the steps of the law's loop. -/
structure Mdw (w wx : World) (g : Nat) : Prop where
  below : Below w.heap.size w wx
  tape : Tape wx g
theorem Mdw.step {w a b : World} {g : Nat} (h : Mdw w a g) (hg : w.heap.size ≤ g) (k : TStep a g b) : Mdw w b g := ⟨h.below.grown k.2 h.below.size (fun j e => by have := Option.some.inj e; omega), k.1⟩
theorem Mdw.on {w a b : World} {g : Nat} (h : Mdw w a g) (k : Below a.heap.size a b) : Mdw w b g := ⟨h.below.trans (k.mono h.below.size), h.tape.below k⟩

set_option maxRecDepth 100000 in
set_option maxHeartbeats 3200000 in
theorem owners_walk (A A1 : Option Addr) (n0 cp c1 : Nat) (l1 : List Nd) (id1 : Int) (q1 : ByteArray) (w : World) (hL : Lets w) (hnc : n0 ≤ cp) (hc : cp ≤ maxLen) (hN : Nums w w.heap.size A n0) (hn1 : Nds w w.heap.size A1 l1) (hw1 : ∀ x ∈ l1, x.wide) :
    Calls Tryd.prog 8 #[.slice A n0 cp, .slice A1 l1.length c1, .int .i64 id1, .string q1] w (LawP w) := by
  have HSA := Lib.hid sane5_any
  obtain ⟨k1, hk1⟩ : ∃ k1, k1 = l1.length := ⟨_, rfl⟩
  have HK1 := Lib.hid hk1
  have HN1 := Lib.hid hn1
  have HW1 := Lib.hid hw1
  have HLL := Lib.hid hL
  rw [← hk1]
  clear hk1 hn1 hw1
  go_enter Tryd.func8, Tryd.ntmps8
  go_wp2_with fail
  refine (new_any A n0 cp _ hnc hc hN).mono ?_
  rintro e w1 ⟨g, hg1, rfl, hTp, hb1⟩
  have hne2 : 0 ≠ g := by have := hL.lt; omega
  have hmd : Mdw w w1 g := ⟨hb1, hTp⟩
  have HLB := Lib.hid (fun (W : World) (h : Mdw w W g) => HLL.out.below h.below)
  clear hN hnc hc hL hTp hb1
  go_wp2_with fail
  go_loopw [10] (fun vi wr => ∃ i : Nat, vi = .int .i64 (i : Int) ∧ i ≤ 4 ∧ Mdw w wr g) (fun vi _ => 4 - (intOf vi).toNat)
  case atStart => exact ⟨0, rfl, by omega, hmd⟩
  case round =>
    clear hmd
    obtain ⟨i, rfl, hi4, hmd⟩ := hrel
    by_cases hlt : i < 4
    · have hltz : (i : Int) < 4 := by omega
      go_wp2_with fail
      refine (roster_any 8 g wr (by omega) (by omega) hmd.tape (HLB.out _ hmd) hne2).mono ?_
      rintro e w2 ⟨A2, c2, l, rfl, ho, hl8, hwd, hchk, hst⟩
      have hmd2 := hmd.step hg1 hst
      have HWD : Hid (∀ x ∈ l, x.wide) := Lib.hid fun x hx => by
        have := List.all_eq_true.1 (chkV_zero.1 hchk).2.1 x hx
        simp [Nd.ok] at this
        exact ⟨⟨by omega, by omega⟩, by omega⟩
      obtain ⟨_, _, er, hnd⟩ := ho.read
      injection er with e1 _ e2
      subst e1 e2
      have hA2 : ∀ b o, A2 = some ⟨b, o, none⟩ → b ≠ g := fun b o e => by
        have h1 := (ho.lt b (by rw [e]; rfl)).1
        have h2 := hmd.tape.lt
        omega
      clear ho hwd hchk hst hmd
      go_upto_if 35 with fail
      go_cut [11] (fun s wx => ∃ (Ax : Option Addr) (cx : Nat) (lx : List Nd), s = .slice Ax lx.length cx ∧ lx.length ≤ 9 ∧ (∀ b o, Ax = some ⟨b, o, none⟩ → b ≠ g) ∧ Nds wx wx.heap.size Ax lx ∧ Mdw w wx g ∧ Hid (∀ x ∈ lx, x.wide))
      case first =>
        by_cases hi0 : i = 2
        · have hi0z : ((i : Int) == 2) = true := by simp [hi0]
          have HOD := Lib.hid (oddRoster_any A2 l c2 g w2 hmd2.tape (HLB.out _ hmd2) hne2 hnd (by omega) HWD.out)
          clear hi0
          go_wp2_with fail
          refine (HOD.out).mono ?_
          rintro e w3 ⟨A4, c4, l4, rfl, ho4, hl4, hwd4, hst4⟩
          obtain ⟨_, _, er, hnd4⟩ := ho4.read
          injection er with e1 _ e2
          subst e1 e2
          have hA4 : ∀ b o, A4 = some ⟨b, o, none⟩ → b ≠ g := fun b o e => by
            have h1 := (ho4.lt b (by rw [e]; rfl)).1
            have h2 := hmd2.tape.lt
            omega
          have HM4 := Lib.hid (hmd2.step hg1 hst4)
          have HW4 := Lib.hid hwd4
          clear ho4 hst4 HOD hwd4
          go_wp2_with fail
          go_meet
          exact ⟨A4, c4, l4, rfl, by omega, hA4, hnd4, HM4.out, HW4⟩
        · have hi0z : ((i : Int) == 2) = false := by simp; omega
          clear hi0
          go_wp2_with fail
          go_meet
          exact ⟨A2, c2, l, rfl, by omega, hA2, hnd, hmd2, HWD⟩
      case rest =>
        clear hnd hA2 HWD hmd2 hl8
        obtain ⟨Ax, cx, lx, rfl, hlx, hAx, hndx, hmdx, HWX⟩ := hcut
        go_wp2_with fail
        refine (idr_any Ax lx cx g wc hmdx.tape hndx (by omega) hAx HWX.out).mono ?_
        rintro e w4 ⟨id, hidb, rfl, hst4⟩
        have hmd4 := hmdx.step hg1 hst4
        have hnd4 := nds_step hndx hAx hst4
        have HOK := Lib.hid (oddKey_any g w4 hmd4.tape (HLB.out _ hmd4) hne2)
        clear hmdx hndx hst4
        go_wp2_with fail
        refine (HOK.out).mono ?_
        rintro e w5 ⟨key, hkey, rfl, hst5⟩
        have hmd5 := hmd4.step hg1 hst5
        have hnd5 := nds_step hnd4 hAx hst5
        clear hmd4 hnd4 hst5 HOK hidb hkey
        obtain ⟨bb, hbb⟩ : ∃ bb : Bool, bb = decide (i = 3 ∧ k1 ≤ 200) := ⟨_, rfl⟩
        have HBB := Lib.hid hbb
        clear hbb
        go_upto_region 9 with fail
        go_cut [50] (fun s50 wx => s50 = .bool bb ∧ w5 = wx)
        case first =>
          clear hnd5 hmd5 HWX hAx hlx
          by_cases hi3 : i = 3
          · have hi3z : ((i : Int) == 3) = true := by simp [hi3]
            by_cases hk : k1 ≤ 200
            · have hkz : (k1 : Int) ≤ 200 := by omega
              obtain rfl : bb = true := by rw [HBB.out]; simp [hi3, hk]
              clear hi3
              go_wp2_with fail
              go_meet
              exact ⟨rfl, rfl⟩
            · have hkz : ¬ (k1 : Int) ≤ 200 := by omega
              obtain rfl : bb = false := by rw [HBB.out]; simp [hk]
              clear hi3
              go_wp2_with fail
              go_meet
              exact ⟨rfl, rfl⟩
          · have hi3z : ((i : Int) == 3) = false := by simp; omega
            obtain rfl : bb = false := by rw [HBB.out]; simp [hi3]
            clear hi3
            go_wp2_with fail
            go_meet
            exact ⟨rfl, rfl⟩
        case rest =>
        obtain ⟨rfl, rfl⟩ := hcut
        go_upto_if 50 with fail
        go_cut [11, 12, 13] (fun s11 s12 s13 wx => ∃ (Ay : Option Addr) (cy : Nat) (ly : List Nd) (idy : Int) (qy : ByteArray), s11 = .slice Ay ly.length cy ∧ s12 = .int .i64 idy ∧ s13 = .string qy ∧ ly.length ≤ 200 ∧ Nds wx wx.heap.size Ay ly ∧ Mdw w wx g ∧ Hid (∀ x ∈ ly, x.wide))
        case first =>
          cases bb
          · go_wp2_with fail
            go_meet
            exact ⟨Ax, cx, lx, id, key, rfl, rfl, rfl, by omega, hnd5, hmd5, HWX⟩
          · have HBC : Hid (k1 ≤ 200) := Lib.hid (by have := HBB.out; simp at this; exact this.2)
            have HNR := Lib.hid ((HN1.out.below hmd5.below).more hmd5.below.size)
            clear hnd5
            go_wp2_with fail
            go_meet
            exact ⟨A1, c1, l1, id1, q1, by rw [← HK1.out], rfl, rfl, by rw [← HK1.out]; exact HBC.out, HNR.out, hmd5, HW1⟩
        case rest =>
          clear hnd5 hmd5 HWX hAx hlx
          obtain ⟨Ay, cy, ly, idy, qy, rfl, rfl, rfl, hly, hnd, hmd, HWY⟩ := hcut
          have HWZ : ∀ x ∈ ly, x.word < 4294967296 := fun x hx => (HWY.out x hx).2
          obtain ⟨ny, hny⟩ : ∃ ny, ny = ly.length := ⟨_, rfl⟩
          have OW := Lib.hid (fun (W : World) (k : Below wc.heap.size wc W) => owner_gen Ay ly cy qy W ((hnd.below k).more k.size) HWZ)
          have RO := Lib.hid (fun (W : World) (k : Below wc.heap.size wc W) => rowner_any Ay ly cy qy W ((hnd.below k).more k.size) (by omega) HWZ)
          have IV := Lib.hid (fun (W : World) (k : Below wc.heap.size wc W) => interval_gen Ay ly cy idy W ((hnd.below k).more k.size) HWZ)
          have RI := Lib.hid (fun (W : World) (k : Below wc.heap.size wc W) => rinterval_any Ay ly cy idy W ((hnd.below k).more k.size) (by omega) HWZ)
          have RK := Lib.hid (fun (W : World) (k : Below wc.heap.size wc W) => rank_gen Ay ly cy idy W ((hnd.below k).more k.size) HWZ)
          have RR := Lib.hid (fun (W : World) (k : Below wc.heap.size wc W) => rrank_any Ay ly cy idy W ((hnd.below k).more k.size) (by omega) HWZ)
          rw [← hny] at hly OW RO IV RI RK RR ⊢
          clear hny hnd HWY HWZ
          generalize owN ly qy = V at *
          generalize owB ly qy = D at *
          generalize ivR ly idy = R at *
          generalize rkB ly idy = E at *
          generalize rkN ly idy = F at *
          obtain ⟨Vi, Vk, Vw⟩ := V
          obtain ⟨⟨Rlk, Rlt⟩, ⟨Rhk, Rht⟩⟩ := R
          have hDD : (D != D) = false := by simp
          have hEE : (E != E) = false := by simp
          have hFF : ((F : Int) != (F : Int)) = false := by simp
          have hNE := neq_nself Vi Vk Vw
          have hNR := neq_rself2 ⟨⟨Rlk, Rlt⟩, ⟨Rhk, Rht⟩⟩
          have HMD := Lib.hid hmd
          clear hmd
          go_wp2_with fail
          refine (OW.out wc (Below.refl _ _)).mono ?_
          rintro e w6 ⟨rfl, hb6⟩
          have k6 := hb6.alloc hb6.size (.cells #[.int .i64 Vi, .string Vk, .int .u32 (Vw : Int)] 60)
          have HX6 := Lib.hid (Has.new w6 60 #[.int .i64 Vi, .string Vk, .int .u32 (Vw : Int)])
          have HK6 := Lib.hid k6
          clear hb6 k6 OW
          go_wp2_with fail
          refine (RO.out _ HK6.out).mono ?_
          rintro e w7 ⟨rfl, hb7⟩
          have k7 := hb7.alloc hb7.size (.cells #[.int .i64 Vi, .string Vk, .int .u32 (Vw : Int)] 60)
          have HX7 := Lib.hid (HX6.out.below k7)
          have HY7 := Lib.hid (Has.new w7 60 #[.int .i64 Vi, .string Vk, .int .u32 (Vw : Int)])
          have HK7 := Lib.hid (HK6.out.trans (k7.mono HK6.out.size))
          clear hb7 k7 RO HX6 HK6
          go_wp2_with fail
          refine (IV.out _ HK7.out).mono ?_
          rintro e w8 ⟨rfl, hb8⟩
          have k8 := hb8.alloc hb8.size (.cells #[.string Rlk, .bool Rlt, .string Rhk, .bool Rht] 74)
          have HX8 := Lib.hid (HX7.out.below k8)
          have HY8 := Lib.hid (HY7.out.below k8)
          have HZ8 := Lib.hid (Has.new w8 74 #[.string Rlk, .bool Rlt, .string Rhk, .bool Rht])
          have HK8 := Lib.hid (HK7.out.trans (k8.mono HK7.out.size))
          clear hb8 k8 IV HX7 HY7 HK7
          go_wp2_with fail
          refine (RI.out _ HK8.out).mono ?_
          rintro e w9 ⟨rfl, hb9⟩
          have k9 := hb9.alloc hb9.size (.cells #[.string Rlk, .bool Rlt, .string Rhk, .bool Rht] 74)
          have HX9 := Lib.hid (HX8.out.below k9)
          have HY9 := Lib.hid (HY8.out.below k9)
          have HZ9 := Lib.hid (HZ8.out.below k9)
          have HU9 := Lib.hid (Has.new w9 74 #[.string Rlk, .bool Rlt, .string Rhk, .bool Rht])
          have HK9 := Lib.hid (HK8.out.trans (k9.mono HK8.out.size))
          clear hb9 k9 RI HX8 HY8 HZ8 HK8
          go_wp2_with fail
          refine (RK.out _ HK9.out).mono ?_
          rintro e wa ⟨rfl, hba⟩
          have HXa := Lib.hid (HX9.out.below hba)
          have HYa := Lib.hid (HY9.out.below hba)
          have HZa := Lib.hid (HZ9.out.below hba)
          have HUa := Lib.hid (HU9.out.below hba)
          have HKa := Lib.hid (HK9.out.trans (hba.mono HK9.out.size))
          clear hba RK HX9 HY9 HZ9 HU9 HK9
          go_wp2_with fail
          refine (RR.out _ HKa.out).mono ?_
          rintro e wb ⟨rfl, hbb⟩
          have X := HXa.out.below hbb
          have Y := HYa.out.below hbb
          have Z := HZa.out.below hbb
          have U := HUa.out.below hbb
          have x0 := X.cell 0
          have x1 := X.cell 1
          have x2 := X.cell 2
          have y0 := Y.cell 0
          have y1 := Y.cell 1
          have y2 := Y.cell 2
          have z0 := Z.cell 0
          have z1 := Z.cell 1
          have z2 := Z.cell 2
          have z3 := Z.cell 3
          have u0 := U.cell 0
          have u1 := U.cell 1
          have u2 := U.cell 2
          have u3 := U.cell 3
          have HM13 := Lib.hid (HMD.out.on (HKa.out.trans (hbb.mono HKa.out.size)))
          clear hbb RR HXa HYa HZa HUa HKa X Y Z U
          go_wp2_with fail
          exact ⟨⟨i + 1, by go_num, hlt, HM13.out⟩, by simp [intOf]; omega⟩
    · have hltz : ¬ (i : Int) < 4 := by omega
      have HS5 := Lib.hid (HSA.out wr)
      go_wp2_with fail
      refine (HS5.out).mono ?_
      rintro e w9 ⟨rfl, hb9⟩
      go_wp2_with fail
      go_ret
      exact ⟨rfl, hmd.below.trans (hb9.mono hmd.below.size)⟩
end Go.Proofs.YtiafimbehcemcaaDoor
