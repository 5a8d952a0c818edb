/-
  The walk of WireNodes: from whatever numbers, nodes, links and bytes it answers true and only makes memory. Conditions: the arguments can be read; 'letters' is as its initialiser lays it.
-/
import Derived.Test.YtmhimkojegkalaaDoorLnG
import Derived.Test.YtmhimkojegkalaaDoorLbU
import Derived.Deep.DeepCutAuto
import Derived.Deep.CutBlock
namespace Go.Proofs.YtmhimkojegkalaaDoor
open Go.RowKit

set_option maxRecDepth 100000 in
set_option maxHeartbeats 3200000 in
theorem wnodes_walk (A A1 A2 A3 : Option Addr) (n0 cp c1 c2 c3 : Nat) (l1 : List Nd) (m1 : List Ld) (b1 : List UInt8) (w : World) (hL : Lets w) (hnc : n0 ≤ cp) (hc : cp ≤ maxLen) (hN : Nums w w.heap.size A n0) (hn1 : Nds w w.heap.size A1 l1) (hw1 : ∀ x ∈ l1, x.wide) (hm1 : Lds w w.heap.size A2 m1) (hmw : ∀ x ∈ m1, x.wide) (hb : Bys w w.heap.size A3 b1) (hbc : b1.length ≤ c3) (hcm : c3 ≤ maxLen) :
    Calls Tryd.prog 3 #[.slice A n0 cp, .slice A1 l1.length c1, .slice A2 m1.length c2, .slice A3 b1.length c3] w (LawP w) := by
  have HSA := Lib.hid sane_any
  have HDB := Lib.hid (fun (W : World) (k : Below w.heap.size w W) => decodes_any A3 b1 c3 w.heap.size W (hb.below k) k.size hbc hcm)
  have HN1 := Lib.hid hn1
  have HM1 := Lib.hid hm1
  have HW1 := Lib.hid hw1
  have HMW := Lib.hid hmw
  obtain ⟨p1, hp1⟩ : ∃ p1, p1 = l1.length := ⟨_, rfl⟩
  obtain ⟨q1, hq1⟩ : ∃ q1, q1 = m1.length := ⟨_, rfl⟩
  have HP1 := Lib.hid hp1
  have HQ1 := Lib.hid hq1
  rw [← hp1, ← hq1]
  generalize b1.length = k1 at *
  have HLL := Lib.hid hL
  clear hn1 hm1 hw1 hmw hp1 hq1 hb hbc hcm
  go_enter Tryd.func3, Tryd.ntmps3
  go_wp2_with fail
  refine (new_any A n0 cp _ hnc hc hN).mono ?_
  rintro e w1 ⟨g, hg1, rfl, hTp, hb1⟩
  have hne2 : 0 ≠ g := by have := hL.lt; omega
  have l1' := hL.below hb1
  clear hN hnc hc hL
  go_wp2_with fail
  refine (roster_any 6 g w1 (by omega) (by omega) hTp l1' hne2).mono ?_
  rintro e w2 ⟨B2, d2, l, rfl, ho, hl6, _, hchk, hst⟩
  have hB2 : Below w.heap.size w w2 := hb1.grown hst.2 hb1.size (fun j e => by have := Option.some.inj e; omega)
  have hgw : g < w1.heap.size := hTp.lt
  have hA2 : ∀ b o, B2 = some ⟨b, o, none⟩ → b ≠ g := fun b o e => by
    have h1 := (ho.lt b (by rw [e]; rfl)).1
    omega
  obtain ⟨_, _, er, hnd⟩ := ho.read
  injection er with e1 _ e2
  subst e1 e2
  have hwd := chk_wide hchk
  have l2 := l1'.step hne2 hst
  have HTH := Lib.hid (theight_any B2 l d2 g w2 hst.1 hnd (fun x hx => (hwd x hx).2))
  have HLK := Lib.hid (fun (W : World) (k : TStep w2 g W) (h : Int) (h16 : h ≤ 16) => tlinks_any B2 l d2 h 3 g W k.1 (nds_step hnd hA2 k) (by omega) hA2 hwd h16 (by omega))
  have HOD := Lib.hid (fun (W : World) (k : TStep w2 g W) => oddRoster_any B2 l d2 g W k.1 (l2.step hne2 k) hne2 (nds_step hnd hA2 k) (by omega) hwd)
  have HND := Lib.hid (fun (W : World) (k : TStep w2 g W) => nds_step hnd hA2 k)
  have HWD := Lib.hid hwd
  have HB2 := Lib.hid hB2
  have hg2 : g < w2.heap.size := hst.1.lt
  clear hst l1' hTp hb1 ho hchk hwd hB2 hnd hA2 l2
  generalize hll : l.length = n at *
  have HLN := Lib.hid hll
  clear hll
  go_wp2_with fail
  refine (HTH.out).mono ?_
  rintro e w3 ⟨h, ⟨h0, h16⟩, rfl, hst3⟩
  have HT3 := Lib.hid hst3
  have HL1 := Lib.hid (HLK.out w3 hst3 h h16)
  have hg3 : g < w3.heap.size := Nat.lt_of_lt_of_le hg2 hst3.2.size
  clear hst3 HTH HLK
  go_wp2_with fail
  refine (HL1.out).mono ?_
  rintro e w4 ⟨v4, n4, rfl, hn4, ho4, hst4⟩
  have HT4 := Lib.hid (HT3.out.trans hst4)
  have HO4 := Lib.hid ho4
  obtain ⟨A4, d4, ls, hv4, hm4, hr4, hw4⟩ := ho4.readB
  have hnl : NL w w4 g B2 l A4 ls := ⟨HB2.out.grown HT4.out.2 HB2.out.size (fun j e => by have := Option.some.inj e; omega), HT4.out.1, fun W k => HND.out W (HT4.out.trans k), fun W k => hr4 W (KpA.step hg3 k) k.2.size, HWD.out, hw4, by rw [HLN.out]; omega, by omega⟩
  obtain ⟨m, hmm⟩ : ∃ m, m = ls.length := ⟨_, rfl⟩
  have HMM := Lib.hid hmm
  rw [← hmm] at hv4
  subst hv4
  have HNL := Lib.hid hnl
  have HOD4 := Lib.hid (fun (W : World) (k : TStep w4 g W) => HOD.out W (HT4.out.trans k))
  clear hmm ho4 hst4 hm4 hr4 hw4 hnl HL1 HO4 HT3 HOD HWD HB2 HND hn4
  go_wp2_with fail
  refine (bool_any g 3 w4 HNL.out.tape (by omega) (by omega)).mono ?_
  rintro e w5 ⟨bb, rfl, hst5⟩
  have HN5 := Lib.hid (HNL.out.step hg1 hst5)
  have HOD5 := Lib.hid (HOD4.out w5 hst5)
  clear hst5 HNL HOD4
  go_upto_if 32 with fail
  go_cut [10] (fun s wx => ∃ (Ax : Option Addr) (cx : Nat) (lx : List Nd), s = .slice Ax lx.length cx ∧ NL w wx g Ax lx A4 ls)
  case first =>
    cases bb
    · go_wp2_with fail
      go_meet
      exact ⟨B2, d2, l, by rw [HLN.out], HN5.out⟩
    · go_wp2_with fail
      refine (HOD5.out).mono ?_
      rintro e w6 ⟨A6, d6, l6, rfl, ho6, hl7, hwd6, hst6⟩
      obtain ⟨_, _, er, hnd6⟩ := ho6.read
      injection er with e1 _ e2
      subst e1 e2
      have hA6 : ∀ b o, A6 = some ⟨b, o, none⟩ → b ≠ g := fun b o e => by
        have h1 := (ho6.lt b (by rw [e]; rfl)).1
        have h2 := HN5.out.tape.lt
        omega
      have h7 := HN5.out.step hg1 hst6
      have HN6 : Hid (NL w w6 g A6 l6 A4 ls) := Lib.hid ⟨h7.below, h7.tape, fun W k => nds_step hnd6 hA6 k, h7.lds, hwd6, h7.lw, by omega, h7.ln⟩
      clear ho6 hnd6 hA6 h7 hwd6 hst6 hl7
      go_wp2_with fail
      go_meet
      exact ⟨A6, d6, l6, rfl, HN6.out⟩
  case rest =>
    clear HN5 HOD5
    obtain ⟨Ax, cx, lx, rfl, hnl⟩ := hcut
    obtain ⟨nx, hnx⟩ : ∃ nx, nx = lx.length := ⟨_, rfl⟩
    rw [← hnx]
    have HNX := Lib.hid hnx
    have HNL := Lib.hid hnl
    clear hnx hnl
    go_wp2_with fail
    go_loopw [10, 11, 12] (fun vn vl vi wr => ∃ (k : Nat) (Ax : Option Addr) (cx nx : Nat) (lx : List Nd) (Ay : Option Addr) (cy ny : Nat) (ly : List Ld), vn = .slice Ax nx cx ∧ vl = .slice Ay ny cy ∧ vi = .int .i64 (k : Int) ∧ k ≤ 2 ∧ Hid (nx = lx.length ∧ ny = ly.length) ∧ NL w wr g Ax lx Ay ly) (fun _ _ vi _ => 2 - (intOf vi).toNat)
    case atStart => exact ⟨0, Ax, cx, nx, lx, A4, d4, m, ls, rfl, rfl, rfl, by omega, Lib.hid ⟨HNX.out, HMM.out⟩, HNL.out⟩
    case round =>
      clear HNX HMM HNL
      obtain ⟨k, Bx, cx, nx, mx, By, cy, ny, my, rfl, rfl, rfl, hk2, HLEN, hnl⟩ := hrel
      by_cases hlt : k < 2
      · have hkz : (k : Int) < 2 := by omega
        have HNL := Lib.hid hnl
        clear hnl
        obtain ⟨b2, hb2⟩ : ∃ b2 : Bool, b2 = decide (k = 1 ∧ p1 ≤ 200 ∧ q1 ≤ 200) := ⟨_, rfl⟩
        have HBB := Lib.hid hb2
        clear hb2
        obtain ⟨wq, rfl⟩ : ∃ wq, wq = wr := ⟨_, rfl⟩
        go_upto_region 9 with fail
        go_cut [51] (fun s48 wx => s48 = .bool b2 ∧ wq = wx)
        case first =>
          by_cases hi3 : k = 1
          · have hi3z : ((k : Int) == 1) = true := by simp [hi3]
            by_cases hk : p1 ≤ 200
            · have hkz : (p1 : Int) ≤ 200 := by omega
              by_cases hm : q1 ≤ 200
              · have hmz : (q1 : Int) ≤ 200 := by omega
                obtain rfl : b2 = true := by rw [HBB.out]; simp [hi3, hk, hm]
                clear hi3
                go_wp2_with fail
                go_meet
                exact ⟨rfl, rfl⟩
              · have hmz : ¬ (q1 : Int) ≤ 200 := by omega
                obtain rfl : b2 = false := by rw [HBB.out]; simp [hm]
                clear hi3
                go_wp2_with fail
                go_meet
                exact ⟨rfl, rfl⟩
            · have hkz : ¬ (p1 : Int) ≤ 200 := by omega
              obtain rfl : b2 = false := by rw [HBB.out]; simp [hk]
              clear hi3
              go_wp2_with fail
              go_meet
              exact ⟨rfl, rfl⟩
          · have hi3z : ((k : Int) == 1) = false := by simp; omega
            obtain rfl : b2 = false := by rw [HBB.out]; simp [hi3]
            clear hi3
            go_wp2_with fail
            go_meet
            exact ⟨rfl, rfl⟩
        case rest =>
        obtain ⟨rfl, rfl⟩ := hcut
        go_upto_if 51 with fail
        go_cut [10, 11] (fun s t wx => ∃ (Ax : Option Addr) (cx : Nat) (lx : List Nd) (Ay : Option Addr) (cy : Nat) (ly : List Ld), s = .slice Ax lx.length cx ∧ t = .slice Ay ly.length cy ∧ NL w wx g Ax lx Ay ly)
        case first =>
          cases b2
          · go_wp2_with fail
            go_meet
            exact ⟨Bx, cx, mx, By, cy, my, by rw [HLEN.out.1], by rw [HLEN.out.2], HNL.out⟩
          · have HBC : Hid (p1 ≤ 200 ∧ q1 ≤ 200) := Lib.hid (by have := HBB.out; simp at this; exact this.2)
            have HNN : Hid (NL w wq g A1 l1 A2 m1) := Lib.hid ⟨HNL.out.below, HNL.out.tape, fun W k => by
              have B := (HNL.out.step hg1 k).below
              exact (HN1.out.below B).more B.size, fun W k => by
              have B := (HNL.out.step hg1 k).below
              exact (HM1.out.below B).more B.size, HW1.out, HMW.out, by rw [← HP1.out]; have := HBC.out.1; omega, by rw [← HQ1.out]; have := HBC.out.2; omega⟩
            go_wp2_with fail
            go_meet
            exact ⟨A1, c1, l1, A2, c2, m1, by rw [HP1.out], by rw [HQ1.out], HNN.out⟩
        case rest =>
          clear HNL HLEN HBB
          obtain ⟨Ax, cx', lx, Ay, cy', ly, rfl, rfl, hnl⟩ := hcut
          have hsx := encL_small hnl.nw
          have hsy := encM_small hnl.lw
          obtain ⟨n1, hn1⟩ : ∃ n1, n1 = lx.length := ⟨_, rfl⟩
          obtain ⟨n2, hn2⟩ : ∃ n2, n2 = ly.length := ⟨_, rfl⟩
          have HN := Lib.hid hnl
          have HE1 := Lib.hid (fun (W : World) (h : NL w W g Ax lx Ay ly) => h.enc cx')
          have HE2 := Lib.hid (fun (W : World) (h : NL w W g Ax lx Ay ly) => h.renc cx')
          have HE3 := Lib.hid (fun (W : World) (h : NL w W g Ax lx Ay ly) => h.encm cy')
          have HE4 := Lib.hid (fun (W : World) (h : NL w W g Ax lx Ay ly) => h.rencm cy')
          rw [← hn1] at HE1 HE2 ⊢
          rw [← hn2] at HE3 HE4 ⊢
          have HLE := Lib.hid (show n1 = lx.length ∧ n2 = ly.length from ⟨hn1, hn2⟩)
          clear hnl hn1 hn2
          generalize encL lx = L1 at *
          generalize encM ly = L2 at *
          generalize encE lx = E1 at *
          generalize encF ly = E2 at *
          have e1 : (E1 != E1) = false := by simp
          have e2 : (E2 != E2) = false := by simp
          go_wp2_with fail
          refine (HE1.out _ HN.out).mono ?_
          rintro e w5 ⟨R1, r1, d1, rfl, ho1, hb1⟩
          obtain ⟨X, hX⟩ : ∃ X, X = wc.heap.size := ⟨_, rfl⟩
          rw [← hX] at ho1
          have hgX : g < X := by rw [hX]; exact HN.out.tape.lt
          have hX5 : X ≤ w5.heap.size := by rw [hX]; exact hb1.size
          have HN5 := Lib.hid (HN.out.on hg1 hb1)
          have HO1 := Lib.hid ho1
          clear ho1 hb1 HN HE1 hX
          go_wp2_with fail
          refine (HE2.out _ HN5.out).mono ?_
          rintro e w6 ⟨R2, r2, d2, rfl, ho2, hb2⟩
          have hX6 : X ≤ w6.heap.size := Nat.le_trans hX5 hb2.size
          have HN6 := Lib.hid (HN5.out.on hg1 hb2)
          have HO2 := Lib.hid (ho2.less hX5)
          have HO1' := Lib.hid (HO1.out.below hb2)
          clear ho2 hb2 HN5 HE2 HO1
          go_wp2_with fail
          refine (HE3.out _ HN6.out).mono ?_
          rintro e w7 ⟨R3, r3, d3, rfl, ho3, hb3⟩
          have hX7 : X ≤ w7.heap.size := Nat.le_trans hX6 hb3.size
          have HN7 := Lib.hid (HN6.out.on hg1 hb3)
          have HO3 := Lib.hid (ho3.less hX6)
          have HO1 := Lib.hid (HO1'.out.below hb3)
          have HO2' := Lib.hid (HO2.out.below hb3)
          clear ho3 hb3 HN6 HE3 HO1' HO2
          go_wp2_with fail
          refine (HE4.out _ HN7.out).mono ?_
          rintro e w8 ⟨R4, r4, d4, rfl, ho4, hb4⟩
          have HN8 := Lib.hid (HN7.out.on hg1 hb4)
          have ho4' := ho4.less hX7
          have ho1' := HO1.out.below hb4
          have ho2' := HO2'.out.below hb4
          have ho3' := HO3.out.below hb4
          have hs1 := str_own ho1'
          have hs2 := str_own ho2'
          have hs3 := str_own ho3'
          have hs4 := str_own ho4'
          have HD1 := Lib.hid (decodes_own ho2')
          have HO2 := Lib.hid ho2'
          have HO4 := Lib.hid ho4'
          clear ho4 hb4 HN7 HE4 HO1 HO2' HO3 ho1' ho2' ho3' ho4'
          generalize (⟨L1.toArray⟩ : ByteArray) = S1 at *
          generalize (⟨L2.toArray⟩ : ByteArray) = S2 at *
          go_wp2_with fail
          refine (HD1.out).mono ?_
          rintro e w9 ⟨rfl, hb9⟩
          have HN9 := Lib.hid (HN8.out.on hg1 hb9)
          have HO2' := Lib.hid (HO2.out.below hb9)
          have HO4' := Lib.hid (HO4.out.below hb9)
          have HD2 := Lib.hid (decodes_own HO4'.out)
          clear hb9 HN8 HO2 HO4 HD1 hs1 hs2 hs3 hs4
          go_wp2_with fail
          refine (HD2.out).mono ?_
          rintro e wa ⟨rfl, hba⟩
          have HNA := Lib.hid (HN9.out.on hg1 hba)
          have HO2 := Lib.hid (HO2'.out.below hba)
          have HO4 := Lib.hid (HO4'.out.below hba)
          have HG1 := Lib.hid (damage_own HNA.out.tape HO2.out hsx)
          clear hba HN9 HO2' HO4' HD2
          go_wp2_with fail
          refine (HG1.out).mono ?_
          rintro e wb ⟨vb, lb, rfl, hob, hlb, hstb⟩
          obtain ⟨Rb, rb, db, hvb⟩ := hob.shape3
          subst hvb
          have HNB := Lib.hid (HNA.out.step hg1 hstb)
          have HO4' := Lib.hid (HO4.out.step hgX hstb)
          have HD3 := Lib.hid (decodes_own hob)
          clear hob hstb hlb HNA HO2 HO4 HG1
          go_wp2_with fail
          refine (HD3.out).mono ?_
          rintro e wd ⟨rfl, hbd⟩
          have HND := Lib.hid (HNB.out.on hg1 hbd)
          have HO4 := Lib.hid (HO4'.out.below hbd)
          have HG2 := Lib.hid (damage_own HND.out.tape HO4.out hsy)
          clear hbd HNB HO4' HD3
          go_wp2_with fail
          refine (HG2.out).mono ?_
          rintro e we ⟨ve, le, rfl, hoe, hle, hste⟩
          obtain ⟨Re, re, de, hve⟩ := hoe.shape3
          subst hve
          have HNE := Lib.hid (HND.out.step hg1 hste)
          have HD4 := Lib.hid (decodes_own hoe)
          clear hoe hste hle HND HO4 HG2
          go_wp2_with fail
          refine (HD4.out).mono ?_
          rintro e wf ⟨rfl, hbf⟩
          have HNF := Lib.hid (HNE.out.on hg1 hbf)
          clear hbf HNE HD4
          go_wp2_with fail
          exact ⟨⟨k + 1, Ax, cx', n1, lx, Ay, cy', n2, ly, rfl, rfl, by go_num, hlt, HLE, HNF.out⟩, by simp [intOf]; omega⟩
      · have hkz : ¬ (k : Int) < 2 := by omega
        have HB := Lib.hid hnl.below
        have HDB2 := Lib.hid (HDB.out wr hnl.below)
        clear hnl
        by_cases hk : k1 ≤ 5000
        · have hk5 : (k1 : Int) ≤ 5000 := by omega
          go_wp2_with fail
          refine (HDB2.out).mono ?_
          rintro e w9 ⟨rfl, hb9⟩
          have HB9 := Lib.hid (HB.out.trans (hb9.mono HB.out.size))
          clear hb9
          go_wp2_with fail
          refine (HSA.out _).mono ?_
          rintro e wa ⟨rfl, hba⟩
          go_wp2_with fail
          go_ret
          exact ⟨rfl, HB9.out.trans (hba.mono HB9.out.size)⟩
        · have hk5 : (5000 : Int) < (k1 : Int) := by omega
          go_wp2_with fail
          refine (HSA.out _).mono ?_
          rintro e wa ⟨rfl, hba⟩
          go_wp2_with fail
          go_ret
          exact ⟨rfl, HB.out.trans (hba.mono HB.out.size)⟩
end Go.Proofs.YtmhimkojegkalaaDoor
