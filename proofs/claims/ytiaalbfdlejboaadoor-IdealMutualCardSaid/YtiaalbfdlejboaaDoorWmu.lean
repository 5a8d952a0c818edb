/-
  The walk of IdealMutual: from whatever numbers it answers true and only makes memory. Conditions: the arguments can be read; 'letters' is as its initialiser lays it.
-/
import Derived.Test.YtiaalbfdlejboaaDoorKmH
import Derived.Test.YtiaalbfdlejboaaDoorLgJ
import Derived.Deep.DeepCutAuto
import Derived.Deep.CutBlock
namespace Go.Proofs.YtiaalbfdlejboaaDoor
open Go.RowKit

theorem bl_of {a b : ByteArray} {v : Bool} (h : kl a b = v) : Op.bytesLess a.toList b.toList = v := h
theorem ord_lt {a b : ByteArray} (h : kl a b = true) : Op.bytesLess a.toList b.toList = true ∧ Op.bytesLess b.toList a.toList = false ∧ (a.toList == b.toList) = false ∧ (b.toList == a.toList) = false := by
  have h1 : a.toList ≠ b.toList := fun e => by
    have := toList_inj e
    subst this
    rw [kl_irrefl] at h
    cases h
  exact ⟨h, kl_asymm h, by simpa using h1, by simpa using fun e => h1 e.symm⟩
theorem ord_ge {a b : ByteArray} (h : kl a b = false) : Op.bytesLess a.toList b.toList = false ∧ (Op.bytesLess b.toList a.toList = true ∨ (Op.bytesLess b.toList a.toList = false ∧ (a.toList == b.toList) = true ∧ (b.toList == a.toList) = true)) := by
  refine ⟨h, ?_⟩
  cases k : kl b a with
  | true => exact .inl k
  | false =>
    have := kl_tri h k
    subst this
    exact .inr ⟨k, by simp, by simp⟩
/-- What the round of a law knows of the node to the right. -/
def RightS (l : List Nd) (h : Int) (x r : Nd) (is : Bool) : Prop :=
  (is = true ∧ r ∈ l ∧ kl x.key r.key = true ∧ kl r.key x.key = false ∧ h ≤ (cm r.word x.word : Int) ∧ (nbL l r.id h).left = x.id ∧ nbB l r.id h = true ∧ ∀ z ∈ l, kl x.key z.key = true → h ≤ (cm z.word x.word : Int) → kl z.key r.key = false) ∨ (is = false ∧ (nbL l x.id h).right = 0 ∧ ∀ z ∈ l, kl x.key z.key = true → ¬ h ≤ (cm z.word x.word : Int))
theorem rightS {l : List Nd} (hc : chkV l = 0) {h : Int} (h0 : 0 ≤ h) (h16 : h ≤ 16) {x : Nd} (hx : x ∈ l) : RightS l h x (fndV l (nbL l x.id h).right) (decide (plc l (nbL l x.id h).right < l.length)) := by
  rcases right_of hc h0 h16 hx with ⟨r, hr, e, k1, k2, k3, k4⟩ | ⟨e, k⟩
  · left
    rw [e, fnd_self (chkV_zero.1 hc).2.2 hr]
    exact ⟨by simpa using plc_mem hr, hr, k1, kl_asymm k1, k2, k3, (nb_in hc h0 h16 hr).1, k4⟩
  · right
    rw [e]
    exact ⟨by simpa using plc_zero hc, rfl, k⟩

set_option maxRecDepth 100000 in
set_option maxHeartbeats 1600000 in
theorem mutual_walk (A : Option Addr) (n0 cp : Nat) (lv : Int) (w : World) (hL : Lets w) (hnc : n0 ≤ cp) (hc : cp ≤ maxLen) (hN : Nums w w.heap.size A n0) :
    Calls Tryd.prog 7 #[.slice A n0 cp, .int .i64 lv] w (LawP w) := by
  have HSA := Lib.hid sane6_any
  go_enter Tryd.func7, Tryd.ntmps7
  go_wp2_with fail
  refine (new_any A n0 cp _ hnc hc hN).mono ?_
  rintro e w1 ⟨g, hg1, rfl, hTp, hb1⟩
  have hne2 : 0 ≠ g := by have := hL.lt; omega
  have l1 := hL.below hb1
  clear hN hnc hc hL
  go_wp2_with fail
  refine (some_any 9 g w1 (by omega) (by omega) hTp l1 hne2).mono ?_
  rintro e w2 ⟨A2, c2, l, rfl, ho, hl0, hl8, hchk, hst⟩
  have hB2 : Below w.heap.size w w2 := hb1.grown hst.2 hb1.size (fun j e => by have := Option.some.inj e; omega)
  obtain ⟨_, _, er, hnd⟩ := ho.read
  injection er with e1 _ e2
  subst e1 e2
  have HCK := Lib.hid hchk
  obtain ⟨n, hn⟩ : ∃ n, n = l.length := ⟨_, rfl⟩
  have hwd : ∀ x ∈ l, x.word < 4294967296 := fun x hx => (wide_of hchk x hx).2
  have HNB := Lib.hid (fun (W : World) (k : Below w2.heap.size w2 W) (id h : Int) (hi : -9223372036854775808 ≤ id ∧ id ≤ 9223372036854775807) => neighbours_any A2 l c2 id h W ((hnd.below k).more k.size) hwd hi)
  have HFD := Lib.hid (fun (W : World) (k : Below w2.heap.size w2 W) (id : Int) => find_any A2 l c2 id W ((hnd.below k).more k.size) (by omega))
  have HND := Lib.hid hnd
  unfold NbP at HNB
  unfold FndP at HFD
  rw [← hn] at hl8 HNB HFD ⊢
  have HN := Lib.hid hn
  have HB2 := Lib.hid hB2
  clear hst l1 hTp hb1 ho hchk hl0 hn hwd hnd hB2 hne2
  go_wp2_with fail
  refine (mod_any lv 6 w2 (by omega) (by omega)).mono ?_
  rintro e w3 ⟨rfl, rfl⟩
  obtain ⟨h, hh⟩ : ∃ h, h = lv % 6 := ⟨_, rfl⟩
  have h0 : 0 ≤ h := by omega
  have h5 : h ≤ 16 := by omega
  rw [← hh]
  clear hh
  have HRS := Lib.hid (fun (x : Nd) (hx : x ∈ l) => rightS HCK.out h0 h5 hx)
  rw [← HN.out] at HRS
  have HSM := Lib.hid (fun (a b : Nat) (W : World) (ha : a < 4294967296) (hb : b < 4294967296) => rsame_any a b h W ha hb)
  have HWD : Hid (∀ x ∈ l, (-9223372036854775808 ≤ x.id ∧ x.id ≤ 9223372036854775807) ∧ x.word < 4294967296) := Lib.hid (wide_of HCK.out)
  have HNI := Lib.hid (fun (x : Nd) (hx : x ∈ l) => (nb_in HCK.out h0 h5 hx).1)
  go_wp2_with fail
  go_loopw [8] (fun vi wr => ∃ i : Nat, vi = .int .i64 (i : Int) ∧ i ≤ n ∧ Below w2.heap.size w2 wr) (fun vi _ => n - (intOf vi).toNat)
  case atStart => exact ⟨0, rfl, by omega, Below.refl _ _⟩
  case round =>
    obtain ⟨i, rfl, hi, hB⟩ := hrel
    by_cases hlt : i < n
    · have i2 : i < l.length := by rw [← HN.out]; exact hlt
      obtain ⟨b, o, hA2, hb, f1, f2, f3⟩ := HND.out.at_ i2
      subst hA2
      have hxl := List.getElem_mem i2
      have hxw := HWD.out _ hxl
      have HR := Lib.hid (HRS.out _ hxl)
      have HB0 := Lib.hid (HNI.out _ hxl)
      replace f1 := (hB.cell (p := ⟨b, o + i * 3, none⟩) hb).trans f1
      replace f2 := (hB.cell (p := ⟨b, o + i * 3 + 1, none⟩) hb).trans f2
      replace f3 := (hB.cell (p := ⟨b, o + i * 3 + 2, none⟩) hb).trans f3
      generalize l[i] = x at *
      obtain ⟨xi, xk, xw⟩ := x
      have i0 : (0 : Int) ≤ (i : Int) := by omega
      have i1 : (i : Int) < (n : Int) := by omega
      have HF : Hid (∀ W, Below wr.heap.size wr W → W.cell? ⟨b, o + i * 3, none⟩ = some (.int .i64 xi) ∧ W.cell? ⟨b, o + i * 3 + 1, none⟩ = some (.string xk) ∧ W.cell? ⟨b, o + i * 3 + 2, none⟩ = some (.int .u32 (xw : Int))) := Lib.hid fun W k => by
        have hb2 : b < wr.heap.size := Nat.lt_of_lt_of_le hb hB.size
        exact ⟨(k.cell (p := ⟨b, o + i * 3, none⟩) hb2).trans f1, (k.cell (p := ⟨b, o + i * 3 + 1, none⟩) hb2).trans f2, (k.cell (p := ⟨b, o + i * 3 + 2, none⟩) hb2).trans f3⟩
      have HN1 := Lib.hid (HNB.out wr hB xi h hxw.1)
      have HRX := HR
      obtain ⟨Y, hY⟩ : ∃ Y, Y = nbL l xi h := ⟨_, rfl⟩
      simp only at HR HB0
      rw [HB0.out, ← hY] at HN1
      rw [← hY] at HR
      have HYE := Lib.hid hY
      have HBW := Lib.hid hB
      clear hY hB f2 f3 HRX hxl
      obtain ⟨yl, yr⟩ := Y
      go_wp2_with fail
      refine (HN1.out).mono ?_
      rintro e w4 ⟨rfl, hb4⟩
      have hk4 := hb4.trans (((Below.refl w4.heap.size w4).alloc (Nat.le_refl _) (.cells #[.int .i64 yl, .int .i64 yr] 53)).mono hb4.size)
      have HX4 := Lib.hid (Has.new w4 53 #[.int .i64 yl, .int .i64 yr])
      have HK4 := Lib.hid hk4
      have y1 := HX4.out.cell 1
      have HFD4 := Lib.hid (HFD.out _ (HBW.out.trans (hk4.mono HBW.out.size)) yr)
      clear hb4 hk4 HN1 f1
      generalize fndV l yr = R at *
      obtain ⟨ri, rk, rw_⟩ := R
      generalize decide (plc l yr < n) = is at *
      go_wp2_with fail
      refine (HFD4.out).mono ?_
      rintro e w5 ⟨rfl, hb5⟩
      have hk5 := (HK4.out.trans (hb5.mono HK4.out.size))
      have hk6 := hk5.trans (((Below.refl w5.heap.size w5).alloc (Nat.le_refl _) (.cells #[.int .i64 ri, .string rk, .int .u32 (rw_ : Int)] 64)).mono hk5.size)
      have HX6 := Lib.hid ((HX4.out.below hb5).alloc (.cells #[.int .i64 ri, .string rk, .int .u32 (rw_ : Int)] 64))
      have HR6 := Lib.hid (Has.new w5 64 #[.int .i64 ri, .string rk, .int .u32 (rw_ : Int)])
      have HK6 := Lib.hid hk6
      have y1 := HX6.out.cell 1
      have hY5 : w4.heap.size < w5.heap.size := by have := HX4.out.lt; have := hb5.size; omega
      clear hb5 hk5 hk6 HFD4 HX4 HK4
      obtain ⟨G4, hG4⟩ : ∃ G4, G4 = w4.heap.size := ⟨_, rfl⟩
      rw [← hG4] at HX6 y1 hY5 ⊢
      clear hG4
      obtain ⟨wq, rfl⟩ : ∃ wq, wq = wr := ⟨_, rfl⟩
      cases is with
      | false =>
        have HRR : Hid (yr = 0 ∧ ∀ z ∈ l, kl xk z.key = true → ¬ h ≤ (cm z.word xw : Int)) := Lib.hid (by
          rcases HR.out with ⟨e, _⟩ | ⟨_, e, k⟩
          · cases e
          · exact ⟨by rw [← HYE.out] at e; exact e, k⟩)
        obtain rfl : yr = 0 := HRR.out.1
        clear HR HR6
        go_wp2_with fail
        go_loopw [13] (fun vj wr => ∃ j : Nat, vj = .int .i64 (j : Int) ∧ j ≤ n ∧ Below wq.heap.size wq wr) (fun vj _ => n - (intOf vj).toNat)
        case atStart => exact ⟨0, rfl, by omega, HK6.out⟩
        case round =>
          clear y1 HX6
          obtain ⟨j, rfl, hj, hB⟩ := hrel
          by_cases hltj : j < n
          · have j2 : j < l.length := by rw [← HN.out]; exact hltj
            obtain ⟨_, _, eA, hbz, z1, z2, z3⟩ := HND.out.at_ j2
            injection eA with eA
            injection eA with e1 e2
            subst e1 e2
            have hzl := List.getElem_mem j2
            have hzw := HWD.out _ hzl
            have HZ := Lib.hid (HRR.out.2 _ hzl)
            have hBB := HBW.out.trans (hB.mono HBW.out.size)
            replace z2 := (hBB.cell (p := ⟨b, o + j * 3 + 1, none⟩) hbz).trans z2
            replace z3 := (hBB.cell (p := ⟨b, o + j * 3 + 2, none⟩) hbz).trans z3
            generalize l[j] = z at *
            obtain ⟨zi, zk, zw⟩ := z
            obtain ⟨f1, f2, f3⟩ := HF.out wr hB
            have j0 : (0 : Int) ≤ (j : Int) := by omega
            have j1 : (j : Int) < (n : Int) := by omega
            have hbd : Below wq.heap.size wq wr.drew := hB.drew
            cases hkl : kl xk zk with
            | false =>
              clear hBB z1 hzl
              obtain ⟨_, t1 | ⟨t1, _, t2⟩⟩ := ord_ge hkl
              · go_wp2_with fail
                go_quiet (fail)
                go_wp2_with fail
                exact ⟨⟨j + 1, by go_num, hltj, ⟨hB.os, hB.tape, hB.output, hB.size, hB.block⟩⟩, by simp [intOf]; omega⟩
              · go_wp2_with fail
                go_quiet (fail)
                go_wp2_with fail
                exact ⟨⟨j + 1, by go_num, hltj, ⟨hB.os, hB.tape, hB.output, hB.size, hB.block⟩⟩, by simp [intOf]; omega⟩
            | true =>
              obtain ⟨_, t1, _, t2⟩ := ord_lt hkl
              have HS2 := Lib.hid (fun (W : World) => HSM.out zw xw W hzw.2 hxw.2)
              rw [show decide (h ≤ (cm zw xw : Int)) = false from by simpa using HZ.out hkl] at HS2
              clear hBB z1 hzl
              go_wp2_with fail
              go_quiet ((go_at_call 45; exact quiet_left (HS2.out _)))
              go_wp2_with fail
              exact ⟨⟨j + 1, by go_num, hltj, ⟨hB.os, hB.tape, hB.output, hB.size, hB.block⟩⟩, by simp [intOf]; omega⟩
          · go_wp2_with fail
            exact ⟨⟨i + 1, by go_num, hlt, HBW.out.trans (hB.mono HBW.out.size)⟩, by simp [intOf]; omega⟩
      | true =>
        have HRR : Hid (((⟨ri, rk, rw_⟩ : Nd) ∈ l ∧ kl xk rk = true ∧ h ≤ (cm rw_ xw : Int)) ∧ ((nbL l ri h).left = xi ∧ nbB l ri h = true) ∧ ∀ z ∈ l, kl xk z.key = true → h ≤ (cm z.word xw : Int) → kl z.key rk = false) := Lib.hid (by
          rcases HR.out with ⟨_, k1, k2, k3, k4, k5, k6, k7⟩ | ⟨e, _⟩
          · exact ⟨⟨k1, k2, k4⟩, ⟨k5, k6⟩, k7⟩
          · cases e)
        clear HR
        go_upto_region 13 with fail
        generalize w5.alloc (.cells #[.int .i64 ri, .string rk, .int .u32 (rw_ : Int)] 64) = w6 at *
        clear y1 hY5
        go_wp2_with fail
        go_loopw [13] (fun vj wr => ∃ j : Nat, vj = .int .i64 (j : Int) ∧ j ≤ n ∧ Below w6.heap.size w6 wr) (fun vj _ => n - (intOf vj).toNat)
        case atStart => exact ⟨0, rfl, by omega, Below.refl _ _⟩
        case round =>
          obtain ⟨j, rfl, hj, hB⟩ := hrel
          have hB6 := HK6.out.trans (hB.mono HK6.out.size)
          by_cases hltj : j < n
          · have j2 : j < l.length := by rw [← HN.out]; exact hltj
            obtain ⟨_, _, eA, hbz, z1, z2, z3⟩ := HND.out.at_ j2
            injection eA with eA
            injection eA with e1 e2
            subst e1 e2
            have hzl := List.getElem_mem j2
            have hzw := HWD.out _ hzl
            have HZ := Lib.hid (HRR.out.2.2 _ hzl)
            have hBB := HBW.out.trans (hB6.mono HBW.out.size)
            replace z2 := (hBB.cell (p := ⟨b, o + j * 3 + 1, none⟩) hbz).trans z2
            replace z3 := (hBB.cell (p := ⟨b, o + j * 3 + 2, none⟩) hbz).trans z3
            generalize l[j] = z at *
            obtain ⟨zi, zk, zw⟩ := z
            obtain ⟨f1, f2, f3⟩ := HF.out wr hB6
            have r1 := (HR6.out.below hB).cell 1
            have j0 : (0 : Int) ≤ (j : Int) := by omega
            have j1 : (j : Int) < (n : Int) := by omega
            cases hkl : kl xk zk with
            | false =>
              clear hBB z1 hzl
              obtain ⟨_, t1 | ⟨t1, _, t2⟩⟩ := ord_ge hkl
              · go_wp2_with fail
                go_quiet (fail)
                go_wp2_with fail
                exact ⟨⟨j + 1, by go_num, hltj, ⟨hB.os, hB.tape, hB.output, hB.size, hB.block⟩⟩, by simp [intOf]; omega⟩
              · go_wp2_with fail
                go_quiet (fail)
                go_wp2_with fail
                exact ⟨⟨j + 1, by go_num, hltj, ⟨hB.os, hB.tape, hB.output, hB.size, hB.block⟩⟩, by simp [intOf]; omega⟩
            | true =>
              obtain ⟨_, t1, _, t2⟩ := ord_lt hkl
              have HS2 := Lib.hid (fun (W : World) => HSM.out zw xw W hzw.2 hxw.2)
              by_cases hcm : h ≤ (cm zw xw : Int)
              · rw [show decide (h ≤ (cm zw xw : Int)) = true from by simpa using hcm] at HS2
                have t3 : Op.bytesLess zk.toList rk.toList = false := HZ.out hkl hcm
                clear hBB z1 hzl hcm
                go_wp2_with fail
                go_quiet ((go_at_call 45; exact quiet_left (HS2.out _)))
                go_wp2_with fail
                exact ⟨⟨j + 1, by go_num, hltj, ⟨hB.os, hB.tape, hB.output, hB.size, hB.block⟩⟩, by simp [intOf]; omega⟩
              · rw [show decide (h ≤ (cm zw xw : Int)) = false from by simpa using hcm] at HS2
                clear hBB z1 hzl hcm
                go_wp2_with fail
                go_quiet ((go_at_call 45; exact quiet_left (HS2.out _)))
                go_wp2_with fail
                exact ⟨⟨j + 1, by go_num, hltj, ⟨hB.os, hB.tape, hB.output, hB.size, hB.block⟩⟩, by simp [intOf]; omega⟩
          · have hrw := HWD.out _ HRR.out.1.1
            have hBQ := HBW.out.trans (hB6.mono HBW.out.size)
            have HN2 := Lib.hid (HNB.out wr hBQ ri h hrw.1)
            obtain ⟨Z, hZ⟩ : ∃ Z, Z = nbL l ri h := ⟨_, rfl⟩
            rw [HRR.out.2.1.2, ← hZ] at HN2
            have hZl : Z.left = xi := by rw [hZ]; exact HRR.out.2.1.1
            have HO := Lib.hid (ord_lt HRR.out.1.2.1)
            have HS2 := Lib.hid (fun (W : World) => HSM.out rw_ xw W hrw.2 hxw.2)
            rw [show decide (h ≤ (cm rw_ xw : Int)) = true from by simpa using HRR.out.1.2.2] at HS2
            have HR7 := Lib.hid (HR6.out.below hB)
            have r0 := HR7.out.cell 0
            obtain ⟨zl, zr⟩ := Z
            obtain rfl : zl = xi := hZl
            have HB6 := Lib.hid hB6
            clear hZ hB6 hB HR6 hBQ
            go_wp2_with fail
            refine (HN2.out).mono ?_
            rintro e w7 ⟨rfl, hb7⟩
            have hk7 := hb7.trans (((Below.refl w7.heap.size w7).alloc (Nat.le_refl _) (.cells #[.int .i64 zl, .int .i64 zr] 53)).mono hb7.size)
            have hY7 := Has.new w7 53 #[.int .i64 zl, .int .i64 zr]
            have y0 := hY7.cell 0
            have hR8 := HR7.out.below hk7
            have r1 := hR8.cell 1
            have r2 := hR8.cell 2
            have hB8 := HB6.out.trans (hk7.mono HB6.out.size)
            obtain ⟨f1, f2, f3⟩ := HF.out _ hB8
            obtain ⟨_, t1, _, t2⟩ := HO.out
            have hne : ((zl : Int) != zl) = false := by simp
            have HB8 := Lib.hid hB8
            clear hb7 hk7 hY7 hR8 hB8 HN2 HR7 HB6 r0 HO
            go_upto_region 20 with fail
            generalize w7.alloc (.cells #[.int .i64 zl, .int .i64 zr] 53) = w8 at *
            go_wp2_with fail
            go_quiet ((go_at_call 45; exact quiet_left (HS2.out _)))
            go_wp2_with fail
            have hBF := HBW.out.trans (HB8.out.mono HBW.out.size)
            exact ⟨⟨i + 1, by go_num, hlt, ⟨hBF.os, hBF.tape, hBF.output, hBF.size, hBF.block⟩⟩, by simp [intOf]; omega⟩
    · have HS9 := Lib.hid (HSA.out wr)
      go_wp2_with fail
      refine (HS9.out).mono ?_
      rintro e w9 ⟨rfl, hb9⟩
      go_wp2_with fail
      go_ret
      have B9 := HB2.out.trans (hB.mono HB2.out.size)
      exact ⟨rfl, B9.trans (hb9.mono B9.size)⟩
end Go.Proofs.YtiaalbfdlejboaaDoor
