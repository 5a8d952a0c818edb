/-
  The walk of SearchBounds: from whatever numbers it answers true and only makes memory. Conditions: the arguments can be read; 'letters' and the table of trailing zeros are as their initialisers lay them.
-/
import Derived.Test.YtdeamjimjcojhaaDoorLuN
import Derived.Test.YtdeamjimjcojhaaDoorLnC
import Derived.Test.YtdeamjimjcojhaaDoorLgJ
import Derived.Test.YtdeamjimjcojhaaDoorKhV
import Derived.Test.YtdeamjimjcojhaaDoorKhU
import Derived.Test.YtdeamjimjcojhaaDoorLdX
import Derived.Deep.DeepCutAuto
import Derived.Deep.CutBlock
import Derived.Deep.RegionHeld3
import Derived.BigRegion
namespace Go.Proofs.YtdeamjimjcojhaaDoor
open Go.RowKit


def fivK (l : List Nd) (i : Nat) : List Nd := (l.take i).map (fun x => (⟨x.id, x.key, 5⟩ : Nd)) ++ l.drop i
theorem fivK_len (l : List Nd) (i : Nat) : (fivK l i).length = l.length := by unfold fivK; simp; omega
theorem fivK_at {l : List Nd} {i : Nat} (h : i < l.length) (h2 : i < (fivK l i).length) : (fivK l i)[i] = l[i] := by
  have h3 : (fivK l i)[i]? = some l[i] := by
    unfold fivK
    have hl : ((l.take i).map fun x => (⟨x.id, x.key, 5⟩ : Nd)).length = i := by simp; omega
    rw [List.getElem?_append_right (by omega), hl, Nat.sub_self, List.drop_eq_getElem_cons h]
    rfl
  rw [List.getElem?_eq_getElem h2] at h3
  exact Option.some.inj h3
theorem fivK_set {l : List Nd} {i : Nat} (h : i < l.length) : (fivK l i).set i ⟨l[i].id, l[i].key, 5⟩ = fivK l (i + 1) := by
  unfold fivK
  have hl : ((l.take i).map fun x => (⟨x.id, x.key, 5⟩ : Nd)).length = i := by simp; omega
  rw [List.set_append_right _ _ (by omega), hl, Nat.sub_self, List.drop_eq_getElem_cons h, List.set_cons_zero, List.take_succ_eq_append_getElem h, List.map_append]
  simp
theorem fivK_all {l : List Nd} {i : Nat} (h : l.length ≤ i) : fivK l i = fivV l := by
  unfold fivK fivV
  rw [List.take_of_length_le h, List.drop_eq_nil_of_le h, List.append_nil]
set_option maxRecDepth 100000 in
set_option maxHeartbeats 3200000 in
theorem bounds_walk (A : Option Addr) (n0 cp : Nat) (turn : Int) (w : World) (hL : Lets w) (hT : Deb w) (hnc : n0 ≤ cp) (hc : cp ≤ maxLen) (hN : Nums w w.heap.size A n0) :
    Calls Tryd.prog 8 #[.slice A n0 cp, .int .i64 turn] w (LawP w) := by
  have HSA := Lib.hid (fun (W : World) (j : Below w.heap.size w W) => sane8_any W (hT.below j))
  have HDB := Lib.hid (fun (W : World) (j : Below w.heap.size w W) => hT.below j)
  obtain ⟨inf, hif, hif1, hif2, hif3⟩ := infoN_parts
  go_enter Tryd.func8, Tryd.ntmps8
  go_wp2_with fail
  refine (new_any A n0 cp _ hnc hc hN).mono ?_
  rintro e w1 ⟨g, hg1, rfl, hTp, hb1⟩
  have hne2 : 0 ≠ g := by have := hL.lt; omega
  have l1 := hL.below hb1
  clear hN hnc hc hL hT
  go_wp2_with fail
  refine (some_any 9 g w1 (by omega) (by omega) hTp l1 hne2).mono ?_
  rintro e w2 ⟨A2, c2, l, rfl, ho, hl0, hl8, hchk, hst⟩
  have hB2 : Below w.heap.size w w2 := hb1.grown hst.2 hb1.size (fun j e => by have := Option.some.inj e; omega)
  have hTp2 := hst.1
  have hg2 : g < w1.heap.size := hTp.lt
  obtain ⟨G, c, er, hGb, hGl, hcap, hcap2, hnd⟩ := ho.open_ hl0
  injection er with e1 _ e2
  subst e1 e2
  have hA2 : G ≠ g := by omega
  have HCK := Lib.hid hchk
  have hln1 : 1 ≤ l.length := List.length_pos_iff.2 hl0
  obtain ⟨n, hn⟩ : ∃ n, n = l.length := ⟨_, rfl⟩
  rw [← hn] at hl8 hln1 hcap ⊢
  have HN := Lib.hid hn
  clear hst l1 hTp hb1 ho hchk hl0 hn
  unfold maxLen at hcap2
  go_wp2_with fail
  refine (mod_any turn n w2 (by omega) (by omega)).mono ?_
  rintro e w3 ⟨rfl, rfl⟩
  obtain ⟨q, hq⟩ : ∃ q : Nat, (q : Int) = turn % n := ⟨(turn % n).toNat, by have := Int.emod_nonneg turn (show (n : Int) ≠ 0 by omega); omega⟩
  have hqn : q < n := by have := Int.emod_lt_of_pos turn (show (0 : Int) < n by omega); omega
  rw [← hq]
  clear hq
  go_wp2_with fail
  refine (next_any g n w2 hTp2 (by omega)).mono ?_
  rintro e w4 ⟨r2, s0, s1, rfl, hst4⟩
  obtain ⟨j, rfl⟩ : ∃ m : Nat, r2 = (m : Int) := ⟨r2.toNat, by omega⟩
  have hj : j < n := by omega
  have j2 : j < l.length := by rw [← HN.out]; exact hj
  have hnd4 := nds_step hnd (fun b o e => by injection e with e; injection e with e1 _; omega) hst4
  obtain ⟨b, o, eA, hbl, f1, f2, f3⟩ := hnd4.at_ j2
  injection eA with eA
  injection eA with e1 e2 _
  subst e1 e2
  have hxl := List.getElem_mem j2
  obtain ⟨x, hx⟩ : ∃ x, x = l[j] := ⟨_, rfl⟩
  rw [← hx] at f1 f2 f3 hxl
  have HXL := Lib.hid hxl
  have HND4 := Lib.hid hnd4
  have HB4 := Lib.hid (hB2.grown hst4.2 hB2.size (fun jj e => by have := Option.some.inj e; omega))
  have k0 : (0 : Int) ≤ (j : Int) := by omega
  have k1 : (j : Int) < (n : Int) := by omega
  obtain ⟨xi, xk, xw⟩ := x
  clear hxl hx j2 hst4 hnd hnd4 hB2 hTp2 s0 s1
  simp only [Nat.zero_add] at f1 f2 f3
  have hbX := (Below.refl w4.heap.size w4).alloc (Nat.le_refl _) (.cells #[.int .i64 xi, .string xk, .int .u32 (xw : Int)] 51)
  have HX5 := Lib.hid (Has.new w4 51 #[.int .i64 xi, .string xk, .int .u32 (xw : Int)])
  have HND5 := Lib.hid ((HND4.out.below hbX).more hbX.size)
  have HB5 := Lib.hid (HB4.out.trans (hbX.mono HB4.out.size))
  obtain ⟨W5, hW5⟩ : ∃ W : World, W = w4.alloc (.cells #[.int .i64 xi, .string xk, .int .u32 (xw : Int)] 51) := ⟨_, rfl⟩
  obtain ⟨X, hX⟩ : ∃ X, X = w4.heap.size := ⟨_, rfl⟩
  rw [← hX] at HX5
  rw [← hW5] at HX5 HND5 HB5
  clear HB4 HND4 hbX
  go_upto_region 5 with fail
  rw [← hW5, ← hX]
  clear hW5 hX f1 f2 f3 hbl hGb hGl
  have hq0 : (0 : Int) ≤ (q : Int) := by omega
  have hq1 : (q : Int) ≤ (n : Int) := by omega
  have hq2 : (q : Int) ≤ (c2 : Int) := by omega
  have hq3 : (n : Int) ≤ (c2 : Int) := by omega
  have hq4 : ¬ ((n : Int) < (q : Int)) := by omega
  have hcq : ¬ c2 = q := by omega
  have HM1 := Lib.hid (HND5.out.cut q)
  have HM2 := Lib.hid (HND5.out.take q)
  have HQ1 : Hid ((l.drop q).length = n - q) := Lib.hid (by rw [List.length_drop, ← HN.out])
  have HQ2 : Hid ((l.take q).length = q) := Lib.hid (by rw [List.length_take, ← HN.out]; omega)
  have hbe := ((Below.refl W5.heap.size W5).alloc (Nat.le_refl _) (.cells #[] 51)).drew
  have hEm : OwnN (W5.alloc (.cells #[] 51)).drew W5.heap.size (.slice (some ⟨W5.heap.size, 0, none⟩) 0 0) [] := OwnN.empty W5
  have h9 := HM1.out.below hbe
  have q1 : 0 + (n - q) ≤ 1000000 := by omega
  have q2 : W5.heap.size ≤ (World.drew (World.alloc W5 (.cells #[] 51))).heap.size := hbe.size
  have q3 : ([] ++ l.drop q).length + q ≤ 1000000 := by rw [List.nil_append, HQ1.out]; omega
  go_region_held3 (fun w' => Below W5.heap.size W5 w') (first | with_reducible exact hb10 | with_reducible exact hb9 | with_reducible exact hbe | with_reducible exact (Below.refl _ _).drew | with_reducible assumption) (first | (refine step_pushNs (w := World.drew (World.alloc W5 (.cells #[] 51))) (o := ⟨some 34, _, _, _, _, _⟩) rfl (.tmp 30) (.tmp 33) 23 (by rfl) W5.heap.size inf Tryd.underlying23 hif hif1 hif2 hif3 (.slice (some ⟨W5.heap.size, 0, none⟩) 0 0) [] (by simp [Act.eval]) hEm W5.heap.size (some ⟨G, q * 3, none⟩) (l.drop q) (n - q) (c2 - q) HQ1.out (by simp [Act.eval]) h9 q1 q2 ?_; intro v1 wa ho1 hba; have hb9 := hbe.trans hba) | (refine step_pushNs (w := wa) (o := ⟨some 38, _, _, _, _, _⟩) rfl (.tmp 34) (.tmp 37) 23 (by rfl) W5.heap.size inf Tryd.underlying23 hif hif1 hif2 hif3 v1 ([] ++ l.drop q) (by simp [Act.eval]) ho1 W5.heap.size (some ⟨G, 0, none⟩) (l.take q) q c2 HQ2.out (by simp [Act.eval]) (HM2.out.below hb9) q3 hb9.size ?_; intro v2 wb ho2 hbb; have hb10 := hb9.trans hbb))
  all_goals
    obtain ⟨A3, c3, rfl, hr3⟩ := ho2.read
    obtain ⟨m, hm⟩ : ∃ m, m = [] ++ l.drop q ++ l.take q := ⟨_, rfl⟩
    rw [← hm] at ho2 hr3 ⊢
    have hmn : m.length = n := by rw [hm, List.nil_append, List.length_append, HQ1.out, HQ2.out]; omega
    have hpm : m.Perm l := by
      rw [hm, List.nil_append]
      refine List.perm_append_comm.trans ?_
      rw [List.take_append_drop]
    have HMC := Lib.hid (chkV_perm hpm.symm HCK.out)
    have HMB := Lib.hid (bnd_perm hpm HCK.out xi)
    have HMN := Lib.hid hmn
    rw [hmn]
    have HR3 := Lib.hid hr3
    have HND6 := Lib.hid ((HND5.out.below hb10).more hb10.size)
    have HX6 := Lib.hid (HX5.out.below hb10)
    have HB6 := Lib.hid (HB5.out.trans (hb10.mono HB5.out.size))
    clear hm hpm hmn ho1 ho2 hba hbb hb9 hb10 hbe hEm h9 q1 q2 q3 HM1 HM2 HQ1 HQ2 HND5 HX5 HB5 hr3
    have hbE := (Below.refl wb.heap.size wb).alloc (Nat.le_refl _) (.cells #[] 51)
    have HEm : Hid (OwnN (wb.alloc (.cells #[] 51)) wb.heap.size (.slice (some ⟨wb.heap.size, 0, none⟩) 0 0) []) := Lib.hid (OwnN.empty wb)
    have HNE := Lib.hid (HND6.out.below hbE)
    have HBE := Lib.hid hbE
    have q4 : ([] : List Nd).length + n ≤ 1000000 := by simp; omega
    have q5 : wb.heap.size ≤ (wb.alloc (.cells #[] 51)).heap.size := hbE.size
    clear hbE
    go_wp2_with (at_builtin; refine wpList_pushNs rfl _ _ 23 rfl wb.heap.size inf Tryd.underlying23 hif hif1 hif2 hif3 (.slice (some ⟨wb.heap.size, 0, none⟩) 0 0) [] rfl HEm.out wb.heap.size (some ⟨G, 0, none⟩) l n c2 HN.out.symm rfl HNE.out q4 q5 ?_; intro v7 w7 ho7 hb7; have HO7 := Lib.hid ho7; have HB7 := Lib.hid (HBE.out.trans hb7); clear ho7 hb7)
    have hO7 := HO7.out
    rw [List.nil_append] at hO7
    have hl0' : l ≠ [] := fun e => by have := HN.out; rw [e] at this; simp at this; omega
    obtain ⟨G7, cap7, pad, hv7, hG7, hH7, hback⟩ := hO7.row hl0'
    rw [← HN.out] at hv7
    subst hv7
    have HBK := Lib.hid (fun (W : World) (mm : List Nd) (h : mm.length = l.length) (hh : Has W G7 51 (flatN mm ++ pad).toArray) => hback W mm h hh)
    have HH7 := Lib.hid hH7
    have HFI := Lib.hid (fun (i : Nat) => fivK_len l i)
    clear hO7 HO7 hback hH7 HEm HNE HBE q4 q5
    go_wp2_with fail
    go_loopw [11] (fun vi wr => ∃ i : Nat, vi = .int .i64 (i : Int) ∧ i ≤ n ∧ Below wb.heap.size wb wr ∧ Hid (Has wr G7 51 (flatN (fivK l i) ++ pad).toArray)) (fun vi _ => n - (intOf vi).toNat)
    case atStart => exact ⟨0, rfl, by omega, HB7.out, Lib.hid (by unfold fivK; simpa using HH7.out)⟩
    case round =>
      clear HH7 HB7
      obtain ⟨i, rfl, hi, hB, HH⟩ := hrel
      by_cases hlt : i < n
      · have i2 : i < l.length := by rw [← HN.out]; exact hlt
        obtain ⟨_, _, er, hrd⟩ := (HBK.out wr (fivK l i) (HFI.out i) HH.out).read
        injection er with e1 e3 e2
        clear e3
        subst e1 e2
        obtain ⟨_, _, eA, _, -, -, f3⟩ := hrd.at_ (i := i) (by rw [HFI.out]; exact i2)
        injection eA with eA
        injection eA with e1 e2 _
        subst e1 e2
        rw [Nat.zero_add] at f3
        replace f3 : ∃ v, wr.cell? ⟨G7, i * 3 + 2, none⟩ = some v := ⟨_, f3⟩
        obtain ⟨v3, f3⟩ := f3
        have zf := fun o => HH.out.frozen o
        have HNX : Hid ((flatN (fivK l i) ++ pad).set (i * 3 + 2) (.int .u32 5) = flatN (fivK l (i + 1)) ++ pad) := Lib.hid (by
          have h5 := flatN_set2 (fivK l i) pad i (by rw [HFI.out]; exact i2) 5
          rw [fivK_at i2, fivK_set i2] at h5
          exact h5)
        have i0 : (0 : Int) ≤ (i : Int) := by omega
        have i1 : (i : Int) < (n : Int) := by omega
        have HBR := Lib.hid hB
        clear hrd hB i2
        go_wp2_with fail
        refine ⟨⟨i + 1, by go_num, hlt, HBR.out.setCell hG7 _, Lib.hid ?_⟩, by simp [intOf]; try omega⟩
        have h6 := HH.out.set_ (i * 3 + 2) (.int .u32 5)
        rw [List.setIfInBounds_toArray, HNX.out] at h6
        exact h6
      · have ein : i = n := by omega
        subst ein
        have HHF := HH.out
        rw [fivK_all (by rw [← HN.out]; exact Nat.le_refl _)] at HHF
        have hfl : (fivV l).length = l.length := by unfold fivV; rw [List.length_map]
        obtain ⟨_, _, er, hrd⟩ := (HBK.out wr (fivV l) hfl HHF).read
        injection er with e1 e3 e2
        clear e3
        subst e1 e2
        obtain ⟨hrk, hbf⟩ := bnd_five HCK.out HXL.out
        obtain ⟨hb1, hb2⟩ := bnd_le HCK.out HXL.out
        simp only at hrk hbf hb1 hb2
        have hcf := fiv_chk HCK.out
        have HRKV := Lib.hid (fun (W : World) (k : Below wr.heap.size wr W) => rank_gen (some ⟨G7, 0, none⟩) (fivV l) cap7 xi W ((hrd.below k).more k.size) (fun x hx => (wide_of hcf x hx).2))
        have HB8 := Lib.hid (HB6.out.trans (hB.mono HB6.out.size))
        have HBNF := Lib.hid (fun (W : World) (k : Below wr.heap.size wr W) => bndK_any (some ⟨G7, 0, none⟩) (fivV l) cap7 xi W ((hrd.below k).more k.size) (fun x hx => (wide_of hcf x hx).2) (HDB.out W (HB8.out.trans (k.mono HB8.out.size))))
        have hnl := (HND6.out.below hB).more hB.size
        have HBNL := Lib.hid (fun (W : World) (k : Below wr.heap.size wr W) => bndK_any (some ⟨G, 0, none⟩) l c2 xi W ((hnl.below k).more k.size) (fun x hx => (wide_of HCK.out x hx).2) (HDB.out W (HB8.out.trans (k.mono HB8.out.size))))
        have hnm := (HR3.out.below hB).more hB.size
        have HBNM := Lib.hid (fun (W : World) (k : Below wr.heap.size wr W) => bndK_any A3 m c3 xi W ((hnm.below k).more k.size) (fun x hx => (wide_of HMC.out x hx).2) (HDB.out W (HB8.out.trans (k.mono HB8.out.size))))
        have HX8 := Lib.hid (HX6.out.below hB)
        rw [hfl, ← HN.out] at HRKV HBNF
        rw [← HN.out] at HBNL hb2
        rw [HMN.out, HMB.out] at HBNM
        rw [hrk] at HRKV
        have hrl : rkN (fivV l) xi < i := by
          have h7 : rkN (fivV l) xi = plc (srt (fivV l)) xi := by unfold rkN; rw [if_pos hrk]
          have h8 : plc (srt (fivV l)) xi < (srt (fivV l)).length := by
            unfold rkB at hrk
            simp at hrk
            exact hrk.2
          rw [(srt_srt _).1.length_eq, hfl, ← HN.out] at h8
          omega
        rw [← HN.out] at hbf
        generalize rkN (fivV l) xi = rk at *
        generalize hbn : bndR (fivV l) xi = bf at *
        generalize bndR l xi = bl at *
        have HBF : Hid (bf = 1 + max rk (i - 1 - rk)) := Lib.hid hbf
        obtain ⟨p, hp⟩ : ∃ p : Nat, p = i - 1 - rk := ⟨_, rfl⟩
        obtain ⟨n1, hn1⟩ : ∃ p : Nat, p = i - 1 := ⟨_, rfl⟩
        have e1 : IntKind.i64.wrap ((i : Int) - 1) = (n1 : Int) := by rw [IntWalk.i64_in _ (by omega)]; omega
        have e2 : IntKind.i64.wrap ((n1 : Int) - (rk : Int)) = (p : Int) := by rw [IntWalk.i64_in _ (by omega)]; omega
        have e3 : (1 : Int) ≤ (bl : Int) := by omega
        have e4 : (bl : Int) ≤ (i : Int) := by omega
        have e5 : ((bl : Int) == (bl : Int)) = true := by simp
        have e6 : ((bf : Int) == (bf : Int)) = true := by simp
        have i1 : ¬ (i : Int) < (i : Int) := by omega
        have HCS : Hid ((rk < p ∧ wrap64 (1 + (p : Int)) = (bf : Int)) ∨ (¬ rk < p ∧ wrap64 (1 + (rk : Int)) = (bf : Int))) := Lib.hid (by
          rcases Nat.lt_or_ge rk p with h | h
          · left
            refine ⟨h, ?_⟩
            rw [IntWalk.wrap64_in _ (by omega)]
            omega
          · right
            refine ⟨by omega, ?_⟩
            rw [IntWalk.wrap64_in _ (by omega)]
            omega)
        have x0 := HX8.out.cell 0
        clear hrd hB HHF hfl hbf hb1 hb2 hcf hnl hnm hrl hbn hp hn1 hrk HBK HH HFI HBF HND6 HR3 HX6 HB6 HMB HMC HCK HXL HMN HDB
        go_wp2_with fail
        refine (HRKV.out wr (Below.refl _ _)).mono ?_
        rintro e w8 ⟨rfl, hb8⟩
        have HK8 := Lib.hid hb8
        have HX9 := Lib.hid (HX8.out.below hb8)
        have x0 := HX9.out.cell 0
        clear hb8 HRKV HX8
        go_wp2_with fail
        refine (HBNL.out _ HK8.out).mono ?_
        rintro e w9 ⟨rfl, hb9⟩
        have HK9 := Lib.hid (HK8.out.trans (hb9.mono HK8.out.size))
        have HXA := Lib.hid (HX9.out.below hb9)
        have x0 := HXA.out.cell 0
        clear hb9 HBNL HX9 HK8
        go_wp2_with fail
        refine (HBNM.out _ HK9.out).mono ?_
        rintro e wa ⟨rfl, hba⟩
        have HKA := Lib.hid (HK9.out.trans (hba.mono HK9.out.size))
        have HXB := Lib.hid (HXA.out.below hba)
        have x0 := HXB.out.cell 0
        clear hba HBNM HXA HK9
        go_wp2_with fail
        refine (HBNF.out _ HKA.out).mono ?_
        rintro e wc ⟨rfl, hbc⟩
        have HKC := Lib.hid (HKA.out.trans (hbc.mono HKA.out.size))
        have HSC := Lib.hid (HSA.out _ (HB8.out.trans (HKC.out.mono HB8.out.size)))
        have HFC := Lib.hid (HB8.out.trans (HKC.out.mono HB8.out.size))
        clear hbc HBNF HXB HKA
        rcases HCS.out with ⟨h7, h8⟩ | ⟨h7, h8⟩
        all_goals
          clear HCS
          go_wp2_with fail
          refine (HSC.out).mono ?_
          rintro e wd ⟨rfl, hbd⟩
          have HBD := Lib.hid (HFC.out.trans (hbd.mono HFC.out.size))
          clear hbd
          go_wp2_with fail
          go_ret
          exact ⟨rfl, HBD.out⟩
end Go.Proofs.YtdeamjimjcojhaaDoor
