/-
  The walk of IdealLocal: from whatever numbers it answers true and only makes memory. Conditions: the arguments can be read; 'letters' is as its initialiser lays it.
-/
import Derived.Test.YtiaalbfdlejboaaDoorKmH
import Derived.Test.YtiaalbfdlejboaaDoorLgJ
import Derived.Test.YtiaalbfdlejboaaDoorLgG
import Derived.Deep.DeepCutAuto
import Derived.Deep.CutBlock
namespace Go.Proofs.YtiaalbfdlejboaaDoor
open Go.RowKit

theorem side_of {a b x y : Int} (h : a = b ∨ a = x) (k : a = x → b = y) : ((a != b) = false ∧ (a != x) = true ∧ (a == x) = false) ∨ ((a != b) = false ∧ (a != x) = false ∧ (a == x) = true ∧ (b != y) = false) ∨ ((a != b) = true ∧ (a != x) = false ∧ (a == x) = true ∧ (b != y) = false) := by
  by_cases e1 : a = x
  · have e2 := k e1
    by_cases e3 : a = b
    · exact .inr (.inl ⟨by simp [e3], by simp [e1], by simp [e1], by simp [e2]⟩)
    · exact .inr (.inr ⟨by simp [e3], by simp [e1], by simp [e1], by simp [e2]⟩)
  · rcases h with h | h
    · exact .inl ⟨by simp [h], by simp [e1], by simp [e1]⟩
    · exact absurd h e1

set_option maxRecDepth 100000 in
set_option maxHeartbeats 1600000 in
theorem local_walk (A : Option Addr) (n0 cp : Nat) (w : World) (hL : Lets w) (hnc : n0 ≤ cp) (hc : cp ≤ maxLen) (hN : Nums w w.heap.size A n0) :
    Calls Tryd.prog 10 #[.slice A n0 cp] w (LawP w) := by
  have HSA := Lib.hid sane6_any
  go_enter Tryd.func10, Tryd.ntmps10
  go_wp2_with fail
  refine (new_any A n0 cp _ hnc hc hN).mono ?_
  rintro e w1 ⟨g, hg1, rfl, hTp, hb1⟩
  have hne2 : 0 ≠ g := by have := hL.lt; omega
  have l1 := hL.below hb1
  clear hN hnc hc hL
  go_wp2_with fail
  refine (some_any 9 g w1 (by omega) (by omega) hTp l1 hne2).mono ?_
  rintro e w2 ⟨A2, c2, l, rfl, ho, hl0, hl8, hchk, hst⟩
  have hB2 : Below w.heap.size w w2 := hb1.grown hst.2 hb1.size (fun j e => by have := Option.some.inj e; omega)
  have hgw : g < w1.heap.size := hTp.lt
  obtain ⟨_, _, er, hnd⟩ := ho.read
  injection er with e1 _ e2
  subst e1 e2
  have hA2 : ∀ b o, A2 = some ⟨b, o, none⟩ → b ≠ g := fun b o e => by
    have := (ho.lt b (by rw [e]; rfl)).1
    omega
  have hTp2 := hst.1
  have HCK := Lib.hid hchk
  obtain ⟨n, hn⟩ : ∃ n, n = l.length := ⟨_, rfl⟩
  have hwd : ∀ x ∈ l, x.word < 4294967296 := fun x hx => (wide_of hchk x hx).2
  have hln1 : 1 ≤ l.length := List.length_pos_iff.2 hl0
  have HNB := Lib.hid (fun (W : World) (k : Below w2.heap.size w2 W) (id h : Int) (hi : -9223372036854775808 ≤ id ∧ id ≤ 9223372036854775807) => neighbours_any A2 l c2 id h W ((hnd.below k).more k.size) hwd hi)
  unfold NbP at HNB
  rw [← hn] at hl8 hln1 HNB ⊢
  have HN := Lib.hid hn
  have HB2 := Lib.hid hB2
  clear hst l1 hTp hb1 ho hchk hl0 hn hwd hB2 hne2 HNB
  go_wp2_with fail
  refine (next_any g 4 w2 hTp2 (by omega)).mono ?_
  rintro e w3 ⟨r, r0, r1, rfl, hst3⟩
  obtain ⟨m, rfl⟩ : ∃ m : Nat, r = (m : Int) := ⟨r.toNat, by omega⟩
  have hm4 : m < 4 := by omega
  have hnd3 := nds_step hnd hA2 hst3
  have HB3 := Lib.hid (HB2.out.grown hst3.2 HB2.out.size (fun j e => by have := Option.some.inj e; omega))
  have hTp3 := hst3.1
  clear hst3 hTp2 hnd HB2 r0 r1
  go_wp2_with fail
  refine (next_any g n w3 hTp3 (by omega)).mono ?_
  rintro e w4 ⟨r, r0, r1, rfl, hst4⟩
  obtain ⟨q, rfl⟩ : ∃ q : Nat, r = (q : Int) := ⟨r.toNat, by omega⟩
  have hqn : q < n := by omega
  have hnd4 := nds_step hnd3 hA2 hst4
  have HB4 := Lib.hid (HB3.out.grown hst4.2 HB3.out.size (fun j e => by have := Option.some.inj e; omega))
  clear hst4 hTp3 hnd3 HB3 r0 r1 hgw hA2
  have hql : q < l.length := by rw [← HN.out]; exact hqn
  obtain ⟨b, o, eA, hbl, f1, f2, f3⟩ := hnd4.at_ hql
  subst eA
  have hxm := List.getElem_mem hql
  have hxw := wide_of HCK.out _ hxm
  generalize l[q] = x at *
  have HLO := Lib.hid (fun (h : Int) (h0 : 0 ≤ h) (h16 : h ≤ 16) (z : Nd) (hz : z ∈ wout l [x.id]) => local_of HCK.out h0 h16 hxm hz)
  have HWL : Hid ((wout l [x.id]).length = n - 1) := Lib.hid (by rw [wout_len HCK.out hxm, HN.out])
  have HCX := Lib.hid (chkV_sub (wo_sub l [x.id]) HCK.out)
  have HNX := Lib.hid (fun (h : Int) (h0 : 0 ≤ h) (h16 : h ≤ 16) => (nb_in HCK.out h0 h16 hxm).1)
  obtain ⟨xi, xk, xw⟩ := x
  simp only at f1 f2 f3 HLO HWL HCX HNX hxm
  have hq0 : (0 : Int) ≤ (q : Int) := by omega
  have hq1 : (q : Int) < (n : Int) := by omega
  have hxi : -9223372036854775808 ≤ xi ∧ xi ≤ 9223372036854775807 := hxw.1
  have hX5 := Has.new w4 64 #[.int .i64 xi, .string xk, .int .u32 (xw : Int)]
  have x50 := hX5.cell 0
  have K5 := (Below.refl w4.heap.size w4).alloc (Nat.le_refl _) (.cells #[.int .i64 xi, .string xk, .int .u32 (xw : Int)] 64)
  have K6 := K5.alloc K5.size (.cells #[.int .i64 xi] 3)
  have HWO : Hid (Calls Tryd.prog 46 #[.slice (some ⟨b, o, none⟩) n c2, .slice (some ⟨w4.heap.size + 1, 0, none⟩) 1 1] ((w4.alloc (.cells #[.int .i64 xi, .string xk, .int .u32 (xw : Int)] 64)).alloc (.cells #[.int .i64 xi] 3)) (NdsP (wout l [xi]) ((w4.alloc (.cells #[.int .i64 xi, .string xk, .int .u32 (xw : Int)] 64)).alloc (.cells #[.int .i64 xi] 3)))) := Lib.hid (by
    have hI5 := Has.new (w4.alloc (.cells #[.int .i64 xi, .string xk, .int .u32 (xw : Int)] 64)) 3 #[.int .i64 xi]
    rw [World.size_alloc] at hI5
    have := without_any (some ⟨b, o, none⟩) (some ⟨w4.heap.size + 1, 0, none⟩) l c2 1 [xi] _ ((hnd4.below K6).more K6.size) (fun _ => ⟨w4.heap.size + 1, 0, rfl, hI5.lt, fun i hi => by
      have h2 : i = 0 := by simp at hi; omega
      subst h2
      exact ⟨hxi, hI5.cell 0⟩⟩) (by rw [← HN.out]; omega) (by simp) (fun y hy => (wide_of HCK.out y hy).1)
    rwa [← HN.out] at this)
  have HX6 := Lib.hid (hX5.alloc (.cells #[.int .i64 xi] 3))
  have HND6 := Lib.hid ((hnd4.below K6).more K6.size)
  have HB6 := Lib.hid (HB4.out.trans (K6.mono HB4.out.size))
  clear hX5 K5 K6 hnd4 hxw hxm HB4
  go_wp2_with fail
  refine (HWO.out).mono ?_
  rintro e w7 ⟨A7, c7, rfl, ho7, hb7⟩
  obtain ⟨_, _, er, hr7⟩ := ho7.read
  injection er with e1 _ e2
  subst e1 e2
  have HX7 := Lib.hid (HX6.out.below hb7)
  have HND7 := Lib.hid ((HND6.out.below hb7).more hb7.size)
  have HNR7 := Lib.hid hr7
  have HB7 := Lib.hid (HB6.out.trans (hb7.mono HB6.out.size))
  obtain ⟨G, hG⟩ : ∃ G, G = w4.heap.size := ⟨_, rfl⟩
  rw [← hG] at HX7 ⊢
  have HWM : Hid (∀ z ∈ wout l [xi], -9223372036854775808 ≤ z.id ∧ z.id ≤ 9223372036854775807) := Lib.hid fun z hz => (wide_of HCX.out z hz).1
  have HNA := Lib.hid (fun (W : World) (k : Below w7.heap.size w7 W) (id h : Int) (hi : -9223372036854775808 ≤ id ∧ id ≤ 9223372036854775807) => neighbours_any (some ⟨b, o, none⟩) l c2 id h W ((HND7.out.below k).more k.size) (fun x hx => (wide_of HCK.out x hx).2) hi)
  have HNR := Lib.hid (fun (W : World) (k : Below w7.heap.size w7 W) (id h : Int) (hi : -9223372036854775808 ≤ id ∧ id ≤ 9223372036854775807) => neighbours_any A7 (wout l [xi]) c7 id h W ((HNR7.out.below k).more k.size) (fun x hx => (wide_of HCX.out x hx).2) hi)
  have HZA := Lib.hid (fun (z : Nd) (hz : z ∈ wout l [xi]) (h : Int) (h0 : 0 ≤ h) (h16 : h ≤ 16) => (nb_in HCK.out h0 h16 ((wo_sub l [xi]).subset hz)).1)
  have HZR := Lib.hid (fun (z : Nd) (hz : z ∈ wout l [xi]) (h : Int) (h0 : 0 ≤ h) (h16 : h ≤ 16) => (nb_in HCX.out h0 h16 hz).1)
  unfold NbP at HNA HNR
  rw [← HN.out] at HNA
  obtain ⟨p, hp⟩ : ∃ p, p = (wout l [xi]).length := ⟨_, rfl⟩
  rw [← hp] at HNR HWL ⊢
  have HP := Lib.hid hp
  have hp1 : (n : Int) - 1 = (p : Int) := by have := HWL.out; omega
  have hp8 : p ≤ 8 := by have := HWL.out; omega
  clear hp hG ho7 hb7 hr7 HX6 HND6 HND7 HB6 HWO f1 f2 f3 x50 hbl
  go_wp2_with fail
  go_loopw [8] (fun vi wr => ∃ i : Nat, vi = .int .i64 (i : Int) ∧ i ≤ p ∧ Below w7.heap.size w7 wr) (fun vi _ => p - (intOf vi).toNat)
  case atStart => exact ⟨0, rfl, by omega, Below.refl _ _⟩
  case round =>
    obtain ⟨i, rfl, hi, hB⟩ := hrel
    by_cases hlt : i < p
    · have i2 : i < (wout l [xi]).length := by rw [← HP.out]; exact hlt
      obtain ⟨b7, o7, eA, hb7l, f1, _, _⟩ := HNR7.out.at_ i2
      subst eA
      have hzm := List.getElem_mem i2
      have hzw := HWM.out _ hzm
      have HF := Lib.hid (fun (W : World) (k : Below w7.heap.size w7 W) => (k.cell (p := ⟨b7, o7 + i * 3, none⟩) hb7l).trans f1)
      generalize (wout l [xi])[i] = z at *
      have HL := Lib.hid (fun (h : Int) (h0 : 0 ≤ h) (h16 : h ≤ 16) => HLO.out h h0 h16 z hzm)
      have HA1 := Lib.hid (HZA.out z hzm)
      have HR1 := Lib.hid (HZR.out z hzm)
      obtain ⟨zi, zk, zw⟩ := z
      simp only at HF hzw HL HA1 HR1
      have i0 : (0 : Int) ≤ (i : Int) := by omega
      have i1 : (i : Int) < (p : Int) := by omega
      have HBW := Lib.hid hB
      clear f1 hzm hB
      go_wp2_with fail
      go_loopw [9] (fun vt wr => ∃ t : Nat, vt = .int .i64 (t : Int) ∧ t ≤ m + 1 ∧ Below w7.heap.size w7 wr) (fun vt _ => m + 1 - (intOf vt).toNat)
      case atStart => exact ⟨0, rfl, by omega, HBW.out⟩
      case round =>
        clear HBW
        obtain ⟨t, rfl, ht, hB⟩ := hrel
        by_cases hltt : t ≤ m
        · have t0 : (0 : Int) ≤ (t : Int) := by omega
          have t1 : (t : Int) ≤ (m : Int) := by omega
          have t4 : (t : Int) ≤ 16 := by omega
          obtain ⟨s1, s2, s3, s4⟩ := HL.out (t : Int) t0 t4
          have N1 := Lib.hid (HNA.out wr hB zi (t : Int) hzw)
          have N2 := Lib.hid (fun (W : World) (k : Below w7.heap.size w7 W) => HNR.out W k zi (t : Int) hzw)
          have N3 := Lib.hid (fun (W : World) (k : Below w7.heap.size w7 W) => HNA.out W k xi (t : Int) hxi)
          rw [HA1.out (t : Int) t0 t4] at N1
          rw [HR1.out (t : Int) t0 t4] at N2
          rw [HNX.out (t : Int) t0 t4] at N3
          generalize nbL l zi (t : Int) = a at *
          generalize nbL (wout l [xi]) zi (t : Int) = bb at *
          generalize nbL l xi (t : Int) = y at *
          obtain ⟨al, ar⟩ := a
          obtain ⟨bl, br⟩ := bb
          obtain ⟨yl, yr⟩ := y
          have HSL := Lib.hid (side_of s1 s3)
          have HSR := Lib.hid (side_of s2 s4)
          have f1 := HF.out wr hB
          have HB0 := Lib.hid hB
          simp only at HSL HSR
          clear s1 s2 s3 s4 hB
          go_wp2_with fail
          refine (N1.out).mono ?_
          rintro e w8 ⟨rfl, hb8⟩
          have hk8 := hb8.trans (((Below.refl w8.heap.size w8).alloc (Nat.le_refl _) (.cells #[.int .i64 al, .int .i64 ar] 53)).mono hb8.size)
          have HX8 := Lib.hid (Has.new w8 53 #[.int .i64 al, .int .i64 ar])
          have HB8 := Lib.hid (HB0.out.trans (hk8.mono HB0.out.size))
          have f8 := HF.out _ HB8.out
          clear hb8 hk8 N1 HB0 f1
          go_wp2_with fail
          refine (N2.out _ HB8.out).mono ?_
          rintro e w9 ⟨rfl, hb9⟩
          have hk9 := hb9.trans (((Below.refl w9.heap.size w9).alloc (Nat.le_refl _) (.cells #[.int .i64 bl, .int .i64 br] 53)).mono hb9.size)
          have HX9 := Lib.hid (Has.new w9 53 #[.int .i64 bl, .int .i64 br])
          have HY9 := Lib.hid (HX8.out.below hk9)
          have HB9 := Lib.hid (HB8.out.trans (hk9.mono HB8.out.size))
          have xx := (HX7.out.below HB9.out).cell 0
          clear hb9 hk9 N2 HB8 HX8 f8
          go_wp2_with fail
          refine (N3.out _ HB9.out).mono ?_
          rintro e wa ⟨rfl, hba⟩
          have hka := hba.trans (((Below.refl wa.heap.size wa).alloc (Nat.le_refl _) (.cells #[.int .i64 yl, .int .i64 yr] 53)).mono hba.size)
          have hXa := Has.new wa 53 #[.int .i64 yl, .int .i64 yr]
          have hYa := HX9.out.below hka
          have hZa := HY9.out.below hka
          have HBa := Lib.hid (HB9.out.trans (hka.mono HB9.out.size))
          have y0 := hXa.cell 0
          have y1 := hXa.cell 1
          have b0 := hYa.cell 0
          have b1 := hYa.cell 1
          have a0 := hZa.cell 0
          have a1 := hZa.cell 1
          have xz := (HX7.out.below HBa.out).cell 0
          clear hba hka N3 HB9 HX9 HY9 xx hXa hYa hZa
          go_upto_region 15 with fail
          generalize wa.alloc (.cells #[.int .i64 yl, .int .i64 yr] 53) = wb at *
          rcases HSL.out with ⟨u1, u2, u3⟩ | ⟨u1, u2, u3, u4⟩ | ⟨u1, u2, u3, u4⟩ <;> rcases HSR.out with ⟨v1, v2, v3⟩ | ⟨v1, v2, v3, v4⟩ | ⟨v1, v2, v3, v4⟩
          all_goals
            clear HSL HSR
            go_wp2_with fail
            exact ⟨⟨t + 1, by go_num, by omega, HBa.out⟩, by simp [intOf]; omega⟩
        · have tz : ¬ ((t : Int) ≤ (m : Int)) := by omega
          go_wp2_with fail
          exact ⟨⟨i + 1, by go_num, hlt, hB⟩, by simp [intOf]; omega⟩
    · have BF := Lib.hid (HB7.out.trans (hB.mono HB7.out.size))
      have HS9 := Lib.hid (HSA.out wr)
      have hpp : ((p : Int) == (p : Int)) = true := by simp
      go_wp2_with fail
      refine (HS9.out).mono ?_
      rintro e w9 ⟨rfl, hb9⟩
      go_wp2_with fail
      go_ret
      exact ⟨rfl, BF.out.trans (hb9.mono BF.out.size)⟩
end Go.Proofs.YtiaalbfdlejboaaDoor
