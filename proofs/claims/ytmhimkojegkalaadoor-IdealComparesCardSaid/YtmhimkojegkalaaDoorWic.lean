/-
  The walk of IdealCompares: from whatever numbers and links it answers true and only makes memory. Conditions: the arguments can be read; 'letters' is as its initialiser lays it.
-/
import Derived.Test.YtmhimkojegkalaaDoorKnD
import Derived.Test.YtmhimkojegkalaaDoorKnE
import Derived.Test.YtmhimkojegkalaaDoorLgJ
import Derived.Deep.DeepCutAuto
import Derived.Deep.CutBlock
namespace Go.Proofs.YtmhimkojegkalaaDoor
open Go.RowKit

set_option maxRecDepth 100000 in
set_option maxHeartbeats 1600000 in
theorem compares_walk (A A1 A2 : Option Addr) (n0 cp c1 c2 : Nat) (la lb : List Ld) (w : World) (hL : Lets w) (hnc : n0 ≤ cp) (hc : cp ≤ maxLen) (hN : Nums w w.heap.size A n0) (h1 : Lds w w.heap.size A1 la) (h2 : Lds w w.heap.size A2 lb) :
    Calls Tryd.prog 5 #[.slice A n0 cp, .slice A1 la.length c1, .slice A2 lb.length c2] w (LawP w) := by
  have HSA := Lib.hid sane6_any
  have HA1 := Lib.hid h1
  have HA2 := Lib.hid h2
  have HPA := Lib.hid (fun (h : la.length ≤ 100) (W : World) (k : Below w.heap.size w W) => same6_any A1 A2 la lb c1 c2 W ((h1.below k).more k.size) ((h2.below k).more k.size) (by unfold maxLen; omega))
  have HPR := Lib.hid (fun (h : la.length ≤ 100) (W : World) (k : Below w.heap.size w W) => rsame6_any A1 A2 la lb c1 c2 W ((h1.below k).more k.size) ((h2.below k).more k.size) (by omega))
  have HPS := Lib.hid (fun (h : la.length ≤ 100) (W : World) (k : Below w.heap.size w W) => same6_any A1 A1 la la c1 c1 W ((h1.below k).more k.size) ((h1.below k).more k.size) (by unfold maxLen; omega))
  rw [decide_eq_true (rfl : la = la)] at HPS
  generalize decide (la = lb) = ZA at *
  clear h1 h2 HA1 HA2
  generalize la.length = pa at *
  generalize lb.length = pb at *
  go_enter Tryd.func5, Tryd.ntmps5
  go_wp2_with fail
  refine (new_any A n0 cp _ hnc hc hN).mono ?_
  rintro e w1 ⟨g, hg1, rfl, hTp, hb1⟩
  have hne2 : 0 ≠ g := by have := hL.lt; omega
  have l1 := hL.below hb1
  clear hN hnc hc hL
  go_wp2_with fail
  refine (some_any 6 g w1 (by omega) (by omega) hTp l1 hne2).mono ?_
  rintro e w2 ⟨A3, c3, l, rfl, ho, hl0, hl8, hchk, hst⟩
  have hB2 : Below w.heap.size w w2 := hb1.grown hst.2 hb1.size (fun j e => by have := Option.some.inj e; omega)
  have hgw : g < w1.heap.size := hTp.lt
  obtain ⟨G, c, er, hGb, hGl, hcap, hcap2, hnd⟩ := ho.open_ hl0
  injection er with e1 _ e2
  subst e1 e2
  have hA3 : ∀ b o, (some ⟨G, 0, none⟩ : Option Addr) = some ⟨b, o, none⟩ → b ≠ g := fun b o e => by
    injection e with e
    injection e with e _
    omega
  have hTp2 := hst.1
  have hwd : ∀ x ∈ l, x.wide := fun x hx => wide_of hchk x hx
  have HH := Lib.hid (theight_any (some ⟨G, 0, none⟩) l c3 g w2 hTp2 hnd (fun x hx => (hwd x hx).2))
  have HLK := Lib.hid (fun (W : World) (k : TStep w2 g W) (h : Int) (h16 : h ≤ 16) (mo : Nat) (hmo : mo ≤ 100) => tlinks_any (some ⟨G, 0, none⟩) l c3 h mo g W k.1 (nds_step hnd hA3 k) (by omega) hA3 hwd h16 hmo)
  have HB2 := Lib.hid hB2
  have hl6 : l.length ≤ 6 := hl8
  generalize l.length = n at *
  clear hst l1 hTp hb1 ho hchk hl0 hwd hB2 hl8 hcap hcap2 hnd hA3
  go_wp2_with fail
  refine (HH.out).mono ?_
  rintro e w3 ⟨h, ⟨h0, h16⟩, rfl, hst3⟩
  have HT3 := Lib.hid hst3
  have HL1 := Lib.hid (HLK.out w3 hst3 h h16 1 (by omega))
  clear hst3 HH
  go_wp2_with fail
  refine (HL1.out).mono ?_
  rintro e w4 ⟨v4, n4, rfl, hn4, ho4, hst4⟩
  have HT4 := Lib.hid (HT3.out.trans hst4)
  have HL2 := Lib.hid (HLK.out w4 (HT3.out.trans hst4) h h16 2 (by omega))
  have hg3 : g < w3.heap.size := by have := HT3.out.2.size; have := hTp2.lt; omega
  have hg4 : g < w4.heap.size := by have := hst4.2.size; omega
  have HO4 := Lib.hid ho4
  clear hst4 HL1 HLK ho4
  go_wp2_with fail
  refine (HL2.out).mono ?_
  rintro e w5 ⟨v5, n5, rfl, hn5, ho5, hst5⟩
  have HT5 := HT4.out.trans hst5
  have hB5 : Below w.heap.size w w5 := HB2.out.grown HT5.2 HB2.out.size (fun j e => by have := Option.some.inj e; omega)
  obtain ⟨A5, d5, ms, hv5, hm5, hd5, hd5m, hr5, _⟩ := ho5.read
  obtain ⟨A4, d4, ls, hv4, hm4, hd4, hd4m, hr4, _⟩ := (HO4.out.step hg3 hst5).read
  have HS1 := Lib.hid (fun (W : World) (k : Below w5.heap.size w5 W) => same6_any A4 A5 ls ms d4 d5 W ((hr4.below k).more k.size) ((hr5.below k).more k.size) (by unfold maxLen; omega))
  have HS2 := Lib.hid (fun (W : World) (k : Below w5.heap.size w5 W) => rsame6_any A4 A5 ls ms d4 d5 W ((hr4.below k).more k.size) ((hr5.below k).more k.size) (by omega))
  have HS3 := Lib.hid (fun (W : World) (k : Below w5.heap.size w5 W) => same6_any A4 A4 ls ls d4 d4 W ((hr4.below k).more k.size) ((hr4.below k).more k.size) (by unfold maxLen; omega))
  rw [hm4, decide_eq_true (rfl : ls = ls)] at HS3
  rw [hm4, hm5] at HS1 HS2
  rw [hm4] at hv4
  rw [hm5] at hv5
  subst hv4 hv5
  generalize decide (ls = ms) = Z at *
  have HB5 := Lib.hid hB5
  clear hst5 HT5 hB5 ho5 HO4 hr4 hr5 hm4 hm5 hd4 hd5 hd4m hd5m HL2 HT3 HT4 HB2 hTp2
  go_wp2_with fail
  refine (HS1.out _ (Below.refl _ _)).mono ?_
  rintro e w6 ⟨rfl, hb6⟩
  have HB6 := Lib.hid hb6
  clear hb6
  go_wp2_with fail
  refine (HS2.out _ HB6.out).mono ?_
  rintro e w7 ⟨rfl, hb7⟩
  have HB7 := Lib.hid (HB6.out.trans (hb7.mono HB6.out.size))
  have hzz : (Z == Z) = true := by simp
  clear hb7
  go_wp2_with fail
  refine (HS3.out _ HB7.out).mono ?_
  rintro e w8 ⟨rfl, hb8⟩
  have HB8 := Lib.hid (HB5.out.trans ((HB7.out.trans (hb8.mono HB7.out.size)).mono HB5.out.size))
  clear hb8 HS1 HS2 HS3 HB6 HB7
  have fin : ∀ (W W' : World), Below w.heap.size w W → Below W.heap.size W W' → Below w.heap.size w W' := fun W W' a b => a.trans (b.mono a.size)
  have FIN := Lib.hid fin
  clear fin
  by_cases ha : pa ≤ 100
  · by_cases hb : pb ≤ 100
    · have t1 : (pa : Int) ≤ 100 := by omega
      have t2 : (pb : Int) ≤ 100 := by omega
      have t3 : ¬ (100 : Int) < (pa : Int) := by omega
      have t4 : ¬ (100 : Int) < (pb : Int) := by omega
      go_wp2_with fail
      refine (HPA.out ha _ HB8.out).mono ?_
      rintro e w9 ⟨rfl, hb9⟩
      have HB9 := Lib.hid (FIN.out _ _ HB8.out hb9)
      clear hb9
      go_wp2_with fail
      refine (HPR.out ha _ HB9.out).mono ?_
      rintro e wa ⟨rfl, hba⟩
      have HBA := Lib.hid (FIN.out _ _ HB9.out hba)
      have hyy : (ZA == ZA) = true := by simp
      clear hba
      go_wp2_with fail
      refine (HPS.out ha _ HBA.out).mono ?_
      rintro e wb ⟨rfl, hbb⟩
      have HBB := Lib.hid (FIN.out _ _ HBA.out hbb)
      clear hbb
      go_wp2_with fail
      refine (HSA.out _).mono ?_
      rintro e wc ⟨rfl, hbc⟩
      go_wp2_with fail
      go_ret
      exact ⟨rfl, FIN.out _ _ HBB.out hbc⟩
    · have t1 : (pa : Int) ≤ 100 := by omega
      have t2 : (100 : Int) < (pb : Int) := by omega
      have t3 : ¬ (100 : Int) < (pa : Int) := by omega
      go_wp2_with fail
      refine (HSA.out _).mono ?_
      rintro e wc ⟨rfl, hbc⟩
      go_wp2_with fail
      go_ret
      exact ⟨rfl, FIN.out _ _ HB8.out hbc⟩
  · have t1 : (100 : Int) < (pa : Int) := by omega
    go_wp2_with fail
    refine (HSA.out _).mono ?_
    rintro e wc ⟨rfl, hbc⟩
    go_wp2_with fail
    go_ret
    exact ⟨rfl, FIN.out _ _ HB8.out hbc⟩
end Go.Proofs.YtmhimkojegkalaaDoor
