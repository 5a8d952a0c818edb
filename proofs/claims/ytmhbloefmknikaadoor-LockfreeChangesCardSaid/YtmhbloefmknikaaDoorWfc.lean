/-
  The walk of LockfreeChanges: from whatever numbers it answers true and only makes memory. Conditions: the argument can be read; 'letters' is as its initialiser lays it.
-/
import Derived.Test.YtmhbloefmknikaaDoorOcA
import Derived.Test.YtmhbloefmknikaaDoorOdA
import Derived.Test.YtmhbloefmknikaaDoorMaU
namespace Go.Proofs.YtmhbloefmknikaaDoor
open Go.RowKit Go.Maps
namespace Lf
open Lk
theorem trv_len (l : Ls) : ∀ f seen a, (trv l f seen a).length ≤ f
  | 0, _, _ => Nat.le_refl _
  | f + 1, seen, a => by
    have h := trv_len l f (a :: seen) (l.at_ a).right.toNat
    rw [trv]
    split
    · exact Nat.zero_le _
    · split
      · rw [List.length_cons]; omega
      · omega
theorem memV_len (l : Ls) : (memV l).length ≤ l.cs.length := trv_len l _ _ _
/-- What each process has done. -/
def DidA (l : Ls) (D : List Bool) : Prop := D.length = l.ps.length ∧ ∀ p, p < l.ps.length → DidI (l.pr p) (D.getD p false)
theorem didA_new {l : Ls} {n m : Nat} (h : Fresh l n m) : DidA l (List.replicate m false) :=
  ⟨by rw [List.length_replicate]; exact h.hm.symm, fun p _ => by
    rw [h.pr p, show (List.replicate m false).getD p false = false by
      rw [List.getD_eq_getElem?_getD, List.getElem?_replicate]
      split <;> rfl]
    exact did_zero⟩
theorem didA_beg {l : Ls} {D : List Bool} (h : DidA l D) {q : Nat} (hq : q < l.ps.length) (kd c : Int) : DidA (begV l q kd c) (D.set q false) := by
  refine ⟨by rw [List.length_set, (beg_len l q kd c).2]; exact h.1, fun p hp => ?_⟩
  rw [(beg_len l q kd c).2] at hp
  rw [getD_set _ _ _ _ _ (by rw [h.1]; exact hq), beg_pr hq]
  by_cases e : p = q
  · rw [if_pos e, if_pos e]; exact did_beg
  · rw [if_neg e, if_neg e]; exact h.2 p hp
theorem didA_step {l l2 : Ls} {D : List Bool} (L : Led l) (h : DidA l D) {q : Nat} (hq : q < l.ps.length) (e : stepV l q = some l2) : DidA l2 (D.set q (D.getD q false || hitV l q)) := by
  have hm := (step_len L.1 hq e).2
  have ho := step_own L hq e
  have ha := (stepV_can L.1 hq).1 (by rw [e]; rfl)
  refine ⟨by rw [List.length_set, hm]; exact h.1, fun p hp => ?_⟩
  rw [hm] at hp
  rw [getD_set _ _ _ _ _ (by rw [h.1]; exact hq)]
  by_cases q9 : p = q
  · subst q9
    rw [if_pos rfl]
    exact did_step ho ha.1 (h.2 p hp)
  · rw [if_neg q9, step_oth L.1 hq e p q9]
    exact h.2 p hp
theorem set_getD (D : List Bool) {q : Nat} (hq : q < D.length) : D.set q (D.getD q false) = D := by
  rw [List.getD_eq_getElem?_getD, List.getElem?_eq_getElem hq]
  exact List.set_getElem_self hq
/-- How a step changes the members, as the law asks. -/
structure Cha (l l2 : Ls) (q : Nat) (D : List Bool) (gr fl : Bool) : Prop where
  g1 : gr = true → (l.pr q).phase = 15 ∧ (l.pr q).cell.toNat ∉ memV l ∧ (l.pr q).cell.toNat ∈ memV l2 ∧ (memV l2).length = (memV l).length + 1
  f1 : fl = true → (l.pr q).phase = 16 ∧ (l.pr q).cell.toNat ∈ memV l ∧ (l.pr q).cell.toNat ∉ memV l2 ∧ (memV l).length = (memV l2).length + 1
  g0 : gr = false → (l.pr q).phase = 15 → memV l2 = memV l
  f0 : fl = false → (l.pr q).phase = 16 → memV l2 = memV l
  no : gr = false → fl = false → memV l2 = memV l
  di : DidA l2 (D.set q (D.getD q false || gr || fl))
theorem cha_of {l l2 : Ls} {D : List Bool} (h : Led l) (hd : DidA l D) {q : Nat} (hq : q < l.ps.length) (e : l2 = (stepV l q).getD l) : ∃ gr fl, Cha l l2 q D gr fl := by
  have hdl : q < D.length := by rw [hd.1]; exact hq
  cases hs : stepV l q with
  | none =>
    rw [hs] at e
    have e2 : l2 = l := e
    subst e2
    exact ⟨false, false, ⟨fun z => Bool.noConfusion z, fun z => Bool.noConfusion z, fun _ _ => rfl, fun _ _ => rfl, fun _ _ => rfl, by
      rw [Bool.or_false, Bool.or_false, set_getD D hdl]; exact hd⟩⟩
  | some x =>
    rw [hs] at e
    have e2 : l2 = x := e
    subst e2
    have hD := didA_step h hd hq hs
    cases hh : hitV l q with
    | false =>
      have hm := mem_no h hq hs hh
      rw [hh] at hD
      exact ⟨false, false, ⟨fun z => Bool.noConfusion z, fun z => Bool.noConfusion z, fun _ _ => hm, fun _ _ => hm, fun _ _ => hm, by
        rw [Bool.or_false]; exact hD⟩⟩
    | true =>
      rw [hh] at hD
      rcases (hit_ph h.1 hq hh).2 with ⟨p15, -⟩ | ⟨p16, -⟩
      · have hm := mem_ins h hq hs hh p15
        exact ⟨true, false, ⟨fun _ => ⟨p15, hm.2.1, hm.2.2.1, hm.2.2.2.1⟩, fun z => Bool.noConfusion z, fun z => Bool.noConfusion z, fun _ q9 => by omega, fun z => Bool.noConfusion z, by
          rw [Bool.or_false]; exact hD⟩⟩
      · have hm := mem_rem h hq hs hh p16
        exact ⟨false, true, ⟨fun z => Bool.noConfusion z, fun _ => ⟨p16, hm.2.1, hm.2.2.1, hm.2.2.2.1⟩, fun _ q9 => by omega, fun z => Bool.noConfusion z, fun _ z => Bool.noConfusion z, by
          rw [Bool.or_false]; exact hD⟩⟩
set_option maxRecDepth 100000 in
set_option maxHeartbeats 20000000 in
theorem changes_walk (A : Option Addr) (n0 cp : Nat) (w : World) (hL : Lets w) (hnc : n0 ≤ cp) (hc : cp ≤ maxLen) (hN : Nums w w.heap.size A n0) :
    Calls Tryd.prog 6 #[.slice A n0 cp] w (LawP w) := by
  go_enter Tryd.func6, Tryd.ntmps6
  go_wp2_with fail
  refine (Go.Proofs.YtmhbloefmknikaaDoor.new_any A n0 cp _ hnc hc hN).mono ?_
  rintro e w1 ⟨g, hg1, rfl, hTp, hb1⟩
  have hne2 : 0 ≠ g := by have := hL.lt; omega
  have l1 := hL.below hb1
  have hgw := hTp.lt
  have HB1 := Lib.hid hb1
  clear hN hnc hc hL hb1
  go_wp2_with fail
  refine (made_any g w1 hTp l1 hne2 hgw).mono ?_
  rintro e w2 ⟨l0, n, m, J1, J2, c1, c2, rfl, hfr, hrd, hst⟩
  have hm4 : 2 ≤ m ∧ m ≤ 4 := ⟨hfr.m2, hfr.m4⟩
  have HFR := Lib.hid hfr
  have HLA := Lib.hid (HoL.newF (d1 := c1) (d2 := c2) (t := 28) (n := n) (m := m) (RdL.low hrd (Nat.le_refl _)) hfr.led.1 hst.2.size hfr.hn hfr.hm)
  have HTA := Lib.hid (hst.below ((Below.refl w2.heap.size w2).alloc (Nat.le_refl _) (.cells #[.slice (some ⟨J1, 0, none⟩) n c1, .slice (some ⟨J2, 0, none⟩) m c2] 28)))
  have hsz : (w2.alloc (.cells #[.slice (some ⟨J1, 0, none⟩) n c1, .slice (some ⟨J2, 0, none⟩) m c2] 28)).heap.size = w2.heap.size + 1 := World.size_alloc _ _
  have hs2 := hst.2.size
  clear hfr hrd hst hTp l1
  go_upto_region 3 with fail
  generalize w2.alloc (.cells #[.slice (some ⟨J1, 0, none⟩) n c1, .slice (some ⟨J2, 0, none⟩) m c2] 28) = W at *
  obtain ⟨B, hB⟩ : ∃ B, B = w2.heap.size := ⟨_, rfl⟩
  rw [← hB] at HLA hsz hs2 ⊢
  clear hB
  have y0 := HLA.out.x0
  have y1 := HLA.out.x1
  have hmb := fun W => make_bools W m hm4.2
  go_upto_region 6 with fail
  have HLW := Lib.hid (HLA.out.below ((Below.refl W.heap.size W).alloc (Nat.le_refl _) (.cells (bc m) 4)))
  have HTW := Lib.hid (HTA.out.below ((Below.refl W.heap.size W).alloc (Nat.le_refl _) (.cells (bc m) 4)))
  have HDW := Lib.hid (bools_mut W m hm4.2)
  have hJJ := HLA.out.gltF HFR.out.led.1
  generalize W.alloc (.cells (bc m) 4) = V at *
  obtain ⟨DB, hDB⟩ : ∃ DB, DB = B + 1 := ⟨_, rfl⟩
  rw [hsz] at HDW hJJ
  rw [← hDB] at HDW hJJ ⊢
  have hBD : B + 1 ≤ DB := by omega
  clear hDB hmb y0 y1 HLA HTA hsz
  have HDA0 := Lib.hid (didA_new HFR.out)
  have HLD0 := Lib.hid HFR.out.led
  have HNE0 : Hid (J1 ≠ DB ∧ J2 ≠ DB) := Lib.hid (by omega)
  clear hJJ HFR
  go_wp2_with fail
  go_loopw [7] (fun v7 wr => ∃ (l : Ls) (i G1 G2 d1 d2 : Nat) (D : List Bool), v7 = .int .i64 (i : Int) ∧ i ≤ 100 ∧ HoL wr B w1.heap.size l n m G1 G2 d1 d2 ∧ Hid (Led l) ∧ TStep w1 g wr ∧ MutR brow 1 4 wr DB m D ∧ Hid (DidA l D) ∧ Hid (G1 ≠ DB ∧ G2 ≠ DB)) (fun v7 _ => 100 - (intOf v7).toNat)
  case atStart => exact ⟨l0, 0, J1, J2, c1, c2, _, rfl, Nat.zero_le _, HLW.out, HLD0, HTW.out, HDW.out, HDA0, HNE0⟩
  case round =>
    clear HLW HTW HDW HDA0 HLD0 HNE0
    obtain ⟨l, i, G1, G2, d1, d2, D, rfl, hi, hl, HLD, ht, hdd, HDA, HNE⟩ := hrel
    have HL := Lib.hid hl
    have HT := Lib.hid ht
    have HD := Lib.hid hdd
    clear hl ht hdd
    by_cases hlt : i < 100
    · have hd : decide ((i : Int) < 100) = true := by simp; omega
      go_wp2_with fail
      refine (left_any g wr HT.out.1).mono ?_
      rintro e wa ⟨b4, rfl, hsta⟩
      have HLa := Lib.hid (HL.out.step hgw hsta)
      have HTa := Lib.hid (HT.out.trans hsta)
      have HDa : Hid (MutR brow 1 4 wa DB m D) := Lib.hid (MutR.keep HD.out (hsta.2.block DB HD.out.lt (fun e => by have := Option.some.inj e; omega)))
      clear hsta HL HT HD
      cases b4 with
      | true =>
        have y0 := HLa.out.x0
        have y1 := HLa.out.x1
        go_wp2_with fail
        refine (next_any g (m : Int) wa HTa.out.1 (by omega)).mono ?_
        rintro e wb ⟨r, r0, r1, rfl, hstb⟩
        obtain ⟨q, rfl⟩ := Int.eq_ofNat_of_zero_le r0
        have hq : q < m := by omega
        have HLb := Lib.hid (HLa.out.step hgw hstb)
        have HTb := Lib.hid (HTa.out.trans hstb)
        have HDb : Hid (MutR brow 1 4 wb DB m D) := Lib.hid (MutR.keep HDa.out (hstb.2.block DB HDa.out.lt (fun e => by have := Option.some.inj e; omega)))
        clear hstb HLa HTa HDa r0 r1 y0 y1
        go_wp2_with fail
        refine (bool_any g 4 wb HTb.out.1 (by omega) (by omega)).mono ?_
        rintro e w3 ⟨b3, rfl, hst3⟩
        have HL3 := Lib.hid (HLb.out.step hgw hst3)
        have HT3 := Lib.hid (HTb.out.trans hst3)
        have HD3 : Hid (MutR brow 1 4 w3 DB m D) := Lib.hid (MutR.keep HDb.out (hst3.2.block DB HDb.out.lt (fun e => by have := Option.some.inj e; omega)))
        clear hst3 HLb HTb HDb
        have hg := hgw
        have hDl : DB < w3.heap.size := HD3.out.lt
        have hgl := HL3.out.gltF HLD.out.1
        have n2 : 2 ≤ n ∧ n ≤ 66 := by have := HLD.out.1.n2; have := HLD.out.1.n66; have := HL3.out.hn; omega
        cases b3 with
        | true =>
          have y0 := HL3.out.x0
          have y1 := HL3.out.x1
          go_wp2_with fail
          refine (start12_any g w1.heap.size l n m q G1 G2 d1 d2 w3 HT3.out.1 hgw HT3.out.2.size HLD.out HL3.out.hn HL3.out.hm HL3.out.rd).mono ?_
          rintro e w4 ⟨E, kd, c, P1, P2, a1, a2, f1, f2, rfl, hE, hok, hst4⟩
          have HL4 := Lib.hid (HL3.out.step hgw hst4)
          have HT4 := Lib.hid (HT3.out.trans hst4)
          have HD4 : Hid (MutR brow 1 4 w4 DB m D) := Lib.hid (MutR.keep HD3.out (hst4.2.block DB HD3.out.lt (fun e => by have := Option.some.inj e; omega)))
          have hs34 := hst4.2.size
          have hba := (Below.refl w4.heap.size w4).alloc (Nat.le_refl _) (.cells #[.slice P1 a1 f1, .slice P2 a2 f2] 28)
          have HLV := Lib.hid (HL4.out.below hba)
          have HTV := Lib.hid (HT4.out.below hba)
          have HDV := Lib.hid (MutR.below HD4.out hba)
          have HYV := Lib.hid (Has.new w4 28 #[.slice P1 a1 f1, .slice P2 a2 f2])
          by_cases he : E = 0
          · subst he
            obtain ⟨K1, K2, rfl, rfl, rfl, rfl, hr⟩ := hok rfl
            have hd2 : ((0 : Int) == 0) = true := rfl
            rw [hd2]
            have hE9 := hE.symm
            have hld2 := sta_led HLD.out hE9
            have hk := rd_loF hr hld2.1
            have HRV := Lib.hid (hr.below hba)
            clear hst4 hba hr hE hok HL4 HT4 HD4 HL3 HT3 HD3 y0 y1
            go_upto_region 12 with fail
            generalize w4.alloc (.cells #[.slice (some ⟨K1, 0, none⟩) a1 f1, .slice (some ⟨K2, 0, none⟩) a2 f2] 28) = wc at *
            generalize w4.heap.size = C at *
            have hlr := HLV.out
            have htr := HTV.out
            have hdr := HDV.out
            have y0 := hlr.x0
            have y1 := hlr.x1
            have z0 := hlr.fz 0
            have z1 := hlr.fz 1
            have u0 := HYV.out.cell 0
            have u1 := HYV.out.cell 1
            have HLS := Lib.hid ((HoL.mk2 (w := wc) (d1 := f1) (d2 := f2) (n := a1) (m := a2) (by rw [y0]; simp) (by rw [y1]; simp) hlr.fz hlr.lB (HRV.out.low (by omega)) (by omega) (by omega) ((beg_len l q kd c).1.trans hlr.hn) ((beg_len l q kd c).2.trans hlr.hm)).far (p := ⟨DB, q, none⟩) (by simp only; omega) (by simp only; omega) (by simp only; omega) (.bool false))
            have HTS := Lib.hid (((htr.set (p := ⟨B, 0, none⟩) hlr.lB hgw (.slice (some ⟨K1, 0, none⟩) a1 f1)).set (p := ⟨B, 1, none⟩) hlr.lB hgw (.slice (some ⟨K2, 0, none⟩) a2 f2)).set (p := ⟨DB, q, none⟩) (by simp only; omega) hgw (.bool false))
            have hdl : q < D.length := by rw [HDA.out.1, hlr.hm]; exact hq
            have HDS := Lib.hid (putB ((hdr.far (p := ⟨B, 0, none⟩) (by simp only; omega) (.slice (some ⟨K1, 0, none⟩) a1 f1)).far (p := ⟨B, 1, none⟩) (by simp only; omega) (.slice (some ⟨K2, 0, none⟩) a2 f2)) hdl false)
            have HDA2 := Lib.hid (didA_beg HDA.out (q := q) (by rw [hlr.hm]; exact hq) kd c)
            have HLD2 := Lib.hid hld2
            have HNE2 : Hid (K1 ≠ DB ∧ K2 ≠ DB) := Lib.hid (by omega)
            have v0 := cellB hdr hdl
            have v1 := MutR.frozen hdr q
            have q0 : (0 : Int) ≤ (q : Int) := by omega
            have q1 : (q : Int) < (a2 : Int) := by omega
            have nb : ¬ DB = B := by omega
            have nb2 : ¬ B = DB := by omega
            have v0a : ((wc.setCell ⟨B, 0, none⟩ (.slice (some ⟨K1, 0, none⟩) a1 f1)).setCell ⟨B, 1, none⟩ (.slice (some ⟨K2, 0, none⟩) a2 f2)).cell? ⟨DB, q, none⟩ = some (.bool (D.getD q false)) := cellB ((hdr.far (p := ⟨B, 0, none⟩) (by simp only; omega) (.slice (some ⟨K1, 0, none⟩) a1 f1)).far (p := ⟨B, 1, none⟩) (by simp only; omega) (.slice (some ⟨K2, 0, none⟩) a2 f2)) hdl
            clear hld2 hk hlr htr hdr hdl HLV HTV HDV HRV HYV hE9
            generalize D.getD q false = dq at *
            go_wp2_with fail
            exact ⟨⟨begV l q kd c, i + 1, K1, K2, f1, f2, D.set q false, by go_num, hlt, HLS.out, HLD2, HTS.out, HDS.out, HDA2, HNE2⟩, by simp [intOf]; omega⟩
          · have hd2 : (E == 0) = false := by simpa using he
            rw [hd2]
            clear he hst4 hba hE hok HL4 HT4 HD4 HL3 HT3 HD3 y0 y1 HYV
            go_wp2_with fail
            exact ⟨⟨l, i + 1, G1, G2, d1, d2, D, by go_num, hlt, HLV.out, HLD, HTV.out, HDV.out, HDA, HNE⟩, by simp [intOf]; omega⟩
        | false =>
          have HSP := Lib.hid (step_any ⟨G1, 0, none⟩ ⟨G2, 0, none⟩ l (q : Int) n m d1 d2 w3 HL3.out.hn HL3.out.hm (HL3.out.rd.low (Nat.zero_le _)) HLD.out.1)
          have y0 := HL3.out.x0
          have y1 := HL3.out.x1
          have hql : q < l.ps.length := by rw [HL3.out.hm]; exact hq
          have HQL := Lib.hid hql
          clear hql
          go_wp2_with fail
          refine (HSP.out).mono ?_
          rintro e w4 ⟨K1, K2, f1, f2, rfl, hr4, hb4⟩
          have hstp : stpO l (q : Int) = stepV l q := by unfold stpO; rw [if_pos ⟨by omega, by have := HQL.out; omega⟩, Int.toNat_natCast]
          rw [hstp] at hr4 ⊢
          obtain ⟨l2, hl2⟩ : ∃ l2, l2 = (stepV l q).getD l := ⟨_, rfl⟩
          obtain ⟨b, hbe⟩ : ∃ b, b = (stepV l q).isSome := ⟨_, rfl⟩
          have hld2 : Led l2 := by rw [hl2, ← hstp]; exact getD_led HLD.out _
          have hln2 : l2.cs.length = n ∧ l2.ps.length = m := by
            have := getD_len HLD.out.1 (q : Int)
            rw [hstp, ← hl2, HL3.out.hn, HL3.out.hm] at this
            exact this
          rw [← hl2] at hr4
          rw [← hbe]
          obtain ⟨gr, fl, hcha⟩ := cha_of HLD.out HDA.out HQL.out hl2
          have HCH := Lib.hid hcha
          clear hcha
          have hba := (Below.refl w4.heap.size w4).alloc (Nat.le_refl _) (.cells #[.slice (some ⟨K1, 0, none⟩) n f1, .slice (some ⟨K2, 0, none⟩) m f2] 28)
          have hb4a := hb4.trans (hba.mono hb4.size)
          have HLV := Lib.hid (HL3.out.below hb4a)
          have HTV := Lib.hid (HT3.out.below hb4a)
          have HDV := Lib.hid (MutR.below HD3.out hb4a)
          have HXV := Lib.hid (HoL.newF (d1 := f1) (d2 := f2) (t := 28) (n := n) (m := m) hr4 hld2.1 hb4.size hln2.1 hln2.2)
          have hXX : w3.heap.size ≤ w4.heap.size := hb4.size
          have hsV : (w4.alloc (.cells #[.slice (some ⟨K1, 0, none⟩) n f1, .slice (some ⟨K2, 0, none⟩) m f2] 28)).heap.size = w4.heap.size + 1 := World.size_alloc _ _
          have HLD2 := Lib.hid hld2
          have HLN2 := Lib.hid hln2
          clear hl2 hbe hstp hld2 hln2 hba hb4a hr4 hb4 y0 y1
          go_upto_region 15 with fail
          generalize w4.alloc (.cells #[.slice (some ⟨K1, 0, none⟩) n f1, .slice (some ⟨K2, 0, none⟩) m f2] 28) = V at *
          obtain ⟨X, hX⟩ : ∃ X, X = w4.heap.size := ⟨_, rfl⟩
          rw [← hX] at HXV hXX hsV ⊢
          clear hX
          have y0 := HLV.out.x0
          have y1 := HLV.out.x1
          have y2 := HXV.out.x0
          have y3 := HXV.out.x1
          have hmm : ((m : Int) != (m : Int)) = false := by simp
          go_upto_region 17 with fail
          have hVd : Below V.heap.size V V.drew := (Below.refl _ _).drew
          have HMB1 := Lib.hid (Members_any (some ⟨G1, 0, none⟩) ⟨G2, 0, none⟩ l n m d1 d2 V.drew HLV.out.hn HLV.out.hm ((HLV.out.below hVd).rd.low (Nat.zero_le _)) (by omega) (by omega) (by omega))
          have HMB2 := Lib.hid (fun (W : World) (k : Below V.heap.size V W) => Members_any (some ⟨K1, 0, none⟩) ⟨K2, 0, none⟩ l2 n m f1 f2 W HXV.out.hn HXV.out.hm ((HXV.out.below k).rd.low (Nat.zero_le _)) (by omega) (by omega) (by omega))
          have hS3 : (V.drew.cell? ⟨B, 0, none⟩ = some (.slice (some ⟨G1, 0, none⟩) n d1) ∧ V.drew.cell? ⟨B, 1, none⟩ = some (.slice (some ⟨G2, 0, none⟩) m d2) ∧ V.drew.cell? ⟨X, 0, none⟩ = some (.slice (some ⟨K1, 0, none⟩) n f1) ∧ V.drew.cell? ⟨X, 1, none⟩ = some (.slice (some ⟨K2, 0, none⟩) m f2)) := ⟨y0, y1, y2, y3⟩
          have HVT : Hid (vldB l = true ∧ vldB l2 = true) := Lib.hid ⟨vldB_yes HLD.out.1, vldB_yes HLD2.out.1⟩
          clear y0 y1 y2 y3 hmm
          go_region_held3 (fun W => W.cell? ⟨B, 0, none⟩ = some (.slice (some ⟨G1, 0, none⟩) n d1) ∧ W.cell? ⟨B, 1, none⟩ = some (.slice (some ⟨G2, 0, none⟩) m d2) ∧ W.cell? ⟨X, 0, none⟩ = some (.slice (some ⟨K1, 0, none⟩) n f1) ∧ W.cell? ⟨X, 1, none⟩ = some (.slice (some ⟨K2, 0, none⟩) m f2))
            (first | with_reducible exact hS6 | with_reducible exact hS5 | with_reducible exact hS3 | with_reducible assumption)
            (first | (go_at_call 32; (with_reducible refine (HMB2.out w5 hb5v).mono ?_); rw [HVT.out.2, if_pos rfl]; rintro e w6 ⟨A6, k6, c6, rfl, hk6, -, -, hr6, hb6⟩; have hb6v := hb5v.trans (hb6.mono hb5v.size); have hS6 : (w6.cell? ⟨B, 0, none⟩ = some (.slice (some ⟨G1, 0, none⟩) n d1) ∧ w6.cell? ⟨B, 1, none⟩ = some (.slice (some ⟨G2, 0, none⟩) m d2) ∧ w6.cell? ⟨X, 0, none⟩ = some (.slice (some ⟨K1, 0, none⟩) n f1) ∧ w6.cell? ⟨X, 1, none⟩ = some (.slice (some ⟨K2, 0, none⟩) m f2)) := ⟨(HLV.out.below hb6v).x0, (HLV.out.below hb6v).x1, (HXV.out.below hb6v).x0, (HXV.out.below hb6v).x1⟩) | (go_at_call 32; (with_reducible refine HMB1.out.mono ?_); rw [HVT.out.1, if_pos rfl]; rintro e w5 ⟨A5, k5, c5, rfl, hk5, -, -, hr5, hb5⟩; have hb5v : Below V.heap.size V w5 := hVd.trans hb5; have hS5 : (w5.cell? ⟨B, 0, none⟩ = some (.slice (some ⟨G1, 0, none⟩) n d1) ∧ w5.cell? ⟨B, 1, none⟩ = some (.slice (some ⟨G2, 0, none⟩) m d2) ∧ w5.cell? ⟨X, 0, none⟩ = some (.slice (some ⟨K1, 0, none⟩) n f1) ∧ w5.cell? ⟨X, 1, none⟩ = some (.slice (some ⟨K2, 0, none⟩) m f2)) := ⟨(HLV.out.below (hVd.trans hb5)).x0, (HLV.out.below (hVd.trans hb5)).x1, (HXV.out.below (hVd.trans hb5)).x0, (HXV.out.below (hVd.trans hb5)).x1⟩))
          have HL6 := Lib.hid (HLV.out.below hb6v)
          have HX6 := Lib.hid (HXV.out.below hb6v)
          have HT6 := Lib.hid (HTV.out.below hb6v)
          have HD6 := Lib.hid (MutR.below HDV.out hb6v)
          have HO5 := Lib.hid (RdR.below (RdR.low hr5 (Nat.zero_le _)) hb6)
          have HO6 := Lib.hid (RdR.low hr6 (Nat.zero_le _))
          have HK5 := Lib.hid hk5
          have HK6 := Lib.hid hk6
          have hk56 : k5 ≤ 66 ∧ k6 ≤ 66 := by
            have h1 := memV_len l
            have h2 := memV_len l2
            have h3 := HLD.out.1.n66
            have h4 := HLD2.out.1.n66
            rw [← hk5, ← hk6, nat2_len, nat2_len]
            omega
          have h6s := hb6v.size
          clear hS3 hS5 hS6 hr5 hr6 hk5 hk6 hb5 hb5v hb6 hb6v hVd HMB1 HMB2 HLV HXV HTV HDV HSP HL3 HT3 HD3
          have y0 := HL6.out.x0
          have y1 := HL6.out.x1
          obtain ⟨bq, oq, eq, -, -, p0, p1, p2, p3, p4, p5, p6⟩ := HL6.out.rd.proc (i := q) HQL.out
          injection eq with eq
          injection eq with eq1 eq2 _
          subst eq1 eq2
          rw [Nat.zero_add] at p0 p1 p2 p3 p4 p5 p6
          have q0 : (0 : Int) ≤ (q : Int) := by omega
          have q1 : (q : Int) < (m : Int) := by omega
          have hpc : 0 ≤ (l.pr q).cell := (HLD.out.1.ce HQL.out).1
          obtain ⟨P, hP⟩ : ∃ P, P = l.pr q := ⟨_, rfl⟩
          rw [← hP] at p0 p1 p2 p3 p4 p5 p6 hpc
          have HP := Lib.hid hP
          obtain ⟨pk, pc, pp, pd, ps, pn, pr⟩ := P
          simp only at p0 p1 p2 p3 p4 p5 p6 hpc
          clear hP
          go_upto_region 19 with fail
          have hPb := (Below.refl w6.heap.size w6).alloc (Nat.le_refl _) (.cells #[.int .i64 pk, .int .i64 pc, .int .i64 pp, .int .i64 pd, .int .i64 ps, .int .i64 pn, .bool pr] 41)
          have HL7 := Lib.hid (HL6.out.below hPb)
          have HX7 := Lib.hid (HX6.out.below hPb)
          have HT7 := Lib.hid (HT6.out.below hPb)
          have HD7 := Lib.hid (MutR.below HD6.out hPb)
          have HO57 := Lib.hid (RdR.below HO5.out hPb)
          have HO67 := Lib.hid (RdR.below HO6.out hPb)
          have HPX := Lib.hid (Has.new w6 41 #[.int .i64 pk, .int .i64 pc, .int .i64 pp, .int .i64 pd, .int .i64 ps, .int .i64 pn, .bool pr])
          have hs7 : (w6.alloc (.cells #[.int .i64 pk, .int .i64 pc, .int .i64 pp, .int .i64 pd, .int .i64 ps, .int .i64 pn, .bool pr] 41)).heap.size = w6.heap.size + 1 := World.size_alloc _ _
          clear hPb HL6 HX6 HT6 HD6 HO5 HO6 p0 p1 p2 p3 p4 p5 p6 y0 y1
          generalize w6.alloc (.cells #[.int .i64 pk, .int .i64 pc, .int .i64 pp, .int .i64 pd, .int .i64 ps, .int .i64 pn, .bool pr] 41) = V7 at *
          have u1 := HPX.out.cell 1
          have u2 := HPX.out.cell 2
          have hcell : (l.pr q).cell = pc := by rw [← HP.out]
          have hphase : (l.pr q).phase = pp := by rw [← HP.out]
          have HCE := Lib.hid hcell
          have HPH := Lib.hid hphase
          have hdl : q < D.length := by rw [HDA.out.1]; exact HQL.out
          have HDL := Lib.hid hdl
          clear hcell hphase hdl HP
          have HKB : Hid ((memV l).length = k5 ∧ (memV l2).length = k6) := Lib.hid ⟨by rw [← HK5.out, nat2_len], by rw [← HK6.out, nat2_len]⟩
          have HHO := Lib.hid (fun (W : World) (h1 : RdR nrow 1 W 0 A5 (nat2 (memV l))) => rhas_num A5 (nat2 (memV l)) k5 c5 0 pc W HK5.out h1 (by omega))
          have HHN := Lib.hid (fun (W : World) (h1 : RdR nrow 1 W 0 A6 (nat2 (memV l2))) => rhas_num A6 (nat2 (memV l2)) k6 c6 0 pc W HK6.out h1 (by omega))
          rw [has_decI _ hpc] at HHO HHN
          go_cut [16] (fun s wx => s = .bool gr ∧ V7 = wx)
          case first =>
            as_aux_lemma =>
            by_cases h15 : pp = 15
            · subst h15
              have hd : ((15 : Int) == 15) = true := rfl
              cases gr with
              | true =>
                obtain ⟨-, g1, g2, g3⟩ := HCH.out.g1 rfl
                rw [HCE.out] at g1 g2
                have hkk : ((k6 : Int) == (k5 : Int) + 1) = true := by have := HKB.out; simp; omega
                have hw5 : IntKind.i64.wrap ((k5 : Int) + 1) = (k5 : Int) + 1 := IntWalk.i64_in _ (by omega)
                rw [decide_eq_false g1] at HHO
                rw [decide_eq_true g2] at HHN
                clear g1 g2 g3
                go_wp2_with fail
                refine (HHO.out V7 HO57.out).mono ?_
                rintro e w' ⟨rfl, rfl⟩
                go_wp2_with fail
                refine (HHN.out V7 HO67.out).mono ?_
                rintro e w' ⟨rfl, rfl⟩
                go_wp2_with fail
                go_meet
                exact ⟨rfl, rfl⟩
              | false =>
                have hmm9 := HCH.out.g0 rfl HPH.out
                rw [hmm9] at HHN
                clear hmm9
                by_cases hc : pc.toNat ∈ memV l
                · rw [decide_eq_true hc] at HHO
                  clear hc
                  go_wp2_with fail
                  refine (HHO.out V7 HO57.out).mono ?_
                  rintro e w' ⟨rfl, rfl⟩
                  go_wp2_with fail
                  go_meet
                  exact ⟨rfl, rfl⟩
                · rw [decide_eq_false hc] at HHO HHN
                  clear hc
                  go_wp2_with fail
                  refine (HHO.out V7 HO57.out).mono ?_
                  rintro e w' ⟨rfl, rfl⟩
                  go_wp2_with fail
                  refine (HHN.out V7 (by have := HO67.out; rw [HCH.out.g0 rfl HPH.out] at this; exact this)).mono ?_
                  rintro e w' ⟨rfl, rfl⟩
                  go_wp2_with fail
                  go_meet
                  exact ⟨rfl, rfl⟩
            · have hd : (pp == 15) = false := by simpa using h15
              have hgr : gr = false := by
                cases gr with
                | false => rfl
                | true => exact absurd (HPH.out.symm.trans (HCH.out.g1 rfl).1) h15
              subst hgr
              go_wp2_with fail
              go_meet
              exact ⟨rfl, rfl⟩
          case rest =>
          obtain ⟨rfl, rfl⟩ := hcut
          go_upto_region 20 with fail
          go_cut [17] (fun s wx => s = .bool fl ∧ V7 = wx)
          case first =>
            as_aux_lemma =>
            by_cases h16 : pp = 16
            · subst h16
              have hd : ((16 : Int) == 16) = true := rfl
              cases fl with
              | true =>
                obtain ⟨-, g1, g2, g3⟩ := HCH.out.f1 rfl
                rw [HCE.out] at g1 g2
                have hkk : ((k6 : Int) == (k5 : Int) - 1) = true := by have := HKB.out; simp; omega
                have hw5 : IntKind.i64.wrap ((k5 : Int) - 1) = (k5 : Int) - 1 := IntWalk.i64_in _ (by omega)
                rw [decide_eq_true g1] at HHO
                rw [decide_eq_false g2] at HHN
                clear g1 g2 g3
                go_wp2_with fail
                refine (HHO.out V7 HO57.out).mono ?_
                rintro e w' ⟨rfl, rfl⟩
                go_wp2_with fail
                refine (HHN.out V7 HO67.out).mono ?_
                rintro e w' ⟨rfl, rfl⟩
                go_wp2_with fail
                go_meet
                exact ⟨rfl, rfl⟩
              | false =>
                have hmm9 := HCH.out.f0 rfl HPH.out
                rw [hmm9] at HHN
                clear hmm9
                by_cases hc : pc.toNat ∈ memV l
                · rw [decide_eq_true hc] at HHO HHN
                  clear hc
                  go_wp2_with fail
                  refine (HHO.out V7 HO57.out).mono ?_
                  rintro e w' ⟨rfl, rfl⟩
                  go_wp2_with fail
                  refine (HHN.out V7 (by have := HO67.out; rw [HCH.out.f0 rfl HPH.out] at this; exact this)).mono ?_
                  rintro e w' ⟨rfl, rfl⟩
                  go_wp2_with fail
                  go_meet
                  exact ⟨rfl, rfl⟩
                · rw [decide_eq_false hc] at HHO
                  clear hc
                  go_wp2_with fail
                  refine (HHO.out V7 HO57.out).mono ?_
                  rintro e w' ⟨rfl, rfl⟩
                  go_wp2_with fail
                  go_meet
                  exact ⟨rfl, rfl⟩
            · have hd : (pp == 16) = false := by simpa using h16
              have hfl : fl = false := by
                cases fl with
                | false => rfl
                | true => exact absurd (HPH.out.symm.trans (HCH.out.f1 rfl).1) h16
              subst hfl
              go_wp2_with fail
              go_meet
              exact ⟨rfl, rfl⟩
          case rest =>
          obtain ⟨rfl, rfl⟩ := hcut
          go_upto_region 21 with fail
          go_cut [140] (fun s wx => s = .bool false ∧ Below V7.heap.size V7 wx)
          case first =>
            as_aux_lemma =>
            cases gr with
            | true =>
              go_wp2_with fail
              go_meet
              exact ⟨rfl, Below.refl _ _⟩
            | false =>
              cases fl with
              | true =>
                go_wp2_with fail
                go_meet
                exact ⟨rfl, Below.refl _ _⟩
              | false =>
                have HM := Lib.hid (HCH.out.no rfl rfl)
                obtain rfl : k5 = k6 := by have := HKB.out; rw [HM.out] at this; omega
                go_wp2_with fail
                refine (rsameInts_self A5 A6 (nat2 (memV l)) k5 c5 c6 0 0 V7 HK5.out HO57.out (by have := HO67.out; rw [HM.out] at this; exact this) (by omega)).mono ?_
                rintro e w8 ⟨rfl, hb8⟩
                go_wp2_with fail
                go_meet
                exact ⟨rfl, hb8⟩
          case rest =>
          obtain ⟨rfl, hb8⟩ := hcut
          have HL8 := Lib.hid (HL7.out.below hb8)
          have HX8 := Lib.hid (HX7.out.below hb8)
          have HT8 := Lib.hid (HT7.out.below hb8)
          have HD8 := Lib.hid (MutR.below HD7.out hb8)
          have h8s := hb8.size
          clear hb8 u1 u2 HL7 HX7 HT7 HD7 HHO HHN HO57 HO67
          go_upto_region 23 with fail
          have hlx := rd_loF HX8.out.rd HLD2.out.1
          obtain ⟨dn, hdn⟩ : ∃ dn, dn = (D.getD q false || gr || fl) := ⟨_, rfl⟩
          have HL9 := Lib.hid (HL8.out.far (p := ⟨DB, q, none⟩) (by simp only; omega) (fun e => HNE.out.1 e.symm) (fun e => HNE.out.2 e.symm) (.bool dn))
          have HX9 := Lib.hid (HX8.out.far (p := ⟨DB, q, none⟩) (by simp only; omega) (by simp only; omega) (by simp only; omega) (.bool dn))
          have HT9 := Lib.hid (HT8.out.set (p := ⟨DB, q, none⟩) (by simp only; omega) hgw (.bool dn))
          have HD9 := Lib.hid (putB HD8.out HDL.out dn)
          have HDA2 : Hid (DidA l2 (D.set q dn)) := Lib.hid (by rw [hdn]; exact HCH.out.di)
          go_cut [] (fun wx => wc.setCell ⟨DB, q, none⟩ (.bool dn) = wx)
          case first =>
            as_aux_lemma =>
            have v0 := cellB HD8.out HDL.out
            have v1 := MutR.frozen HD8.out q
            clear HL9 HX9 HT9 HD9 HDA2 HL8 HX8 HT8 HD8 HCH
            generalize D.getD q false = dz at *
            subst hdn
            cases dz <;> cases gr <;> cases fl <;> (go_wp2_with fail; go_meet; rfl)
          case rest =>
          subst hcut
          clear hlx HL8 HX8 HT8 HD8 HCH hdn
          generalize wc.setCell ⟨DB, q, none⟩ (.bool dn) = V8 at *
          have HDL2 : Hid (q < (D.set q dn).length) := Lib.hid (by rw [List.length_set]; exact HDL.out)
          obtain ⟨bx, ox, ex, -, -, g0, g1, g2, g3, g4, g5, g6⟩ := HX9.out.rd.proc (i := q) (by rw [HLN2.out.2]; exact hq)
          injection ex with ex
          injection ex with ex1 ex2 _
          subst ex1 ex2
          rw [Nat.zero_add] at g0 g1 g2 g3 g4 g5 g6
          have y2 := HX9.out.x0
          have y3 := HX9.out.x1
          have hen := did_end (HDA2.out.2 q (by rw [HLN2.out.2]; exact hq))
          obtain ⟨Y, hY⟩ : ∃ Y, Y = l2.pr q := ⟨_, rfl⟩
          rw [← hY] at g0 g1 g2 g3 g4 g5 g6 hen
          clear hY
          obtain ⟨yk, yc, yp, yd, ys, yn, yr⟩ := Y
          simp only at g0 g1 g2 g3 g4 g5 g6 hen
          obtain ⟨dq, hdq⟩ : ∃ dq, dq = (D.set q dn).getD q false := ⟨_, rfl⟩
          rw [← hdq] at hen
          have HDQ := Lib.hid hdq
          have HEN := Lib.hid hen
          clear hdq hen
          go_upto_region 25 with fail
          have hYb := (Below.refl (V8).heap.size V8).alloc (Nat.le_refl _) (.cells #[.int .i64 yk, .int .i64 yc, .int .i64 yp, .int .i64 yd, .int .i64 ys, .int .i64 yn, .bool yr] 41)
          have HL10 := Lib.hid (HL9.out.below hYb)
          have HX10 := Lib.hid (HX9.out.below hYb)
          have HT10 := Lib.hid (HT9.out.below hYb)
          have HD10 := Lib.hid (MutR.below HD9.out hYb)
          have HYX := Lib.hid (Has.new (V8) 41 #[.int .i64 yk, .int .i64 yc, .int .i64 yp, .int .i64 yd, .int .i64 ys, .int .i64 yn, .bool yr])
          clear hYb g0 g1 g2 g3 g4 g5 g6 y2 y3 HL9 HX9 HT9 HD9
          generalize (V8).alloc (.cells #[.int .i64 yk, .int .i64 yc, .int .i64 yp, .int .i64 yd, .int .i64 ys, .int .i64 yn, .bool yr] 41) = V9 at *
          have j0 := HYX.out.cell 0
          have j2 := HYX.out.cell 2
          have j6 := HYX.out.cell 6
          have y0 := HL10.out.x0
          have y1 := HL10.out.x1
          have z0 := HL10.out.fz 0
          have z1 := HL10.out.fz 1
          have y2 := HX10.out.x0
          have y3 := HX10.out.x1
          have v0 := cellB HD10.out HDL2.out
          rw [← HDQ.out] at v0
          have hlo9 := rd_loF HX10.out.rd HLD2.out.1
          have HNE2 : Hid (K1 ≠ DB ∧ K2 ≠ DB) := Lib.hid (by omega)
          have HFN : Hid (∀ nq, HoL (((V9.drewN nq).setCell ⟨B, 0, none⟩ (.slice (some ⟨K1, 0, none⟩) n f1)).setCell ⟨B, 1, none⟩ (.slice (some ⟨K2, 0, none⟩) m f2)) B w1.heap.size l2 n m K1 K2 f1 f2 ∧ TStep w1 g (((V9.drewN nq).setCell ⟨B, 0, none⟩ (.slice (some ⟨K1, 0, none⟩) n f1)).setCell ⟨B, 1, none⟩ (.slice (some ⟨K2, 0, none⟩) m f2)) ∧ MutR brow 1 4 (((V9.drewN nq).setCell ⟨B, 0, none⟩ (.slice (some ⟨K1, 0, none⟩) n f1)).setCell ⟨B, 1, none⟩ (.slice (some ⟨K2, 0, none⟩) m f2)) DB m (D.set q dn)) := Lib.hid (fun nq => by
            have hbd : Below V9.heap.size V9 (V9.drewN nq) := below_drw (Below.refl _ _) nq
            have hl := HL10.out.below hbd
            exact ⟨HoL.mk2 (by rw [hl.x0]; simp) (by rw [hl.x1]; simp) hl.fz hl.lB (((HX10.out.below hbd).rd).low (by omega)) (by omega) (by omega) HLN2.out.1 HLN2.out.2, ((HT10.out.below hbd).set (p := ⟨B, 0, none⟩) hl.lB hgw _).set (p := ⟨B, 1, none⟩) hl.lB hgw _, ((MutR.below HD10.out hbd).far (p := ⟨B, 0, none⟩) (by simp only; omega) _).far (p := ⟨B, 1, none⟩) (by simp only; omega) _⟩)
          clear hlo9
          go_cut [185] (fun s wx => s = .bool false ∧ ∃ nq, wx = V9.drewN nq)
          case first =>
            as_aux_lemma =>
            by_cases e18 : yp = 18
            · subst e18
              have hy18 : ((18 : Int) == 18) = true := rfl
              by_cases e3 : yk = 3
              · subst e3
                have hy3 : ((3 : Int) != 3) = false := rfl
                clear HEN
                go_quiet (fail)
                go_wp2_with fail
                go_meet
                exact ⟨rfl, _, rfl⟩
              · obtain ⟨hrd, hr1⟩ := HEN.out rfl e3
                subst hrd
                have hy3 : (yk != 3) = true := by simpa using e3
                have hyr : (yr != yr) = false := by simp
                by_cases e1 : yk = 1
                · obtain rfl : yr = true := hr1 e1
                  subst e1
                  have hk1 : ((1 : Int) == 1) = true := rfl
                  clear HEN e3 hr1
                  go_quiet (fail)
                  go_wp2_with fail
                  go_meet
                  exact ⟨rfl, _, rfl⟩
                · have hk1 : (yk == 1) = false := by simpa using e1
                  clear HEN e3 hr1 e1
                  go_quiet (fail)
                  go_wp2_with fail
                  go_meet
                  exact ⟨rfl, _, rfl⟩
            · have hy18 : (yp == 18) = false := by simpa using e18
              clear HEN e18
              go_quiet (fail)
              go_wp2_with fail
              go_meet
              exact ⟨rfl, _, rfl⟩
          case rest =>
          obtain ⟨rfl, nq, rfl⟩ := hcut
          go_wp2_with fail
          exact ⟨⟨l2, i + 1, K1, K2, f1, f2, D.set q dn, by go_num, hlt, (HFN.out nq).1, HLD2, (HFN.out nq).2.1, (HFN.out nq).2.2, HDA2, HNE2⟩, by simp [intOf]; omega⟩
      | false =>
        go_wp2_with fail
        refine (sane12_any wa).mono ?_
        rintro e w' ⟨rfl, hb⟩
        go_wp2_with fail
        go_ret
        exact ⟨rfl, (HB1.out.grown HTa.out.2 HB1.out.size (fun j e => by have := Option.some.inj e; omega)).trans (hb.mono (by have := HTa.out.2.size; have := HB1.out.size; omega))⟩
    · have hd : decide ((i : Int) < 100) = false := by simp; omega
      go_wp2_with fail
      refine (sane12_any wr).mono ?_
      rintro e w' ⟨rfl, hb⟩
      go_wp2_with fail
      go_ret
      exact ⟨rfl, (HB1.out.grown HT.out.2 HB1.out.size (fun j e => by have := Option.some.inj e; omega)).trans (hb.mono (by have := HT.out.2.size; have := HB1.out.size; omega))⟩
end Lf
end Go.Proofs.YtmhbloefmknikaaDoor
