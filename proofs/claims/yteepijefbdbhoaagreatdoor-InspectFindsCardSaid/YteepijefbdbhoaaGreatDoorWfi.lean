/-
  The walk of InspectFinds: from whatever numbers it answers true and only makes memory. Conditions: the arguments can be read; 'letters' and the table of trailing zeros are as their initialisers lay them.
-/
import Derived.Test.YteepijefbdbhoaaGreatDoorKpM
import Derived.Test.YteepijefbdbhoaaGreatDoorLnC
import Derived.Test.YteepijefbdbhoaaGreatDoorLgJ
import Derived.StillTailTactics
namespace Go.Proofs.YteepijefbdbhoaaGreatDoor
open Go.RowKit

theorem DBlk.step {w w' : World} {gt g : Nat} {H : Nat → Nat} {ls : List Ld} {r : List (Int × Value)} (h : DBlk w g H ls r) (k : TStep w gt w') (hg : gt < g) : DBlk w' g H ls r :=
  ⟨(k.2.block g h.outer.lt (fun e => by have := Option.some.inj e; omega)).trans h.outer, fun j hj => ⟨(h.inner j hj).1, (k.2.block (H j) (h.inner j hj).2.lt (fun e => by have := Option.some.inj e; have := (h.inner j hj).1; omega)).trans (h.inner j hj).2⟩, h.mono⟩
theorem set_self {α : Type} {l : List α} {i : Nat} {v : α} (h : l[i]? = some v) : l.set i v = l := by
  obtain ⟨hi, e⟩ := List.getElem?_eq_some_iff.1 h
  subst e
  exact List.set_getElem_self hi
theorem flatK_right (l : List Lk) (i : Nat) (h : i < l.length) (z : Int) : (flatK l).set (i * 2 + 1) (.int .i64 z) = flatK (l.set i ⟨l[i].left, z⟩) := by
  have h1 := flatK_put l i h ⟨l[i].left, z⟩
  simp only at h1
  rw [set_self (flatK_at l i h).1] at h1
  exact h1
theorem flatK_left (l : List Lk) (i : Nat) (h : i < l.length) (z : Int) : (flatK l).set (i * 2) (.int .i64 z) = flatK (l.set i ⟨z, l[i].right⟩) := by
  have h1 := flatK_put l i h ⟨z, l[i].right⟩
  simp only at h1
  rw [List.set_comm _ _ (by omega), set_self (flatK_at l i h).2] at h1
  exact h1
/-- One cell of one link changed. -/
theorem DBlk.cellput {w : World} {g : Nat} {H : Nat → Nat} {ls : List Ld} {r : List (Int × Value)} (h : DBlk w g H ls r) {j c : Nat} (hj : j < ls.length) (q : List Lk) (v : Value) (hq : (flatK ls[j].levels).set c v = flatK q) (hl : q.length = ls[j].levels.length) :
    DBlk (w.setCell ⟨H j, c, none⟩ v) g H (ls.set j ⟨ls[j].id, q⟩) r := by
  obtain ⟨h1, h2⟩ := h.inner j hj
  refine ⟨?_, fun i hi => ?_, fun i m k1 k2 => h.mono i m k1 (by rwa [List.length_set] at k2)⟩
  · rw [dq_set _ _ _ _ (fun _ => ⟨rfl, hl.symm⟩)]
    exact h.outer.far (p := ⟨H j, c, none⟩) (by show g ≠ H j; omega) _
  · have hi2 : i < ls.length := by rwa [List.length_set] at hi
    obtain ⟨k1, k2⟩ := h.inner i hi2
    refine ⟨k1, ?_⟩
    by_cases e : j = i
    · subst e
      have e1 : (ls.set j (⟨ls[j].id, q⟩ : Ld))[j] = ⟨ls[j].id, q⟩ := List.getElem_set_self _
      rw [e1]
      have ho := h2.set_ c v
      rw [List.setIfInBounds_toArray, hq] at ho
      exact ho
    · have e1 : (ls.set j (⟨ls[j].id, q⟩ : Ld))[i] = ls[i] := List.getElem_set_ne e _
      rw [e1]
      have hne : H i ≠ H j := by
        rcases Nat.lt_trichotomy i j with h5 | h5 | h5
        · have := h.mono i j h5 hj; omega
        · exact absurd h5.symm e
        · have := h.mono j i h5 hi2; omega
      exact k2.far (p := ⟨H j, c, none⟩) hne _
theorem knd_four (l : List Nd) (x : Nd) (hv t side : Int) : (kndV l x hv t side = 4) ↔ hv = 0 := by
  unfold kndV
  by_cases h0 : hv = 0
  · simp [h0]
  · rw [if_neg h0]
    constructor
    · intro h
      split at h
      · split at h
        · cases h
        · split at h <;> cases h
      · cases h
    · intro h
      exact absurd h h0
/-- What InspectFinds asks of links with one number changed. -/
theorem finds_plain {l : List Nd} (hc : chkV l = 0) {m i t : Nat} (hm : m ≤ 16) (hi : i < (srt l).length) (hB : i < (bldV l (m + 1)).length) :
    (bldV l (m + 1))[i].id = (srt l)[i].id ∧ (bldV l (m + 1))[i].levels.length = m + 1 ∧ (∀ h : t < (bldV l (m + 1))[i].levels.length, (bldV l (m + 1))[i].levels[t] = nbL l (srt l)[i].id (t : Int)) ∧
    (∀ y, (bldV l (m + 1)).set i ⟨(bldV l (m + 1))[i].id, (bldV l (m + 1))[i].levels.set t y⟩ = putV l (m + 1) i t y) := by
  have e := bldV_at hc (n := m + 1) (by omega) hi hB
  refine ⟨by rw [e], by rw [e]; simp, fun h => by simp only [e, List.getElem_map, List.getElem_range], fun y => ?_⟩
  unfold putV
  rw [List.getElem?_eq_getElem hB]
  rfl
theorem finds_exact {l : List Nd} (hc : chkV l = 0) {m : Nat} (hm : m ≤ 16) {k : List Ld} (h : chkD l k (m + 1) ≠ []) : exaB l k (m : Int) = false := by
  have e2 : ((m : Int) + 1).toNat = m + 1 := by omega
  unfold exaB
  rw [e2]
  by_cases hk : k = bldV l (m + 1)
  · exfalso
    subst hk
    exact h ((chkD_nil hc (by omega)).2 (nrm_bld hc (by omega)))
  · rw [decide_eq_false hk, Bool.and_false]
theorem put_wide {l : List Nd} (hc : chkV l = 0) {n i t : Nat} {y : Lk} (hn : n ≤ 17) (hi : i < (bldV l n).length) (hy : LkW y) : ∀ x ∈ putV l n i t y, I64 x.id ∧ x.levels.length ≤ maxLen ∧ ∀ z ∈ x.levels, LkW z := fun x hx => by
  have hw := bldV_wide (wide_of hc) n
  unfold putV at hx
  rw [List.getElem?_eq_getElem hi] at hx
  simp only [Option.getD_some] at hx
  rcases List.mem_or_eq_of_mem_set hx with h | h
  · obtain ⟨h1, h2, h3⟩ := hw x h
    exact ⟨h1, by unfold maxLen; omega, h3⟩
  · subst h
    obtain ⟨h1, h2, h3⟩ := hw _ (List.getElem_mem hi)
    refine ⟨h1, by simp only [List.length_set]; unfold maxLen; omega, fun z hz => ?_⟩
    rcases List.mem_or_eq_of_mem_set hz with h | h
    · exact h3 z h
    · rw [h]; exact hy
theorem put_len (l : List Nd) (n i t : Nat) (y : Lk) : (putV l n i t y).length = l.length := by
  unfold putV
  rw [List.length_set, bld_len]
set_option maxRecDepth 100000 in
set_option maxHeartbeats 3200000 in
theorem finds_walk (A : Option Addr) (n0 cp : Nat) (wth : Int) (w : World) (hL : Lets w) (hT : Deb w) (hnc : n0 ≤ cp) (hc : cp ≤ maxLen) (hN : Nums w w.heap.size A n0) (hwth : -9223372036854775808 ≤ wth ∧ wth ≤ 9223372036854775807) :
    Calls Tryz.prog 5 #[.slice A n0 cp, .int .i64 wth] w (LawP w) := by
  have HSA := Lib.hid sane7_any
  have HDB := Lib.hid hT
  go_enter Tryz.func5, Tryz.ntmps5
  go_wp2_with fail
  refine (new_any A n0 cp _ hnc hc hN).mono ?_
  rintro e w1 ⟨g, hg1, rfl, hTp, hb1⟩
  have hne2 : 0 ≠ g := by have := hL.lt; omega
  have l1 := hL.below hb1
  clear hN hnc hc hL hT
  go_wp2_with fail
  refine (some_any 7 g w1 (by omega) (by omega) hTp l1 hne2).mono ?_
  rintro e w2 ⟨A2, c2, l, rfl, ho, hl0, hl8, hchk, hst⟩
  have hB2 : Below w.heap.size w w2 := hb1.grown hst.2 hb1.size (fun j e => by have := Option.some.inj e; omega)
  have hgw : g < w1.heap.size := hTp.lt
  obtain ⟨_, _, er, hnd⟩ := ho.read
  injection er with e1 e3 e2
  clear e3
  subst e1 e2
  have hA2 : ∀ b o, A2 = some ⟨b, o, none⟩ → b ≠ g := fun b o e => by
    have := (ho.lt b (by rw [e]; rfl)).1
    omega
  have hwide : ∀ x ∈ l, x.wide := wide_of hchk
  have hl1 : 1 ≤ l.length := List.length_pos_iff.2 hl0
  have HB2 := Lib.hid hB2
  have HST := Lib.hid hst
  clear l1 hTp hb1 ho hst hB2 hl0
  go_wp2_with fail
  refine (next_any g 4 w2 HST.out.1 (by omega)).mono ?_
  rintro e w3 ⟨r, r0, r1, rfl, hst3⟩
  obtain ⟨m, rfl⟩ : ∃ m : Nat, r = (m : Int) := ⟨r.toNat, by omega⟩
  have hm : m ≤ 3 := by omega
  have HB3 := Lib.hid (HB2.out.grown hst3.2 HB2.out.size (fun j e => by have := Option.some.inj e; omega))
  have hnd3 := nds_step hnd hA2 hst3
  have HND3 := Lib.hid hnd3
  have HG3 := Lib.hid (show g < w3.heap.size from by have := hst3.2.size; have := HST.out.2.size; omega)
  have HT3 := Lib.hid hst3.1
  have HBL := Lib.hid (build_ok A2 l c2 m w3 hnd3 hchk (by omega))
  have HBN : Hid ((bldV l (m + 1)).length = l.length) := Lib.hid (bld_len l (m + 1))
  have HSL : Hid ((srt l).length = l.length) := Lib.hid (srt_srt l).1.length_eq
  have HBV : Hid (∀ x ∈ bldV l (m + 1), x.levels.length = m + 1) := Lib.hid (bld_lev l (m + 1))
  obtain ⟨LN, hLN⟩ : ∃ LN, LN = l.length := ⟨_, rfl⟩
  have HLN := Lib.hid hLN
  rw [← hLN] at HBN HSL HBL hl1 hl8 ⊢
  have HCK := Lib.hid hchk
  clear r0 r1 hst3 hnd3 hnd HST HB2 hLN hchk
  go_wp2_with fail
  refine (HBL.out).mono ?_
  rintro e w4 ⟨g5, H5, hg5, he, hD5, hb4⟩
  rw [HBN.out] at he
  subst he
  have hgg : g < g5 := by have := HG3.out; omega
  have HD4 := Lib.hid hD5
  have hb4t := HT3.out.below hb4
  have HND4 := Lib.hid ((HND3.out.below hb4).more hb4.size)
  have HB4 := Lib.hid (HB3.out.trans (hb4.mono HB3.out.size))
  have hnn : ((LN : Int) != (LN : Int)) = false := by simp
  have HGB := Lib.hid hg5
  have HB3s := Lib.hid HB3.out.size
  clear hD5 hb4 HBL HB3 hg5
  go_wp2_with fail
  refine (next_any g (LN : Int) w4 hb4t (by omega)).mono ?_
  rintro e w5 ⟨r, r0, r1, rfl, hst5⟩
  obtain ⟨i, rfl⟩ : ∃ i : Nat, r = (i : Int) := ⟨r.toNat, by omega⟩
  have hi : i < LN := by omega
  have HS5 := Lib.hid hst5
  have HG4 := Lib.hid (show g < w4.heap.size from hb4t.lt)
  clear r0 r1 hst5 hb4t
  go_wp2_with fail
  refine (next_any g ((m : Int) + 1) w5 HS5.out.1 (by omega)).mono ?_
  rintro e w6 ⟨r, r0, r1, rfl, hst6⟩
  obtain ⟨t, rfl⟩ : ∃ t : Nat, r = (t : Int) := ⟨r.toNat, by omega⟩
  have ht : t < m + 1 := by omega
  have HS6 := Lib.hid (HS5.out.trans hst6)
  clear r0 r1 hst6
  go_wp2_with fail
  refine (next_any g 2 w6 HS6.out.1 (by omega)).mono ?_
  rintro e w7 ⟨s, s0, s1, rfl, hst7⟩
  have hs : s = 0 ∨ s = 1 := by omega
  have HS7 := Lib.hid (HS6.out.trans hst7)
  have HD7 := Lib.hid (HD4.out.step HS7.out hgg)
  have hiB : i < (bldV l (m + 1)).length := by rw [HBN.out]; exact hi
  have hiS : i < (srt l).length := by rw [HSL.out]; exact hi
  obtain ⟨p1, p2, p3, p4⟩ := finds_plain HCK.out (m := m) (i := i) (t := t) (by omega) hiS hiB
  have hh := HD7.out.head (j := i) hiB
  have htl : t < (bldV l (m + 1))[i].levels.length := by rw [p2]; exact ht
  have HXI : Hid (∀ k : List Ld, True) := Lib.hid fun _ => trivial
  have HP1 := Lib.hid p1
  have HP3 := Lib.hid (p3 htl)
  have HP4 := Lib.hid p4
  have HFR := Lib.hid (fun hv => finds_right HCK.out (n := m + 1) (by omega) hiS ht hv)
  have HFL := Lib.hid (fun hv => finds_left HCK.out (n := m + 1) (by omega) hiS ht hv)
  have HPR := Lib.hid (fun (W : World) (hD : DBlk W g5 H5 (bldV l (m + 1)) []) (z : Int) => (show DBlk (W.setCell ⟨H5 i, t * 2 + 1, none⟩ (.int .i64 z)) g5 H5 (putV l (m + 1) i t ⟨(nbL l (srt l)[i].id (t : Int)).left, z⟩) [] from by
    have h1 := hD.cellput hiB _ _ (flatK_right (bldV l (m + 1))[i].levels t htl z) (by simp)
    rw [p4, p3 htl] at h1
    exact h1))
  have HPL := Lib.hid (fun (W : World) (hD : DBlk W g5 H5 (bldV l (m + 1)) []) (z : Int) => (show DBlk (W.setCell ⟨H5 i, t * 2, none⟩ (.int .i64 z)) g5 H5 (putV l (m + 1) i t ⟨z, (nbL l (srt l)[i].id (t : Int)).right⟩) [] from by
    have h1 := hD.cellput hiB _ _ (flatK_left (bldV l (m + 1))[i].levels t htl z) (by simp)
    rw [p4, p3 htl] at h1
    exact h1))
  have HPW := Lib.hid (fun (y : Lk) (hy : LkW y) => put_wide (t := t) HCK.out (n := m + 1) (by omega) hiB hy)
  have HPN := Lib.hid (fun (y : Lk) => put_len l (m + 1) i t y)
  have HNW : Hid (LkW (nbL l (srt l)[i].id (t : Int))) := Lib.hid (by
    have h1 := (bldV_wide (wide_of HCK.out) (m + 1) _ (List.getElem_mem hiB)).2.2 _ (List.getElem_mem htl)
    rw [p3 htl] at h1
    exact h1)
  have HLV := Lib.hid (fun (W : World) (hD : DBlk W g5 H5 (bldV l (m + 1)) []) => (show W.cell? ⟨H5 i, t * 2, none⟩ = some (.int .i64 (nbL l (srt l)[i].id (t : Int)).left) ∧ W.cell? ⟨H5 i, t * 2 + 1, none⟩ = some (.int .i64 (nbL l (srt l)[i].id (t : Int)).right) ∧ (∀ o, W.frozen? ⟨H5 i, o, none⟩ = false) ∧ H5 i < W.heap.size from by
    have h1 := hD.lev (j := i) (k := t) hiB htl
    rw [p3 htl] at h1
    exact ⟨h1.1, h1.2, fun o => (hD.inner i hiB).2.frozen o, (hD.inner i hiB).2.lt⟩))
  have HHG : Hid (g5 < H5 i) := Lib.hid (HD7.out.inner i hiB).1
  have HHD := Lib.hid (fun (W : World) (y : Lk) (hD : DBlk W g5 H5 (putV l (m + 1) i t y) []) => (show W.cell? ⟨g5, i * 2, none⟩ = some (.int .i64 (srt l)[i].id) from by
    have hpl : i < (putV l (m + 1) i t y).length := by rw [put_len, ← HLN.out]; exact hi
    have h1 := (hD.head (j := i) hpl).1
    have e1 : (putV l (m + 1) i t y)[i].id = (srt l)[i].id := by
      unfold putV
      simp only [List.getElem_set_self, List.getElem?_eq_getElem hiB, Option.getD_some]
      exact p1
    rw [e1] at h1
    exact h1))
  have hh2 := hh.2
  rw [p2] at hh2
  have HND7 := Lib.hid (nds_step HND4.out hA2 HS7.out)
  have HB7 := Lib.hid (HB4.out.grown HS7.out.2 HB4.out.size (fun j e => by have := Option.some.inj e; omega))
  have HSI := Lib.hid (fun (k : List Ld) (h : chkD l k (m + 1) ≠ []) => finds_exact HCK.out (m := m) (by omega) h)
  generalize hxx : (srt l)[i] = x at *
  generalize hnb : nbL l x.id (t : Int) = nb at *
  obtain ⟨nl, nr⟩ := nb
  simp only at HPR HPL HLV HFR HFL HNW
  have i0 : (0 : Int) ≤ (i : Int) := by omega
  have i1 : (i : Int) < (LN : Int) := by omega
  have t0 : (0 : Int) ≤ (t : Int) := by omega
  have t1 : (t : Int) < (m : Int) + 1 := by omega
  have hmm : (((m : Int) + 1) != ((m : Int) + 1)) = false := by simp
  clear p1 p2 p3 p4 hh hst7 s0 s1 HS5 HS6 hxx hnb HD4 HND4 HB4 HXI
  have HIDD := Lib.hid (idr_any A2 l c2 g w7 HS7.out.1 HND7.out (by have := HLN.out; omega) hA2 hwide)
  rw [← HLN.out] at HIDD
  have HD7 := HD7
  go_upto_region 10 with fail
  clear hh2 hmm hnn
  go_wp2_with fail
  refine (HIDD.out).mono ?_
  rintro e w8 ⟨v, hv, rfl, hst8⟩
  have HST8 := Lib.hid hst8
  have hbZ := (Below.refl w8.heap.size w8).alloc (Nat.le_refl _) (.cells #[.int .i64 wth, .int .i64 v, .int .i64 0] 3)
  have hZ := Has.new w8 3 #[.int .i64 wth, .int .i64 v, .int .i64 0]
  have HZ := Lib.hid hZ
  have HSZ := Lib.hid (hst8.alloc (.cells #[.int .i64 wth, .int .i64 v, .int .i64 0] 3))
  have HGZ := Lib.hid (show g < w8.heap.size from by have := hst8.2.size; have := HS7.out.2.size; have := HG4.out; omega)
  clear hst8 hbZ hZ HIDD
  go_wp2_with fail
  refine (next_any g 3 _ HSZ.out.1 (by omega)).mono ?_
  rintro e w9 ⟨r, r0, r1, rfl, hst9⟩
  obtain ⟨k, rfl⟩ : ∃ k : Nat, r = (k : Int) := ⟨r.toNat, by omega⟩
  have hk3 : k < 3 := by omega
  have hkz : ∀ o, w9.cell? ⟨w8.heap.size, o, none⟩ = (#[.int .i64 wth, .int .i64 v, .int .i64 0] : Array Value)[o]? := fun o => (hst9.keeps.1 w8.heap.size o (by rw [World.size_alloc]; omega) (by have := HGZ.out; omega)).trans (HZ.out.cell o)
  obtain ⟨hv9, hvw, hvc⟩ : ∃ h : Int, (-9223372036854775808 ≤ h ∧ h ≤ 9223372036854775807) ∧ w9.cell? ⟨w8.heap.size, k, none⟩ = some (.int .i64 h) := by
    obtain rfl | rfl | rfl : k = 0 ∨ k = 1 ∨ k = 2 := by omega
    · exact ⟨wth, hwth, hkz 0⟩
    · exact ⟨v, hv, hkz 1⟩
    · exact ⟨0, by omega, hkz 2⟩
  have HS9 := Lib.hid (HSZ.out.trans hst9)
  have HD9 := Lib.hid (HD7.out.step HS9.out hgg)
  have HND9 := Lib.hid (nds_step HND7.out hA2 HS9.out)
  have HB9 := Lib.hid (HB7.out.grown HS9.out.2 HB7.out.size (fun j e => by have := Option.some.inj e; omega))
  obtain ⟨a0, a1, az, alt⟩ := HLV.out w9 HD9.out
  have k0 : (0 : Int) ≤ (k : Int) := by omega
  have k1 : (k : Int) < 3 := by omega
  have HAZ := Lib.hid az
  have HWV := Lib.hid hvw
  clear hst9 r0 r1 hkz hv HSZ HZ HST8 HD7 HND7 HB7 az
  go_upto_region 11 with fail
  clear hvc
  rcases hs with rfl | rfl
  · have HDX := Lib.hid (HPL.out w9 HD9.out hv9)
    have z0 := fun o => HAZ.out o
    have HNX : Hid (Nds (w9.setCell ⟨H5 i, t * 2, none⟩ (.int .i64 hv9)) w3.heap.size A2 l) := Lib.hid ((show Nds w9 w3.heap.size A2 l from fun hn => by
      obtain ⟨b, o, e, hb, hc⟩ := HND9.out hn
      obtain ⟨b2, o2, e2, hb2, _⟩ := HND3.out hn
      rw [e] at e2
      injection e2 with e2
      injection e2 with e3 e4
      subst e3
      exact ⟨b, o, e, hb2, hc⟩).keep fun j hj => Below.heap_setCell _ ⟨H5 i, t * 2, none⟩ _ j (by show j ≠ H5 i; have := HHG.out; have := HGB.out; omega))
    have hws : w.heap.size ≤ w3.heap.size := HB3s.out
    have HBX := Lib.hid (HB9.out.setCell (p := ⟨H5 i, t * 2, none⟩) (by show w.heap.size ≤ H5 i; have := HHG.out; have := HGB.out; omega) (.int .i64 hv9))
    have HTX := Lib.hid (HDB.out.below HBX.out)
    have HWS : Hid (w3.heap.size ≤ (w9.setCell ⟨H5 i, t * 2, none⟩ (.int .i64 hv9)).heap.size) := Lib.hid (by
      have h1 := HDX.out.outer.lt
      have := HGB.out
      omega)
    have HC := Lib.hid (HFL.out hv9)
    have HCN := Lib.hid (fun h => HSI.out (putV l (m + 1) i t ⟨hv9, nr⟩) h)
    have HPV := Lib.hid (HPW.out ⟨hv9, nr⟩ ⟨HWV.out, HNW.out.2⟩)
    have HPL0 := Lib.hid (HPN.out ⟨hv9, nr⟩)
    have HID := Lib.hid (fun (W : World) hD => HHD.out W ⟨hv9, nr⟩ hD)
    generalize putV l (m + 1) i t ⟨hv9, nr⟩ = PV at *
    rw [← HLN.out] at HPL0
    have HCHK := Lib.hid (fun (W : World) (k : Below (w9.setCell ⟨H5 i, t * 2, none⟩ (.int .i64 hv9)).heap.size (w9.setCell ⟨H5 i, t * 2, none⟩ (.int .i64 hv9)) W) => icheck_ok A2 (some ⟨g5, 0, none⟩) l PV c2 LN m W (((HNX.out.more HWS.out).below k).more k.size) (((HDX.out.read fun x hx => (HPV.out x hx).2.1).below k).more k.size) (fun x hx => (HPV.out x hx).1) (by rw [HPL0.out]; unfold maxLen; omega) (fun x hx y hy => (HPV.out x hx).2.2 y hy) (HTX.out.below k) HCK.out (by omega))
    have HEXA := Lib.hid (fun (W : World) (k : Below (w9.setCell ⟨H5 i, t * 2, none⟩ (.int .i64 hv9)).heap.size (w9.setCell ⟨H5 i, t * 2, none⟩ (.int .i64 hv9)) W) => exact_any A2 (some ⟨g5, 0, none⟩) l PV c2 LN (m : Int) W (((HNX.out.more HWS.out).below k).more k.size) (((HDX.out.read fun x hx => (HPV.out x hx).2.1).below k).more k.size) (by rw [HPL0.out]; unfold maxLen; omega) (fun x hx => (hwide x hx).2))
    rw [HPL0.out] at HCHK HEXA
    rw [← HLN.out] at HCHK HEXA
    rw [HC.out] at HCHK HCN
    have HK4 := Lib.hid (knd_four l x hv9 (t : Int) 0)
    have HDS : Hid (dfS l x (t : Int) 0 hv9 nl = if hv9 = nl then [] else [⟨kndV l x hv9 (t : Int) 0, x.id, (t : Int), 0, hv9, nl⟩]) := Lib.hid rfl
    generalize kndV l x hv9 (t : Int) 0 = KV at *
    generalize dfS l x (t : Int) 0 hv9 nl = DS at *
    generalize exaB l PV (m : Int) = EX at *
    clear HNX HWS HC HPV HPL0 HAZ
    go_upto_region 15 with fail
    generalize w9.setCell ⟨H5 i, t * 2, none⟩ (.int .i64 hv9) = WS at *
    clear a0 a1 alt z0
    go_wp2_with fail
    refine (HCHK.out WS (Below.refl _ _)).mono ?_
    rintro e wa ⟨va, rfl, hoa, hba⟩
    have HBA := Lib.hid hba
    have HBB := Lib.hid (HBX.out.trans (hba.mono HBX.out.size))
    have HIX := Lib.hid (HID.out wa (HDX.out.below hba))
    have HTL : Hid (∀ W, Below w.heap.size w W → Calls Tryz.prog 16 #[] W (LawP W)) := Lib.hid fun W k => HSA.out W (HDB.out.below k)
    by_cases hvn : hv9 = nl
    · have hDS0 : DS = [] := by rw [HDS.out, if_pos hvn]
      rw [hDS0] at hoa
      obtain ⟨Aa, ca, hva⟩ := hoa.shape
      subst hva
      have hz : (hv9 == nl) = true := by simpa using hvn
      clear hoa hba hvn hDS0 HK4
      go_wp2_with fail
      refine (HTL.out _ HBB.out).mono ?_
      rintro e wb ⟨rfl, hbb⟩
      have HBC := Lib.hid (HBB.out.trans (hbb.mono HBB.out.size))
      clear hbb
      go_wp2_with fail
      go_ret
      exact ⟨rfl, HBC.out⟩
    · have hDS1 : DS = [⟨KV, x.id, (t : Int), 0, hv9, nl⟩] := by rw [HDS.out, if_neg hvn]
      rw [hDS1] at hoa
      have hEX : EX = false := HCN.out (by rw [hDS1]; simp)
      subst hEX
      obtain ⟨Aa, ca, hva, hra⟩ := hoa.read
      have hva' : va = .slice Aa 1 ca := hva
      subst hva'
      obtain ⟨b, o, eA, hbl, hcc⟩ := hra (by simp)
      subst eA
      have d0 : wa.drew.cell? ⟨b, o, none⟩ = some (.int .i64 KV) := hcc 0 (by simp) 0 (by omega)
      have d1 : wa.drew.cell? ⟨b, o + 1, none⟩ = some (.int .i64 x.id) := hcc 0 (by simp) 1 (by omega)
      have d2 : wa.drew.cell? ⟨b, o + 2, none⟩ = some (.int .i64 (t : Int)) := hcc 0 (by simp) 2 (by omega)
      have d3 : wa.drew.cell? ⟨b, o + 3, none⟩ = some (.int .i64 0) := hcc 0 (by simp) 3 (by omega)
      have d4 : wa.drew.cell? ⟨b, o + 4, none⟩ = some (.int .i64 hv9) := hcc 0 (by simp) 4 (by omega)
      have d5 : wa.drew.cell? ⟨b, o + 5, none⟩ = some (.int .i64 nl) := hcc 0 (by simp) 5 (by omega)
      have d6 : wa.drew.cell? ⟨g5, i * 2, none⟩ = some (.int .i64 x.id) := HIX.out
      have HBA := Lib.hid hba.drew
      have HBB := Lib.hid HBB.out.drew
      have hz : (hv9 == nl) = false := by simpa using hvn
      obtain ⟨BB, hB0⟩ : ∃ BB, (hv9 == 0) = BB := ⟨_, rfl⟩
      have hB4 : (KV == 4) = BB := by
        rw [← hB0]
        rw [Bool.eq_iff_iff]
        simp [HK4.out]
      have hBB : (BB == BB) = true := by simp
      clear hoa hba hvn hDS1 hva hra hbl hcc
      go_wp2_with fail
      refine wp_region_still_tail 61 (by kernel_rfl) (by kernel_rfl) ?_
      change wpStill _ _ wa.drew (fun a' => wpList _ _ _ _ a' wa.drew) _ _
      generalize wa.drew = wy at *
      repeat still_step
      refine wpStill_nil ?_
      go_wp2_with fail
      refine (HEXA.out wy HBA.out).mono ?_
      rintro e wb ⟨rfl, hbb⟩
      have HBC := Lib.hid (HBB.out.trans (hbb.mono HBB.out.size))
      clear hbb d0 d1 d2 d3 d4 d5 d6
      go_wp2_with fail
      refine (HTL.out _ HBC.out).mono ?_
      rintro e wc ⟨rfl, hbc⟩
      have HBD := Lib.hid (HBC.out.trans (hbc.mono HBC.out.size))
      clear hbc
      go_wp2_with fail
      go_ret
      exact ⟨rfl, HBD.out⟩
  · have HDX := Lib.hid (HPR.out w9 HD9.out hv9)
    have z0 := fun o => HAZ.out o
    have HNX : Hid (Nds (w9.setCell ⟨H5 i, t * 2 + 1, none⟩ (.int .i64 hv9)) w3.heap.size A2 l) := Lib.hid ((show Nds w9 w3.heap.size A2 l from fun hn => by
      obtain ⟨b, o, e, hb, hc⟩ := HND9.out hn
      obtain ⟨b2, o2, e2, hb2, _⟩ := HND3.out hn
      rw [e] at e2
      injection e2 with e2
      injection e2 with e3 e4
      subst e3
      exact ⟨b, o, e, hb2, hc⟩).keep fun j hj => Below.heap_setCell _ ⟨H5 i, t * 2 + 1, none⟩ _ j (by show j ≠ H5 i; have := HHG.out; have := HGB.out; omega))
    have hws : w.heap.size ≤ w3.heap.size := HB3s.out
    have HBX := Lib.hid (HB9.out.setCell (p := ⟨H5 i, t * 2 + 1, none⟩) (by show w.heap.size ≤ H5 i; have := HHG.out; have := HGB.out; omega) (.int .i64 hv9))
    have HTX := Lib.hid (HDB.out.below HBX.out)
    have HWS : Hid (w3.heap.size ≤ (w9.setCell ⟨H5 i, t * 2 + 1, none⟩ (.int .i64 hv9)).heap.size) := Lib.hid (by
      have h1 := HDX.out.outer.lt
      have := HGB.out
      omega)
    have HC := Lib.hid (HFR.out hv9)
    have HCN := Lib.hid (fun h => HSI.out (putV l (m + 1) i t ⟨nl, hv9⟩) h)
    have HPV := Lib.hid (HPW.out ⟨nl, hv9⟩ ⟨HNW.out.1, HWV.out⟩)
    have HPL0 := Lib.hid (HPN.out ⟨nl, hv9⟩)
    have HID := Lib.hid (fun (W : World) hD => HHD.out W ⟨nl, hv9⟩ hD)
    generalize putV l (m + 1) i t ⟨nl, hv9⟩ = PV at *
    rw [← HLN.out] at HPL0
    have HCHK := Lib.hid (fun (W : World) (k : Below (w9.setCell ⟨H5 i, t * 2 + 1, none⟩ (.int .i64 hv9)).heap.size (w9.setCell ⟨H5 i, t * 2 + 1, none⟩ (.int .i64 hv9)) W) => icheck_ok A2 (some ⟨g5, 0, none⟩) l PV c2 LN m W (((HNX.out.more HWS.out).below k).more k.size) (((HDX.out.read fun x hx => (HPV.out x hx).2.1).below k).more k.size) (fun x hx => (HPV.out x hx).1) (by rw [HPL0.out]; unfold maxLen; omega) (fun x hx y hy => (HPV.out x hx).2.2 y hy) (HTX.out.below k) HCK.out (by omega))
    have HEXA := Lib.hid (fun (W : World) (k : Below (w9.setCell ⟨H5 i, t * 2 + 1, none⟩ (.int .i64 hv9)).heap.size (w9.setCell ⟨H5 i, t * 2 + 1, none⟩ (.int .i64 hv9)) W) => exact_any A2 (some ⟨g5, 0, none⟩) l PV c2 LN (m : Int) W (((HNX.out.more HWS.out).below k).more k.size) (((HDX.out.read fun x hx => (HPV.out x hx).2.1).below k).more k.size) (by rw [HPL0.out]; unfold maxLen; omega) (fun x hx => (hwide x hx).2))
    rw [HPL0.out] at HCHK HEXA
    rw [← HLN.out] at HCHK HEXA
    rw [HC.out] at HCHK HCN
    have HK4 := Lib.hid (knd_four l x hv9 (t : Int) 1)
    have HDS : Hid (dfS l x (t : Int) 1 hv9 nr = if hv9 = nr then [] else [⟨kndV l x hv9 (t : Int) 1, x.id, (t : Int), 1, hv9, nr⟩]) := Lib.hid rfl
    generalize kndV l x hv9 (t : Int) 1 = KV at *
    generalize dfS l x (t : Int) 1 hv9 nr = DS at *
    generalize exaB l PV (m : Int) = EX at *
    clear HNX HWS HC HPV HPL0 HAZ
    go_upto_region 15 with fail
    generalize w9.setCell ⟨H5 i, t * 2 + 1, none⟩ (.int .i64 hv9) = WS at *
    clear a0 a1 alt z0
    go_wp2_with fail
    refine (HCHK.out WS (Below.refl _ _)).mono ?_
    rintro e wa ⟨va, rfl, hoa, hba⟩
    have HBA := Lib.hid hba
    have HBB := Lib.hid (HBX.out.trans (hba.mono HBX.out.size))
    have HIX := Lib.hid (HID.out wa (HDX.out.below hba))
    have HTL : Hid (∀ W, Below w.heap.size w W → Calls Tryz.prog 16 #[] W (LawP W)) := Lib.hid fun W k => HSA.out W (HDB.out.below k)
    by_cases hvn : hv9 = nr
    · have hDS0 : DS = [] := by rw [HDS.out, if_pos hvn]
      rw [hDS0] at hoa
      obtain ⟨Aa, ca, hva⟩ := hoa.shape
      subst hva
      have hz : (hv9 == nr) = true := by simpa using hvn
      clear hoa hba hvn hDS0 HK4
      go_wp2_with fail
      refine (HTL.out _ HBB.out).mono ?_
      rintro e wb ⟨rfl, hbb⟩
      have HBC := Lib.hid (HBB.out.trans (hbb.mono HBB.out.size))
      clear hbb
      go_wp2_with fail
      go_ret
      exact ⟨rfl, HBC.out⟩
    · have hDS1 : DS = [⟨KV, x.id, (t : Int), 1, hv9, nr⟩] := by rw [HDS.out, if_neg hvn]
      rw [hDS1] at hoa
      have hEX : EX = false := HCN.out (by rw [hDS1]; simp)
      subst hEX
      obtain ⟨Aa, ca, hva, hra⟩ := hoa.read
      have hva' : va = .slice Aa 1 ca := hva
      subst hva'
      obtain ⟨b, o, eA, hbl, hcc⟩ := hra (by simp)
      subst eA
      have d0 : wa.drew.cell? ⟨b, o, none⟩ = some (.int .i64 KV) := hcc 0 (by simp) 0 (by omega)
      have d1 : wa.drew.cell? ⟨b, o + 1, none⟩ = some (.int .i64 x.id) := hcc 0 (by simp) 1 (by omega)
      have d2 : wa.drew.cell? ⟨b, o + 2, none⟩ = some (.int .i64 (t : Int)) := hcc 0 (by simp) 2 (by omega)
      have d3 : wa.drew.cell? ⟨b, o + 3, none⟩ = some (.int .i64 1) := hcc 0 (by simp) 3 (by omega)
      have d4 : wa.drew.cell? ⟨b, o + 4, none⟩ = some (.int .i64 hv9) := hcc 0 (by simp) 4 (by omega)
      have d5 : wa.drew.cell? ⟨b, o + 5, none⟩ = some (.int .i64 nr) := hcc 0 (by simp) 5 (by omega)
      have d6 : wa.drew.cell? ⟨g5, i * 2, none⟩ = some (.int .i64 x.id) := HIX.out
      have HBA := Lib.hid hba.drew
      have HBB := Lib.hid HBB.out.drew
      have hz : (hv9 == nr) = false := by simpa using hvn
      obtain ⟨BB, hB0⟩ : ∃ BB, (hv9 == 0) = BB := ⟨_, rfl⟩
      have hB4 : (KV == 4) = BB := by
        rw [← hB0]
        rw [Bool.eq_iff_iff]
        simp [HK4.out]
      have hBB : (BB == BB) = true := by simp
      clear hoa hba hvn hDS1 hva hra hbl hcc
      go_wp2_with fail
      refine wp_region_still_tail 61 (by kernel_rfl) (by kernel_rfl) ?_
      change wpStill _ _ wa.drew (fun a' => wpList _ _ _ _ a' wa.drew) _ _
      generalize wa.drew = wy at *
      repeat still_step
      refine wpStill_nil ?_
      go_wp2_with fail
      refine (HEXA.out wy HBA.out).mono ?_
      rintro e wb ⟨rfl, hbb⟩
      have HBC := Lib.hid (HBB.out.trans (hbb.mono HBB.out.size))
      clear hbb d0 d1 d2 d3 d4 d5 d6
      go_wp2_with fail
      refine (HTL.out _ HBC.out).mono ?_
      rintro e wc ⟨rfl, hbc⟩
      have HBD := Lib.hid (HBC.out.trans (hbc.mono HBC.out.size))
      clear hbc
      go_wp2_with fail
      go_ret
      exact ⟨rfl, HBD.out⟩
end Go.Proofs.YteepijefbdbhoaaGreatDoor
