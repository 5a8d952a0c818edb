/-
  Build of the reference of chapter 6: the links of all nodes, in rows of its own. Condition: the nodes can be read.
-/
import Derived.Test.YtmhimkojegkalaaDoorKmM
import Derived.Test.YtmhimkojegkalaaDoorKmL
import Derived.Test.YtmhimkojegkalaaDoorLmD
import Derived.Test.YtmhimkojegkalaaDoorKmG
import Derived.Deep.DeepCutAuto
import Derived.Deep.CutBlock
namespace Go.Proofs.YtmhimkojegkalaaDoor
open Go.RowKit

theorem srt_idem {l : List Nd} (hc : chkV l = 0) : chkV (srt l) = 0 ∧ srt (srt l) = srt l := by
  have h1 : chkV (srt l) = 0 := chkV_perm (srt_srt l).1.symm hc
  exact ⟨h1, (srt_of ⟨List.Perm.refl _, (srt_srt l).2⟩ (chkV_zero.1 h1).2.2).symm⟩
theorem bld_at {l : List Nd} {n i : Nat} (h : i < (srt l).length) : (bldV l n)[i]? = some ⟨(srt l)[i].id, (List.range n).map fun (t : Nat) => lnk (srt l) (t : Int) (srt l)[i]⟩ := by
  unfold bldV
  rw [List.getElem?_map, List.getElem?_eq_getElem h]
  rfl
theorem range_next (n t : Nat) (h : t < n) (f : Nat → Lk) : ((List.range n).take (t + 1)).map f = ((List.range n).take t).map f ++ [f t] := by
  rw [List.take_succ_eq_append_getElem (by simpa using h), List.map_append]
  simp
def RBldOk (R : List Ld) (w : World) (e : Ending) (w' : World) : Prop := ∃ v, e = .returned (.tuple #[v, .int .i64 0]) ∧ OwnD w' w.heap.size v R ∧ Below w.heap.size w w'
def RBldP (l : List Nd) (h : Int) (w : World) (e : Ending) (w' : World) : Prop :=
  (bldE l h ≠ 0 ∧ e = .returned (.tuple #[.slice none 0 0, .int .i64 (bldE l h)]) ∧ Below w.heap.size w w') ∨ (bldE l h = 0 ∧ RBldOk (bldV l (h + 1).toNat) w e w')
theorem OwnD.low {w : World} {base b : Nat} {v : Value} {ls : List Ld} (h : OwnD w base v ls) (hb : b ≤ base) : OwnD w b v ls := by
  obtain ⟨q, h1, h2, h3, h4⟩ := h
  refine ⟨q, ?_, h2, fun i hq hi => ⟨(h3 i hq hi).1, own_lessK (h3 i hq hi).2.1 hb, (h3 i hq hi).2.2⟩, h4⟩
  obtain ⟨k1, k2 | ⟨g, cap, cur, k3, k4, k5⟩⟩ := h1
  · exact ⟨k1, .inl k2⟩
  · exact ⟨k1, .inr ⟨g, cap, cur, k3, by omega, k5⟩⟩

set_option maxRecDepth 100000 in
set_option maxHeartbeats 1600000 in
theorem rbuild_ok (A : Option Addr) (l : List Nd) (c m : Nat) (w : World) (hl : Nds w w.heap.size A l) (hchk : chkV l = 0) (hm : m ≤ 16) :
    Calls Tryd.prog 30 #[.slice A l.length c, .int .i64 (m : Int)] w (RBldOk (bldV l (m + 1)) w) := by
  have HC := Lib.hid ((ris_any A l c w hl (fun x hx => (wide_of hchk x hx).2)).mono fun e w' h => (⟨by rw [h.1, hchk]; rfl, h.2⟩ : e = .returned (.bool true) ∧ Below w.heap.size w w'))
  have HI := Lib.hid (fun (W : World) => (rLevel_any (m : Int) W).mono fun e w' h => (⟨by rw [h.1]; simp [lvB]; omega, h.2⟩ : e = .returned (.bool true) ∧ W = w'))
  have HS := Lib.hid (fun (W : World) (k : Below w.heap.size w W) => rsortR_any A l c W ((hl.below k).more k.size) hchk)
  have hsl := srt_le hchk
  obtain ⟨hc2, hid2⟩ := srt_idem hchk
  have HNB := Lib.hid (fun (W : World) (A2 : Option Addr) (c2 : Nat) (id h : Int) (hr : Nds W W.heap.size A2 (srt l)) (hi : -9223372036854775808 ≤ id ∧ id ≤ 9223372036854775807) => rneighbours_any A2 (srt l) c2 id h W hr (by omega) (srt_wd hchk) hi)
  have HNV : Hid (∀ (i : Nat) (hi : i < (srt l).length) (t : Nat), t ≤ 16 → nbL (srt l) (srt l)[i].id (t : Int) = lnk (srt l) (t : Int) (srt l)[i]) := Lib.hid fun i hi t ht => by
    rw [(nb_in hc2 (h := (t : Int)) (by omega) (by omega) (List.getElem_mem hi)).2, hid2]
  have HAT := Lib.hid (fun (i : Nat) (h : i < (srt l).length) => bld_at (l := l) (n := m + 1) h)
  have HRL : Hid ((bldV l (m + 1)).length = (srt l).length) := Lib.hid (by rw [bld_len, (srt_srt l).1.length_eq])
  have HW := Lib.hid (wide_srt hchk)
  unfold NbP at HNB
  generalize bldV l (m + 1) = R at *
  generalize srt l = S at *
  clear hl hchk hc2 hid2
  obtain ⟨inf, hif, hif1, hif2, hif3⟩ := infoK_parts
  obtain ⟨inp, hip, hip1, hip2, hip3⟩ := infoP_parts
  go_enter Tryd.func30, Tryd.ntmps30
  go_wp2_with fail
  refine (HC.out).mono ?_
  rintro e w1 ⟨rfl, hb1⟩
  have HB1 := Lib.hid hb1
  clear hb1 HC
  go_wp2_with fail
  refine (HI.out _).mono ?_
  rintro e w2 ⟨rfl, rfl⟩
  go_wp2_with fail
  refine (HS.out _ HB1.out).mono ?_
  rintro e w2 ⟨A2, c2, rfl, ho2, hb2⟩
  obtain ⟨_, _, er, hr2⟩ := ho2.read
  injection er with e1 _ e2
  subst e1 e2
  have HB2 := Lib.hid (HB1.out.trans (hb2.mono HB1.out.size))
  clear hb2 HS HB1 ho2
  obtain ⟨n, hn⟩ : ∃ n, n = S.length := ⟨_, rfl⟩
  have HN := Lib.hid hn
  rw [← hn] at hsl HNB HRL ⊢
  clear hn
  have hmz : (m : Int) ≤ 16 := by omega
  have hmy : (0 : Int) ≤ (m : Int) := by omega
  go_wp2_with fail
  go_loopw [7, 8] (fun vo vi wr => ∃ (v1 : Value) (i : Nat) (l1 : List Ld), v1 = vo ∧ vi = .int .i64 (i : Int) ∧ i ≤ n ∧ OwnD wr w2.heap.size v1 l1 ∧ Below w2.heap.size w2 wr ∧ Hid (l1 = R.take i) ∧ l1.length ≤ i) (fun _ vi _ => n - (intOf vi).toNat)
  case atStart => exact ⟨_, 0, [], rfl, rfl, by omega, OwnD.nil _ _, Below.refl _ _, Lib.hid (by simp), by simp⟩
  case round =>
    obtain ⟨v1, i, l1, rfl, rfl, hi, ho1, hB, HL, hlen⟩ := hrel
    by_cases hlt : i < n
    · have i2 : i < S.length := by rw [← HN.out]; exact hlt
      obtain ⟨b, o, hA2, hb, f1, _, _⟩ := hr2.at_ i2
      subst hA2
      have hyw : -9223372036854775808 ≤ S[i].id ∧ S[i].id ≤ 9223372036854775807 := (HW.out _ (List.getElem_mem i2)).1
      have HF := Lib.hid (fun (W : World) (k : Below w2.heap.size w2 W) => (k.cell (p := ⟨b, o + i * 3, none⟩) hb).trans f1)
      have HNX := Lib.hid (HNV.out i i2)
      have HTK : Hid (R.take (i + 1) = R.take i ++ [⟨S[i].id, (List.range (m + 1)).map fun (t : Nat) => lnk S (t : Int) S[i]⟩]) := Lib.hid (by
        rw [List.take_add_one, HAT.out i i2]
        rfl)
      generalize hlkf : (fun (t : Nat) => lnk S (t : Int) S[i]) = lf at *
      have HLF : Hid (∀ t : Nat, lnk S (t : Int) S[i] = lf t) := Lib.hid fun t => congrFun hlkf t
      have HNY : Hid (∀ t : Nat, t ≤ 16 → nbL S S[i].id (t : Int) = lf t) := Lib.hid fun t ht => by rw [HNX.out t ht, HLF.out]
      clear hlkf HNX HLF
      generalize S[i].id = yi at *
      have f1' := HF.out wr hB
      have i0 : (0 : Int) ≤ (i : Int) := by omega
      have i1 : (i : Int) < (n : Int) := by omega
      have HND := Lib.hid (fun (W : World) (k : Below w2.heap.size w2 W) => (hr2.below k).more k.size)
      obtain ⟨wq, rfl⟩ : ∃ wq, wq = wr := ⟨_, rfl⟩
      have HO1 := Lib.hid ho1
      have HBQ := Lib.hid hB
      have HX0 := Lib.hid (Has.new wq 64 #[.int .i64 yi, .slice none 0 0])
      have hal := (Below.refl wq.heap.size wq).alloc (Nat.le_refl _) (.cells #[.int .i64 yi, .slice none 0 0] 64)
      have HAL := Lib.hid hal
      obtain ⟨X, hX⟩ : ∃ X, X = wq.heap.size := ⟨_, rfl⟩
      have HXE := Lib.hid hX
      obtain ⟨A5, c5, hv5⟩ := ho1.shape
      subst hv5
      clear ho1 hB hal f1
      go_upto_region 11 with fail
      clear f1'
      rw [← hX] at HX0 HAL ⊢
      generalize wq.alloc (.cells #[.int .i64 yi, .slice none 0 0] 64) = wx at *
      clear hX
      go_wp2_with fail
      go_loopw [10] (fun vt wr => ∃ (t : Nat) (u : Value) (lv : List Lk), vt = .int .i64 (t : Int) ∧ t ≤ m + 1 ∧ Has wr X 64 #[.int .i64 yi, u] ∧ OwnK wr (X + 1) u lv ∧ Below X wq wr ∧ Hid (lv = ((List.range (m + 1)).take t).map lf) ∧ lv.length ≤ t) (fun vt _ => m + 1 - (intOf vt).toNat)
      case atStart => exact ⟨0, _, [], rfl, by omega, HX0.out, OwnK.nil _ _, HAL.out, Lib.hid (by simp), by simp⟩
      case round =>
        clear HX0 HAL
        obtain ⟨t, u, lv, rfl, ht, hX, hU, hB, HLV, hlvl⟩ := hrel
        by_cases hltt : t ≤ m
        · have t0 : (0 : Int) ≤ (t : Int) := by omega
          have t1 : (t : Int) ≤ (m : Int) := by omega
          have hB2 := HBQ.out.trans (hB.mono (by have := HXE.out; have := HBQ.out.size; omega))
          have f1 := HF.out wr hB2
          have HN1 := Lib.hid (HNB.out wr (some ⟨b, o, none⟩) c2 yi (t : Int) (HND.out wr hB2) hyw)
          rw [HNY.out t (by omega)] at HN1
          have HRN := Lib.hid (range_next (m + 1) t (by omega) lf)
          generalize lf t = y at *
          generalize nbB S yi (t : Int) = bb at *
          obtain ⟨yl, yr⟩ := y
          have HH := Lib.hid hX
          have HU := Lib.hid hU
          have HBB := Lib.hid hB
          obtain ⟨A6, c6, hv6⟩ := hU.shape
          subst hv6
          clear hX hU hB hB2
          go_wp2_with fail
          refine (HN1.out).mono ?_
          rintro e w5 ⟨rfl, hb5⟩
          have hk := (Below.refl w5.heap.size w5).alloc (Nat.le_refl _) (.cells #[.int .i64 yl, .int .i64 yr] 61)
          have hk5 := hb5.trans (hk.mono hb5.size)
          have hX6 := HH.out.below hk5
          have hU6 := HU.out.below hk5
          have hY6 := Has.new w5 61 #[.int .i64 yl, .int .i64 yr]
          have x1 := hX6.cell 1
          have y0 := hY6.cell 0
          have y1 := hY6.cell 1
          have hXl := HH.out.lt
          have HB6 := Lib.hid (HBB.out.trans (hk5.mono (Nat.le_trans HBB.out.size (Nat.le_refl _) |> fun h => (by omega : X ≤ wr.heap.size))))
          have hXs : X + 1 ≤ (w5.alloc (.cells #[.int .i64 yl, .int .i64 yr] 61)).heap.size := by have := hX6.lt; omega
          have HX6 := Lib.hid hX6
          clear hk hk5 hb5 hY6 HN1 HH HU HBB hX6 f1
          go_upto_region 15 with fail
          generalize w5.alloc (.cells #[.int .i64 yl, .int .i64 yr] 61) = w6 at *
          have hlv2 : lv.length < 1000000 := by omega
          go_wp2_with (at_builtin; refine wpList_pushK rfl _ _ 62 rfl (X + 1) inf Tryd.underlying62 hif hif1 hif2 hif3 (.slice A6 lv.length c6) lv w6 ⟨yl, yr⟩ rfl hU6 rfl hlv2 hXs ?_; intro u2 w7 hU7 hg7 hat7; obtain ⟨lw, hlw⟩ : ∃ lw, lw = lv ++ [(⟨yl, yr⟩ : Lk)] := ⟨_, rfl⟩; rw [← hlw] at hU7; have hlwn : lw.length = lv.length + 1 := (by rw [hlw]; simp); have HLW := Lib.hid hlw; have HLN := Lib.hid hlwn; clear hlw hlwn; have hX7 := (hg7.block X HX6.out.lt (fun e => (by have := (hU6.lt X e.symm).1; omega))).trans HX6.out; have HX7 := Lib.hid hX7; have x7 := Has.cell (cs := #[.int .i64 yi, .slice A6 lv.length c6]) hX7 1; have z7 := fun o => Has.frozen hX7 o; have HB7 := Lib.hid (HB6.out.grown hg7 (Nat.le_of_succ_le hXs) (fun k e => (by have := (hU6.lt k e).1; omega))); have HU7 := Lib.hid hU7; obtain ⟨A8, c8, hv8⟩ := hU7.shape; subst hv8; clear hX7 hU7 hg7 hat7 hU6)
          have HX8 := Lib.hid (Has.set_ HX7.out 1 (.slice A8 lw.length c8))
          refine ⟨⟨t + 1, _, lw, by go_num, by omega, HX8.out, ?_, HB7.out.setCell (p := ⟨X, 1, none⟩) (Nat.le_refl _) _, Lib.hid (by rw [HLW.out, HLV.out, HRN.out]), by have := HLN.out; omega⟩, by simp [intOf]; omega⟩
          exact HU7.out.keep fun j h1 _ => Below.heap_setCell _ ⟨X, 1, none⟩ _ j (by show j ≠ X; omega)
        · have et : t = m + 1 := by omega
          have tz : ¬ ((t : Int) ≤ (m : Int)) := by omega
          have HLVE : Hid (lv = (List.range (m + 1)).map lf) := Lib.hid (by rw [HLV.out, List.take_of_length_le (by simp; omega)])
          have x0 := hX.cell 0
          have x1 := hX.cell 1
          have HUU := Lib.hid (own_lessK hU (Nat.le_succ X))
          have hB' : Below wq.heap.size wq wr := by rw [← HXE.out]; exact hB
          have HUQ : Hid (OwnK wr wq.heap.size u lv) := Lib.hid (by rw [← HXE.out]; exact HUU.out)
          have hl1 : l1.length < 1000000 := by omega
          obtain ⟨A6, c6, hv6⟩ := hU.shape
          subst hv6
          have hBq2 := HBQ.out.size
          have HB8 := Lib.hid (HBQ.out.trans (hB'.mono HBQ.out.size))
          clear hX hU hB
          go_wp2_with (at_builtin; refine wpList_pushD rfl _ _ 24 rfl w2.heap.size inp Tryd.underlying24 hip hip1 hip2 hip3 (.slice A5 l1.length c5) l1 wq wr yi (.slice A6 lv.length c6) lv HO1.out hB' HUQ.out hBq2 rfl rfl hl1 ?_; intro v9 w9 ho9 hb9; obtain ⟨lw, hlw⟩ : ∃ lw, lw = l1 ++ [(⟨yi, lv⟩ : Ld)] := ⟨_, rfl⟩; rw [← hlw] at ho9; have hlwn : lw.length = l1.length + 1 := (by rw [hlw]; simp); have HLW := Lib.hid hlw; have HLN := Lib.hid hlwn; have HO9 := Lib.hid ho9; have HB9 := Lib.hid (HB8.out.trans hb9); clear hlw hlwn; obtain ⟨A9, c9, hv9⟩ := ho9.shape; subst hv9; clear ho9 hb9)
          exact ⟨⟨_, i + 1, lw, rfl, by go_num, hlt, HO9.out, HB9.out, Lib.hid (by rw [HLW.out, HL.out, HTK.out, HLVE.out]), by have := HLN.out; omega⟩, by simp [intOf]; omega⟩
    · have HLE : Hid (l1 = R) := Lib.hid (by rw [HL.out, List.take_of_length_le (by have := HRL.out; omega)])
      have HO := Lib.hid (ho1.low (show w.heap.size ≤ w2.heap.size from HB2.out.size))
      have HBF := Lib.hid (HB2.out.trans (hB.mono HB2.out.size))
      obtain ⟨A5, c5, hv5⟩ := ho1.shape
      subst hv5
      clear ho1 hB
      go_wp2_with fail
      go_ret2
      rw [← HLE.out]
      exact ⟨_, rfl, HO.out, HBF.out⟩
set_option maxRecDepth 100000 in
set_option maxHeartbeats 800000 in
theorem rbuild_any (A : Option Addr) (l : List Nd) (c : Nat) (h : Int) (w : World) (hl : Nds w w.heap.size A l) (hwd : ∀ x ∈ l, x.word < 4294967296) :
    Calls Tryd.prog 30 #[.slice A l.length c, .int .i64 h] w (RBldP l h w) := by
  by_cases hchk : chkV l = 0
  · by_cases hlv : lvB h = true
    · have h2 : 0 ≤ h ∧ h ≤ 16 := by simpa [lvB] using hlv
      obtain ⟨m, rfl⟩ := Int.eq_ofNat_of_zero_le h2.1
      refine (rbuild_ok A l c m w hl hchk (by omega)).mono fun e w' k => .inr ⟨bldE_ok hchk hlv, ?_⟩
      rw [show ((m : Int) + 1).toNat = m + 1 by omega]
      exact k
    · have hlz : lvB h = false := by simpa using hlv
      have hE : bldE l h = 2 := by unfold bldE; rw [if_pos hchk, if_neg hlv]
      have HC := Lib.hid ((ris_any A l c w hl hwd).mono fun e w' h => (⟨by rw [h.1, hchk]; rfl, h.2⟩ : e = .returned (.bool true) ∧ Below w.heap.size w w'))
      have HI := Lib.hid (fun (W : World) => rLevel_any h W)
      have HF : Hid (∀ e w', (e = .returned (.tuple #[.slice none 0 0, .int .i64 2]) ∧ Below w.heap.size w w') → RBldP l h w e w') := Lib.hid fun e w' k => .inl ⟨by rw [hE]; decide, by rw [hE]; exact k.1, k.2⟩
      rw [hlz] at HI
      refine Calls.mono ?_ HF.out
      clear hl hwd hchk hlv hlz hE HF
      go_enter Tryd.func30, Tryd.ntmps30
      go_wp2_with fail
      refine (HC.out).mono ?_
      rintro e w1 ⟨rfl, hb1⟩
      go_wp2_with fail
      refine (HI.out _).mono ?_
      rintro e w2 ⟨rfl, rfl⟩
      go_wp2_with fail
      go_ret2
      exact ⟨rfl, hb1⟩
  · have hE : bldE l h = 1 := by unfold bldE; rw [if_neg hchk]
    have hz : (chkV l == 0) = false := by simpa using hchk
    have HC := Lib.hid ((ris_any A l c w hl hwd).mono fun e w' h => (⟨by rw [h.1, hz], h.2⟩ : e = .returned (.bool false) ∧ Below w.heap.size w w'))
    have HF : Hid (∀ e w', (e = .returned (.tuple #[.slice none 0 0, .int .i64 1]) ∧ Below w.heap.size w w') → RBldP l h w e w') := Lib.hid fun e w' k => .inl ⟨by rw [hE]; decide, by rw [hE]; exact k.1, k.2⟩
    refine Calls.mono ?_ HF.out
    clear hl hwd hchk hE HF hz
    go_enter Tryd.func30, Tryd.ntmps30
    go_wp2_with fail
    refine (HC.out).mono ?_
    rintro e w1 ⟨rfl, hb1⟩
    go_wp2_with fail
    go_ret2
    exact ⟨rfl, hb1⟩
end Go.Proofs.YtmhimkojegkalaaDoor
