/-
  The reference's Normal of chapter 7. Conditions: the nodes and links can be read.
-/
import Derived.Test.YteepijefbdbhoaaGreatDoorKqA
import Derived.Test.YteepijefbdbhoaaGreatDoorLmJ
import Derived.Test.YteepijefbdbhoaaGreatDoorLnC
import Derived.Deep.DeepCutAuto
import Derived.Deep.CutBlock
namespace Go.Proofs.YteepijefbdbhoaaGreatDoor
open Go.RowKit

theorem rnrm_at {l : List Nd} {k : List Ld} {n i : Nat} (h : i < (srt l).length) : (nrmV l k n)[i]? = some ⟨(srt l)[i].id, (List.range n).map fun (t : Nat) => atV k (srt l)[i].id (t : Int)⟩ := by
  unfold nrmV
  rw [List.getElem?_map, List.getElem?_eq_getElem h]
  rfl
set_option maxRecDepth 100000 in
set_option maxHeartbeats 1600000 in
theorem rnormal_ok (A A4 : Option Addr) (l : List Nd) (k : List Ld) (c c4 m : Nat) (w : World) (hl : Nds w w.heap.size A l) (hk : Lds w w.heap.size A4 k) (hkn : k.length ≤ maxLen) (hchk : chkV l = 0) (hm : m ≤ 16) :
    Calls Tryz.prog 35 #[.slice A l.length c, .slice A4 k.length c4, .int .i64 (m : Int)] w (NrmP (nrmV l k (m + 1)) w) := by
  have HC := Lib.hid ((ris_any A l c w hl (fun x hx => (wide_of hchk x hx).2)).mono fun e w' h => (⟨by rw [h.1, hchk]; rfl, h.2⟩ : e = .returned (.bool true) ∧ Below w.heap.size w w'))
  have HI := Lib.hid (fun (W : World) => (rLevel_any (m : Int) W).mono fun e w' h => (⟨by rw [h.1]; simp [lvB]; omega, h.2⟩ : e = .returned (.bool true) ∧ W = w'))
  have HS := Lib.hid (fun (W : World) (k : Below w.heap.size w W) => rsortR_any A l c W ((hl.below k).more k.size) hchk)
  have hsl := srt_le hchk
  have HAC := Lib.hid (fun (W : World) (k2 : Below w.heap.size w W) (id t : Int) => rat_any A4 k c4 id t W ((hk.below k2).more k2.size) hkn)
  have HAT := Lib.hid (fun (i : Nat) (h : i < (srt l).length) => rnrm_at (l := l) (k := k) (n := m + 1) h)
  have HRL : Hid ((nrmV l k (m + 1)).length = (srt l).length) := Lib.hid (nrm_len l k (m + 1))
  have HW := Lib.hid (wide_srt hchk)
  unfold AtP at HAC
  generalize nrmV l k (m + 1) = R at *
  generalize srt l = S at *
  clear hl hchk hk
  obtain ⟨inf, hif, hif1, hif2, hif3⟩ := infoK_parts
  obtain ⟨inp, hip, hip1, hip2, hip3⟩ := infoP_parts
  go_enter Tryz.func35, Tryz.ntmps35
  go_wp2_with fail
  refine (HC.out).mono ?_
  rintro e w1 ⟨rfl, hb1⟩
  have HB1 := Lib.hid hb1
  clear hb1 HC
  go_wp2_with fail
  refine (HI.out _).mono ?_
  rintro e w2 ⟨rfl, rfl⟩
  go_wp2_with fail
  refine (HS.out _ HB1.out).mono ?_
  rintro e w2 ⟨A2, c2, rfl, ho2, hb2⟩
  obtain ⟨_, _, er, hr2⟩ := ho2.read
  injection er with e1 e3 e2
  clear e3
  subst e1 e2
  have HB2 := Lib.hid (HB1.out.trans (hb2.mono HB1.out.size))
  clear hb2 HS HB1 ho2
  obtain ⟨n, hn⟩ : ∃ n, n = S.length := ⟨_, rfl⟩
  have HN := Lib.hid hn
  rw [← hn] at hsl HRL ⊢
  clear hn
  have hmz : (m : Int) ≤ 16 := by omega
  have hmy : (0 : Int) ≤ (m : Int) := by omega
  go_wp2_with fail
  go_loopw [7, 9] (fun vo vi wr => ∃ (v1 : Value) (i : Nat) (l1 : List Ld), v1 = vo ∧ vi = .int .i64 (i : Int) ∧ i ≤ n ∧ OwnD wr w2.heap.size v1 l1 ∧ Below w2.heap.size w2 wr ∧ Hid (l1 = R.take i) ∧ l1.length ≤ i) (fun _ vi _ => n - (intOf vi).toNat)
  case atStart => exact ⟨_, 0, [], rfl, rfl, by omega, OwnD.nil _ _, Below.refl _ _, Lib.hid (by simp), by simp⟩
  case round =>
    obtain ⟨v1, i, l1, rfl, rfl, hi, ho1, hB, HL, hlen⟩ := hrel
    by_cases hlt : i < n
    · have i2 : i < S.length := by rw [← HN.out]; exact hlt
      obtain ⟨b, o, hA2, hb, f1, _, _⟩ := hr2.at_ i2
      subst hA2
      have HF := Lib.hid (fun (W : World) (k : Below w2.heap.size w2 W) => (k.cell (p := ⟨b, o + i * 3, none⟩) hb).trans f1)
      have HTK : Hid (R.take (i + 1) = R.take i ++ [⟨S[i].id, (List.range (m + 1)).map fun (t : Nat) => atV k S[i].id (t : Int)⟩]) := Lib.hid (by
        rw [List.take_add_one, HAT.out i i2]
        rfl)
      have HAX := Lib.hid (fun (W : World) (k2 : Below w.heap.size w W) (t : Nat) => HAC.out W k2 S[i].id (t : Int))
      generalize hlkf : (fun (t : Nat) => atV k S[i].id (t : Int)) = lf at *
      have HLF : Hid (∀ t : Nat, atV k S[i].id (t : Int) = lf t) := Lib.hid fun t => congrFun hlkf t
      have HAY : Hid (∀ (W : World) (k2 : Below w.heap.size w W) (t : Nat), Calls Tryz.prog 25 #[.slice A4 k.length c4, .int .i64 S[i].id, .int .i64 (t : Int)] W fun e w' => e = .returned (.agg #[.int .i64 (lf t).left, .int .i64 (lf t).right]) ∧ Below W.heap.size W w') := Lib.hid fun W k2 t => by rw [← HLF.out]; exact HAX.out W k2 t
      clear hlkf HLF HAX
      generalize S[i].id = yi at *
      have f1' := HF.out wr hB
      have i0 : (0 : Int) ≤ (i : Int) := by omega
      have i1 : (i : Int) < (n : Int) := by omega
      obtain ⟨wq, rfl⟩ : ∃ wq, wq = wr := ⟨_, rfl⟩
      have HO1 := Lib.hid ho1
      have HBQ := Lib.hid hB
      have HX0 := Lib.hid (Has.new wq 46 #[.int .i64 yi, .slice none 0 0])
      have hal := (Below.refl wq.heap.size wq).alloc (Nat.le_refl _) (.cells #[.int .i64 yi, .slice none 0 0] 46)
      have HAL := Lib.hid hal
      obtain ⟨X, hX⟩ : ∃ X, X = wq.heap.size := ⟨_, rfl⟩
      have HXE := Lib.hid hX
      obtain ⟨A5, c5, hv5⟩ := ho1.shape
      subst hv5
      clear ho1 hB hal f1
      go_upto_region 9 with fail
      clear f1'
      rw [← hX] at HX0 HAL ⊢
      generalize wq.alloc (.cells #[.int .i64 yi, .slice none 0 0] 46) = wx at *
      clear hX
      go_wp2_with fail
      go_loopw [11] (fun vt wr => ∃ (t : Nat) (u : Value) (lv : List Lk), vt = .int .i64 (t : Int) ∧ t ≤ m + 1 ∧ Has wr X 46 #[.int .i64 yi, u] ∧ OwnK wr (X + 1) u lv ∧ Below X wq wr ∧ Hid (lv = ((List.range (m + 1)).take t).map lf) ∧ lv.length ≤ t) (fun vt _ => m + 1 - (intOf vt).toNat)
      case atStart => exact ⟨0, _, [], rfl, by omega, HX0.out, OwnK.nil _ _, HAL.out, Lib.hid (by simp), by simp⟩
      case round =>
        clear HX0 HAL
        obtain ⟨t, u, lv, rfl, ht, hX, hU, hB, HLV, hlvl⟩ := hrel
        by_cases hltt : t ≤ m
        · have t0 : (0 : Int) ≤ (t : Int) := by omega
          have t1 : (t : Int) ≤ (m : Int) := by omega
          have hB2 := HBQ.out.trans (hB.mono (by have := HXE.out; have := HBQ.out.size; omega))
          have f1 := HF.out wr hB2
          have hdr := (Below.refl wr.heap.size wr).drew
          have HAD := Lib.hid (HAY.out wr.drew ((HB2.out.trans (hB2.mono HB2.out.size)).trans (hdr.mono (Nat.le_trans HB2.out.size hB2.size))) t)
          have HRN := Lib.hid (range_next (m + 1) t (by omega) lf)
          generalize lf t = y at *
          obtain ⟨yl, yr⟩ := y
          have HH := Lib.hid (hX.below hdr)
          have HU := Lib.hid (hU.below hdr)
          have HBB := Lib.hid (hB.trans (hdr.mono (by have := hX.lt; omega)))
          obtain ⟨A6, c6, hv6⟩ := hU.shape
          subst hv6
          obtain ⟨p6, hp6⟩ : ∃ p, p = lv.length := ⟨_, rfl⟩
          have HP6 := Lib.hid hp6
          rw [← hp6] at HU HH
          have hlv2 : lv.length < 1000000 := by omega
          have x0 := HH.out.cell 1
          have HXS := Lib.hid HH.out.lt
          have HF2 : Hid (wr.drew.cell? ⟨b, o + i * 3, none⟩ = some (.int .i64 yi)) := Lib.hid f1
          have f2 := HF2.out
          clear hX hU hB hB2 hdr hp6
          go_wp2_with fail
          go_region_law (first | (refine step_pushK1 (o := ⟨some 50, _, _, _, _, _⟩) rfl (.tmp 40) (.tmp 49) 44 (by rfl) (X + 1) inf Tryz.underlying44 hif hif1 hif2 hif3 (.slice A6 p6 c6) lv w5 ⟨yl, yr⟩ (by simp [Act.eval]) HU5.out (by simp [Act.eval]) hlv2 HX5.out.lt ?_; intro u' w7 hu7 hg7 hat7; obtain ⟨lw, hlw⟩ : ∃ lw, lw = lv ++ [(⟨yl, yr⟩ : Lk)] := ⟨_, rfl⟩; rw [← hlw] at hu7; have HLW := Lib.hid hlw; obtain ⟨A8, c8, hv8⟩ := hu7.shape; obtain ⟨p8, hp8⟩ : ∃ p8, p8 = lw.length := ⟨_, rfl⟩; rw [← hp8] at hv8; have HP8 := Lib.hid hp8; clear hlw hp8; subst hv8; have HU7 := Lib.hid hu7; have hX7 := (hg7.block X HX5.out.lt (fun e => (by have := (HU5.out.lt X e.symm).1; omega))).trans HX5.out; have HX7 := Lib.hid hX7; have x7 := Has.cell (cs := #[.int .i64 yi, .slice A6 p6 c6]) hX7 1; have z7 := fun o => Has.frozen hX7 o; have HB7 := Lib.hid (HB5.out.grown hg7 (Nat.le_of_lt HX5.out.lt) (fun k e => (by have := (HU5.out.lt k e).1; omega))); clear hu7 hg7 hat7 hX7) | (go_simp; go_at_call 25; refine (HAD.out).mono ?_; rintro e w5 ⟨rfl, hb5⟩; have HX5 := Lib.hid (HH.out.below hb5); have HU5 := Lib.hid (HU.out.below hb5); have HB5 := Lib.hid (HBB.out.trans (hb5.mono (Nat.le_of_lt HXS.out))); have x5 := HX5.out.cell 1; have x8 := fun (o : Obj) => (HX5.out.below ((Below.refl w5.heap.size w5).alloc (Nat.le_refl _) o)).cell 1; clear hb5))
          all_goals
            have HX8 := Lib.hid (Has.set_ HX7.out 1 (.slice A8 p8 c8))
            clear x5 x7 x8 x0 z7 f1 f2 HX5 HU5 HB5 HAD HH HU HBB HF2 HXS
            go_wp2_with fail
            refine ⟨⟨t + 1, _, lw, by go_num, by omega, HX8.out, ?_, HB7.out.setCell (p := ⟨X, 1, none⟩) (Nat.le_refl _) _, Lib.hid (by rw [HLW.out, HLV.out, HRN.out]), by rw [HLW.out, List.length_append]; simp; omega⟩, by simp [intOf]; omega⟩
            exact HU7.out.keep fun j h1 _ => Below.heap_setCell _ ⟨X, 1, none⟩ _ j (by show j ≠ X; omega)
        · have et : t = m + 1 := by omega
          have tz : ¬ ((t : Int) ≤ (m : Int)) := by omega
          have HLVE : Hid (lv = (List.range (m + 1)).map lf) := Lib.hid (by rw [HLV.out, List.take_of_length_le (by simp; omega)])
          have x0 := hX.cell 0
          have x1 := hX.cell 1
          have HUU := Lib.hid (own_lessK hU (Nat.le_succ X))
          have hB' : Below wq.heap.size wq wr := by rw [← HXE.out]; exact hB
          have HUQ : Hid (OwnK wr wq.heap.size u lv) := Lib.hid (by rw [← HXE.out]; exact HUU.out)
          have hl1 : l1.length < 1000000 := by omega
          obtain ⟨A6, c6, hv6⟩ := hU.shape
          subst hv6
          have hBq2 := HBQ.out.size
          have HB8 := Lib.hid (HBQ.out.trans (hB'.mono HBQ.out.size))
          clear hX hU hB
          go_wp2_with (at_builtin; refine wpList_pushD rfl _ _ 24 rfl w2.heap.size inp Tryz.underlying24 hip hip1 hip2 hip3 (.slice A5 l1.length c5) l1 wq wr yi (.slice A6 lv.length c6) lv HO1.out hB' HUQ.out hBq2 rfl rfl hl1 ?_; intro v9 w9 ho9 hb9; obtain ⟨lw, hlw⟩ : ∃ lw, lw = l1 ++ [(⟨yi, lv⟩ : Ld)] := ⟨_, rfl⟩; rw [← hlw] at ho9; have hlwn : lw.length = l1.length + 1 := (by rw [hlw]; simp); have HLW := Lib.hid hlw; have HLN := Lib.hid hlwn; have HO9 := Lib.hid ho9; have HB9 := Lib.hid (HB8.out.trans hb9); clear hlw hlwn; obtain ⟨A9, c9, hv9⟩ := ho9.shape; subst hv9; clear ho9 hb9)
          exact ⟨⟨_, i + 1, lw, rfl, by go_num, hlt, HO9.out, HB9.out, Lib.hid (by rw [HLW.out, HL.out, HTK.out, HLVE.out]), by have := HLN.out; omega⟩, by simp [intOf]; omega⟩
    · have HLE : Hid (l1 = R) := Lib.hid (by rw [HL.out, List.take_of_length_le (by have := HRL.out; omega)])
      have HO := Lib.hid (ho1.low (show w.heap.size ≤ w2.heap.size from HB2.out.size))
      have HBF := Lib.hid (HB2.out.trans (hB.mono HB2.out.size))
      obtain ⟨A5, c5, hv5⟩ := ho1.shape
      subst hv5
      clear ho1 hB
      go_wp2_with fail
      go_ret
      rw [← HLE.out]
      exact ⟨_, rfl, HO.out, HBF.out⟩
set_option maxRecDepth 100000 in
set_option maxHeartbeats 800000 in
theorem rnormal_any (A A4 : Option Addr) (l : List Nd) (k : List Ld) (c c4 : Nat) (h : Int) (w : World) (hl : Nds w w.heap.size A l) (hk : Lds w w.heap.size A4 k) (hkn : k.length ≤ maxLen) (hwd : ∀ x ∈ l, x.word < 4294967296) :
    Calls Tryz.prog 35 #[.slice A l.length c, .slice A4 k.length c4, .int .i64 h] w (NrmP (nrmR l k h) w) := by
  have HNO : Hid (¬ (chkV l = 0 ∧ lvB h = true) → ∀ e w', (e = .returned (.slice none 0 0) ∧ Below w.heap.size w w') → NrmP (nrmR l k h) w e w') := Lib.hid fun hn e w' k2 => ⟨_, k2.1, by unfold nrmR; rw [if_neg hn]; exact OwnD.nil _ _, k2.2⟩
  by_cases hchk : chkV l = 0
  · by_cases hlv : lvB h = true
    · have h2 : 0 ≤ h ∧ h ≤ 16 := by simpa [lvB] using hlv
      obtain ⟨m, rfl⟩ := Int.eq_ofNat_of_zero_le h2.1
      have := rnormal_ok A A4 l k c c4 m w hl hk hkn hchk (by omega)
      unfold nrmR
      rw [if_pos ⟨hchk, hlv⟩, show ((m : Int) + 1).toNat = m + 1 by omega]
      exact this
    · have hlz : lvB h = false := by simpa using hlv
      have HC := Lib.hid ((ris_any A l c w hl hwd).mono fun e w' h => (⟨by rw [h.1, hchk]; rfl, h.2⟩ : e = .returned (.bool true) ∧ Below w.heap.size w w'))
      have HI := Lib.hid (fun (W : World) => rLevel_any h W)
      have HF := Lib.hid (HNO.out fun e => hlv e.2)
      rw [hlz] at HI
      refine Calls.mono ?_ HF.out
      clear hl hk hwd hchk hlv hlz HF HNO
      go_enter Tryz.func35, Tryz.ntmps35
      go_wp2_with fail
      refine (HC.out).mono ?_
      rintro e w1 ⟨rfl, hb1⟩
      go_wp2_with fail
      refine (HI.out _).mono ?_
      rintro e w2 ⟨rfl, rfl⟩
      go_wp2_with fail
      go_ret
      exact ⟨rfl, hb1⟩
  · have hz : (chkV l == 0) = false := by simpa using hchk
    have HC := Lib.hid ((ris_any A l c w hl hwd).mono fun e w' h => (⟨by rw [h.1, hz], h.2⟩ : e = .returned (.bool false) ∧ Below w.heap.size w w'))
    have HF := Lib.hid (HNO.out fun e => hchk e.1)
    refine Calls.mono ?_ HF.out
    clear hl hk hwd hchk HF hz HNO
    go_enter Tryz.func35, Tryz.ntmps35
    go_wp2_with fail
    refine (HC.out).mono ?_
    rintro e w1 ⟨rfl, hb1⟩
    go_wp2_with fail
    go_ret
    exact ⟨rfl, hb1⟩
end Go.Proofs.YteepijefbdbhoaaGreatDoor
