/-
  The walk of SearchEnds: from whatever numbers and key it answers true and only makes memory. Conditions: the arguments can be read; 'letters' and the table of trailing zeros are as their initialisers lay them.
-/
import Derived.Test.YtdeamjimjcojhaaDoorLuN
import Derived.Test.YtdeamjimjcojhaaDoorLnC
import Derived.Test.YtdeamjimjcojhaaDoorLgJ
import Derived.Test.YtdeamjimjcojhaaDoorKhV
import Derived.Deep.DeepCutAuto
import Derived.Deep.CutBlock
import Derived.Deep.RegionHeld3
namespace Go.Proofs.YtdeamjimjcojhaaDoor
open Go.RowKit


theorem bnd_small (l : List Nd) (id : Int) : bndR l id ≤ 1 + 17 * l.length := by
  have h : ∀ t, runL l (fndV l id) t ≤ l.length := fun t => by
    have h1 := runF_le (pin (fndV l id) t) (grp (srt l) (t : Int) (fndV l id).word) 0 0
    have h2 := List.length_filter_le (fun y => !pin (fndV l id) t y) (grp (srt l) (t : Int) (fndV l id).word)
    have h3 := grp_len (srt l) (t : Int) (fndV l id).word
    have h4 : (srt l).length = l.length := (srt_srt l).1.length_eq
    unfold runL
    omega
  have h2 : ∀ n, sumR (runL l (fndV l id)) n ≤ n * l.length := by
    intro n
    induction n with
    | zero => simp [sumR]
    | succ n ih =>
      have := h n
      rw [sumR, Nat.succ_mul]
      omega
  unfold bndR
  split
  · have := h2 17
    omega
  · omega
set_option maxRecDepth 100000 in
set_option maxHeartbeats 3200000 in
theorem ends_walk (A : Option Addr) (n0 cp : Nat) (q1 : ByteArray) (w : World) (hL : Lets w) (hT : Deb w) (hnc : n0 ≤ cp) (hc : cp ≤ maxLen) (hN : Nums w w.heap.size A n0) :
    Calls Tryd.prog 5 #[.slice A n0 cp, .string q1] w (LawP w) := by
  have HSA := Lib.hid (fun (W : World) (j : Below w.heap.size w W) => sane8_any W (hT.below j))
  have HDB := Lib.hid (fun (W : World) (j : Below w.heap.size w W) => hT.below j)
  go_enter Tryd.func5, Tryd.ntmps5
  go_wp2_with fail
  refine (new_any A n0 cp _ hnc hc hN).mono ?_
  rintro e w1 ⟨g, hg1, rfl, hTp, hb1⟩
  have hne2 : 0 ≠ g := by have := hL.lt; omega
  have l1 := hL.below hb1
  clear hN hnc hc hL hT
  go_wp2_with fail
  refine (some_any 10 g w1 (by omega) (by omega) hTp l1 hne2).mono ?_
  rintro e w2 ⟨A2, c2, l, rfl, ho, hl0, hl8, hchk, hst⟩
  have hB2 : Below w.heap.size w w2 := hb1.grown hst.2 hb1.size (fun j e => by have := Option.some.inj e; omega)
  have hgw : g < w1.heap.size := hTp.lt
  obtain ⟨_, _, er, hnd⟩ := ho.read
  injection er with e1 e3 e2
  clear e3
  subst e1 e2
  have hA2 : ∀ b o, A2 = some ⟨b, o, none⟩ → b ≠ g := fun b o e => by
    have := (ho.lt b (by rw [e]; rfl)).1
    omega
  have hwide : ∀ x ∈ l, x.wide := wide_of hchk
  have hwl : ∀ x ∈ l, x.word < 4294967296 := fun x hx => (hwide x hx).2
  have l2 := l1.step hne2 hst
  have HL2 := Lib.hid l2
  have HB2 := Lib.hid hB2
  have HST := Lib.hid hst
  have HND := Lib.hid hnd
  have HHG := Lib.hid (height_any A2 l c2 w2 hnd hwl)
  have hhl := hgtV_le l
  have HEN := Lib.hid (fun (m : Nat) (hm : m ≤ 16) (hh : hgtV l ≤ m) (x : Nd) (hx : x ∈ l) (q : ByteArray) => ends_of hchk hl0 hm hh hx q)
  have HBL := Lib.hid (fun (W : World) (hn : Nds W W.heap.size A2 l) (m : Nat) (hm : m ≤ 16) => build_ok A2 l c2 m W hn hchk hm)
  have HBW := Lib.hid (fun (m : Nat) => bld_wide hchk (n := m + 1))
  have HOW := Lib.hid (fun (W : World) (hn : Nds W W.heap.size A2 l) (q : ByteArray) => owner_gen A2 l c2 q W hn hwl)
  have HBN := Lib.hid (fun (W : World) (hn : Nds W W.heap.size A2 l) (id : Int) (hd : Deb W) => bndK_any A2 l c2 id W hn hwl hd)
  have HRT := Lib.hid (fun (W : World) (hn : Nds W W.heap.size A2 l) (k : List Ld) (A5 : Option Addr) (c5 : Nat) (h5 : Lds W W.heap.size A5 k) (hI : ∀ x ∈ k, -9223372036854775808 ≤ x.id ∧ x.id ≤ 9223372036854775807) (hkn : k.length ≤ maxLen) (hw : ∀ (i : Int) (t : Nat), I64 (atV k i (t : Int)).left ∧ I64 (atV k i (t : Int)).right) (id : Int) (hid : I64 id) (q : ByteArray) => routeK_any A2 A5 l k c2 c5 id q W hn h5 hI hkn hwl hid hw)
  obtain ⟨LN, hLN⟩ : ∃ LN, LN = l.length := ⟨_, rfl⟩
  have HLN := Lib.hid hLN
  have hln : LN ≤ 10 := by omega
  have hl1 : 1 ≤ LN := by have := List.length_pos_iff.2 hl0; omega
  have HWI := Lib.hid (fun (x : Nd) (hx : x ∈ l) => (hwide x hx).1)
  have HBE := Lib.hid (fun (m : Nat) => bld_len l m)
  have HBV := Lib.hid (fun (m : Nat) (hm : m ≤ 16) (x : Ld) (hx : x ∈ bldV l (m + 1)) => (by rw [bld_lev l _ x hx]; unfold maxLen; omega : x.levels.length ≤ maxLen))
  rw [← hLN] at HHG HBL HOW HBN HRT HBE ⊢
  obtain ⟨ht, hh⟩ : ∃ h, h = hgtV l := ⟨_, rfl⟩
  rw [← hh] at HHG hhl HEN
  clear hh l1 l2 hTp hb1 ho hl8 hst hB2 hnd hwide hwl hLN hl0 hchk
  go_wp2_with fail
  refine (HHG.out).mono ?_
  rintro e w3 ⟨rfl, hb3⟩
  have HST3 := Lib.hid (HST.out.below hb3)
  have HND3 := Lib.hid ((HND.out.below hb3).more hb3.size)
  have HB3 := Lib.hid (HB2.out.trans (hb3.mono HB2.out.size))
  have HL3 := Lib.hid (HL2.out.below hb3)
  have h0 : ¬ (ht : Int) < 0 := by omega
  have h16 : (ht : Int) ≤ 16 := by omega
  clear hb3 HST HND HB2 HL2 HHG
  go_wp2_with fail
  refine (next_any g 2 w3 HST3.out.1 (by omega)).mono ?_
  rintro e w4 ⟨r, r0, r1, rfl, hst4⟩
  obtain ⟨rr, rfl⟩ : ∃ m : Nat, r = (m : Int) := ⟨r.toNat, by omega⟩
  have hr2 : rr ≤ 1 := by omega
  have HST4 := Lib.hid hst4
  have HND4 := Lib.hid (nds_step HND3.out hA2 hst4)
  have HB4 := Lib.hid (HB3.out.grown hst4.2 HB3.out.size (fun j e => by have := Option.some.inj e; omega))
  have HL4 := Lib.hid (HL3.out.step hne2 hst4)
  have HG4 := Lib.hid (show g < w4.heap.size from by have := hst4.2.size; have := HST3.out.2.size; omega)
  clear r0 r1 hst4 HND3 HB3 HL3
  obtain ⟨m, hm, hm16, hhm, hcase⟩ : ∃ m : Nat, m = min (ht + rr) 16 ∧ m ≤ 16 ∧ ht ≤ m ∧ True := ⟨min (ht + rr) 16, rfl, by omega, by omega, trivial⟩
  have HBX := Lib.hid (HBL.out w4 HND4.out m hm16)
  have ew : IntKind.i64.wrap ((ht : Int) + (rr : Int)) = (ht : Int) + (rr : Int) := IntWalk.i64_in _ (by omega)
  have HBD := Lib.hid (HEN.out m hm16 hhm)
  have HBWM := Lib.hid (HBW.out m)
  have HBVM := Lib.hid (HBV.out m hm16)
  have HBLM : Hid ((bldV l (m + 1)).length = LN) := Lib.hid (HBE.out (m + 1))
  unfold BldOk at HBX
  generalize bldV l (m + 1) = BV at *
  clear HBL hcase HEN HBW HBV HBE
  go_wp2_with fail
  all_goals
    (first | rw [show (ht : Int) + (rr : Int) = (m : Int) by omega] | rw [show (16 : Int) = (m : Int) by omega])
    refine (HBX.out).mono ?_
    rintro e w5 ⟨g5, H5, hg5, he, hD5, hb5⟩
    rw [HBLM.out] at he
    subst he
    have hgg : g < g5 := by have := HG4.out; omega
    have HTP5 := Lib.hid (HST4.out.1.below hb5)
    have HND5 := Lib.hid ((HND4.out.below hb5).more hb5.size)
    have HB5 := Lib.hid (HB4.out.trans (hb5.mono HB4.out.size))
    have HL5 := Lib.hid (HL4.out.below hb5)
    have HD5 := Lib.hid hD5
    have HG5 := Lib.hid (show g < w5.heap.size from by have := hb5.size; have := HG4.out; omega)
    clear hb5 hD5 hg5 HST4 HND4 HB4 HL4 HBX
    go_wp2_with fail
    refine (key_any g w5 HTP5.out HL5.out hne2).mono ?_
    rintro e w6 ⟨k1, hk1, rfl, hst6⟩
    have hbQ := (Below.refl w6.heap.size w6).alloc (Nat.le_refl _) (.cells #[.string k1, .string q1] 9)
    have HQ7 := Lib.hid (Has.new w6 9 #[.string k1, .string q1])
    have HND7 := Lib.hid (((nds_step HND5.out hA2 hst6).below hbQ).more hbQ.size)
    have HD7 := Lib.hid ((HD5.out.step hst6 hgg).below hbQ)
    have HB7 := Lib.hid ((HB5.out.grown hst6.2 HB5.out.size (fun j e => by have := Option.some.inj e; omega)).trans (hbQ.mono (Nat.le_trans HB5.out.size hst6.2.size)))
    have HTP7 := Lib.hid (hst6.1.below hbQ)
    obtain ⟨Q, hQ⟩ : ∃ Q, Q = w6.heap.size := ⟨_, rfl⟩
    have hgQ : g < Q := by rw [hQ]; have := hst6.2.size; have := HG5.out; omega
    obtain ⟨W7, hW7⟩ : ∃ W : World, W = w6.alloc (.cells #[.string k1, .string q1] 9) := ⟨_, rfl⟩
    rw [← hQ] at HQ7
    rw [← hW7] at HQ7 HND7 HD7 HB7 HTP7
    clear hbQ hst6 HTP5 HND5 HB5 HL5 HD5 HG5
    go_wp2_with fail
    rw [← hQ, ← hW7]
    clear hQ hW7
    go_loopw [46] (fun vi wr => ∃ i : Nat, vi = .int .i64 (i : Int) ∧ i ≤ 2 ∧ TStep W7 g wr) (fun vi _ => 2 - (intOf vi).toNat)
    case atStart => exact ⟨0, rfl, by omega, TStep.refl HTP7.out⟩
    case round =>
      obtain ⟨i, rfl, hi, hts⟩ := hrel
      by_cases hlt : i < 2
      · have HQr := has_tstep HQ7.out (by omega) hts
        have HNr := Lib.hid (nds_step HND7.out hA2 hts)
        obtain ⟨qi, hqi⟩ : ∃ qi : ByteArray, wr.cell? ⟨Q, i, none⟩ = some (.string qi) := by
          have h3 : i = 0 ∨ i = 1 := by omega
          rcases h3 with rfl | rfl
          · exact ⟨_, HQr.cell 0⟩
          · exact ⟨_, HQr.cell 1⟩
        have i0 : (0 : Int) ≤ (i : Int) := by omega
        have i1 : (i : Int) < 2 := by omega
        have HTS := Lib.hid hts
        clear hts HQr
        go_wp2_with fail
        refine (next_any g LN wr HTS.out.1 (by omega)).mono ?_
        rintro e w8 ⟨r2, s0, s1, rfl, hst8⟩
        obtain ⟨j, rfl⟩ : ∃ m : Nat, r2 = (m : Int) := ⟨r2.toNat, by omega⟩
        have hj : j < LN := by omega
        have j2 : j < l.length := by rw [← HLN.out]; exact hj
        have hN8 := nds_step HNr.out hA2 hst8
        obtain ⟨b, o, eA, hbl, f1, -, -⟩ := hN8.at_ j2
        subst eA
        have HT8 := Lib.hid (HTS.out.trans hst8)
        have HN8 := Lib.hid hN8
        have hB8 := HB7.out.grown HT8.out.2 HB7.out.size (fun jj e => by have := Option.some.inj e; omega)
        have HB8 := Lib.hid hB8
        have HD8 := Lib.hid (HD7.out.step HT8.out hgg)
        have hxl := List.getElem_mem j2
        have hxi := HWI.out _ hxl
        have HCS := Lib.hid (HBD.out _ hxl qi)
        have HR8 := Lib.hid (HRT.out w8 hN8 BV (some ⟨g5, 0, none⟩) LN (HD8.out.read HBVM.out) HBWM.out.1 (by rw [HBLM.out]; unfold maxLen; omega) HBWM.out.2 l[j].id hxi qi)
        generalize l[j].id = xi at *
        rw [HBLM.out] at HR8
        generalize rteR l BV xi qi = R at *
        generalize rteE l xi qi = E at *
        have k0 : (0 : Int) ≤ (j : Int) := by omega
        have k1' : (j : Int) < (LN : Int) := by omega
        clear s0 s1 hst8 hN8 hB8 hxl HTS HNr hqi
        go_wp2_with fail
        refine (HR8.out).mono ?_
        rintro e w9 ⟨v9, rfl, ho9, hb9⟩
        obtain ⟨A9, c9, hv9, hr9⟩ := ho9.read
        subst hv9
        have HN9 := Lib.hid ((HN8.out.below hb9).more hb9.size)
        have HT9 := Lib.hid (HT8.out.below hb9)
        have HB9 := Lib.hid (HB8.out.trans (hb9.mono HB8.out.size))
        have HR9 := Lib.hid hr9
        have HO9 := Lib.hid (HOW.out w9 HN9.out qi)
        generalize owN l qi = z at *
        generalize owB l qi = ob at *
        obtain ⟨zi, zk, zw⟩ := z
        clear ho9 hb9 hr9 HN8 HT8 HB8 HR8 HD8
        go_wp2_with fail
        refine (HO9.out).mono ?_
        rintro e w10 ⟨rfl, hb10⟩
        have hbO := (Below.refl w10.heap.size w10).alloc (Nat.le_refl _) (.cells #[.int .i64 zi, .string zk, .int .u32 (zw : Int)] 51)
        have hk10 := hb10.trans (hbO.mono hb10.size)
        have HO11 := Lib.hid (Has.new w10 51 #[.int .i64 zi, .string zk, .int .u32 (zw : Int)])
        have HN11 := Lib.hid ((HN9.out.below hk10).more hk10.size)
        have HT11 := Lib.hid (HT9.out.below hk10)
        have HB11 := Lib.hid (HB9.out.trans (hk10.mono HB9.out.size))
        have HR11 := Lib.hid ((HR9.out.below hk10).more hk10.size)
        clear hb10 hbO hk10 HO9 HN9 HT9 HB9 HR9
        rcases HCS.out with ⟨e1, e2⟩ | ⟨e1, e2, e3, e4⟩
        · subst e1 e2
          clear HCS
          go_wp2_with fail
          exact ⟨⟨i + 1, by go_num, hlt, HT11.out⟩, by simp [intOf]; try omega⟩
        · subst e1 e2
          obtain ⟨rn, hrn⟩ : ∃ rn, rn = R.length := ⟨_, rfl⟩
          have hrm : R.length ≤ maxLen := by have := (HLN.out ▸ hln : l.length ≤ 10); have := bnd_small l xi; unfold maxLen; omega
          rw [← hrn] at e4
          obtain ⟨bn, hbn⟩ : ∃ bn, bn = bndR l xi := ⟨_, rfl⟩
          rw [← hbn] at e4
          have hgt : ¬ (bn : Int) < (rn : Int) := by omega
          obtain ⟨W11, hW11⟩ : ∃ W : World, W = w10.alloc (.cells #[.int .i64 zi, .string zk, .int .u32 (zw : Int)] 51) := ⟨_, rfl⟩
          obtain ⟨O, hO⟩ : ∃ O, O = w10.heap.size := ⟨_, rfl⟩
          rw [← hO] at HO11
          rw [← hW11] at HO11 HN11 HT11 HB11 HR11
          have HEND : Hid (Calls Tryd.prog 20 #[.int .i64 xi, .slice A9 rn c9] W11.drew fun e w' => e = .returned (.int .i64 zi) ∧ W11.drew = w') := Lib.hid (by rw [hrn, ← e3]; exact endH_any A9 R c9 xi W11.drew HR11.out hrm)
          have HBND := Lib.hid (HBN.out W11.drew HN11.out xi (HDB.out _ HB11.out.drew))
          rw [← hbn] at HBND
          clear hbn e3 e4 hrm
          have hx : W11.drew.cell? ⟨O, 0, none⟩ = some (.int .i64 zi) := HO11.out.cell 0
          have HT11' := Lib.hid (HT11.out.below (Below.refl _ _).drew)
          clear HCS
          go_upto_region 18 with fail
          rw [← hW11, ← hO, ← hrn]
          clear hW11 hO hrn
          have hOl : O < W11.drew.heap.size := HO11.out.lt
          clear HO11 HN11 HT11 HB11 HR11 HBD HRT HBN HOW
          go_region_held3 (fun W => W.cell? ⟨O, 0, none⟩ = some (.int .i64 zi)) (first | with_reducible exact hxb | with_reducible exact hx) (first | (go_at_call 20; refine (HEND.out).mono ?_; rintro e wa ⟨rfl, rfl⟩) | (go_at_call 26; refine (HBND.out).mono ?_; rintro e wb ⟨rfl, hbb⟩; have hxb : wb.cell? ⟨O, 0, none⟩ = some (.int .i64 zi) := (hbb.cell (p := ⟨O, 0, none⟩) hOl).trans hx))
          have HT12 := Lib.hid (HT11'.out.below hbb)
          clear hbb
          go_wp2_with fail
          exact ⟨⟨i + 1, by go_num, hlt, HT12.out⟩, by simp [intOf]; try omega⟩
      · have i1 : ¬ (i : Int) < 2 := by omega
        have HBF := Lib.hid (HB7.out.grown hts.2 HB7.out.size (fun jj e => by have := Option.some.inj e; omega))
        clear hts
        go_wp2_with fail
        refine (HSA.out _ HBF.out).mono ?_
        rintro e wz ⟨rfl, hbz⟩
        have HBZ := Lib.hid (HBF.out.trans (hbz.mono HBF.out.size))
        clear hbz
        go_wp2_with fail
        go_ret
        exact ⟨rfl, HBZ.out⟩
end Go.Proofs.YtdeamjimjcojhaaDoor
