/-
  The walk of LockfreeMakes: from whatever numbers, keys, truths and number it answers true and only makes memory. Conditions: the arguments can be read; 'letters' is as its initialiser lays it.
-/
import Derived.Test.YtmhbloefmknikaaDoorOcA
namespace Go.Proofs.YtmhbloefmknikaaDoor
open Go.RowKit Go.Maps
namespace Lf
open Lk
set_option maxRecDepth 100000 in
set_option maxHeartbeats 20000000 in
theorem makes_walk (A : Option Addr) (n0 cp : Nat) (AK AI : Option Addr) (ks : List ByteArray) (is : List Bool) (cK cI : Nat) (procs : Int) (w : World) (hL : Lets w) (hnc : n0 ≤ cp) (hc : cp ≤ maxLen) (hN : Nums w w.heap.size A n0) (hK : RdR trow 1 w 0 AK ks) (hkl : ks.length ≤ maxLen) (hI : RdR brow 1 w 0 AI is) (hil : is.length ≤ maxLen) :
    Calls Tryd.prog 4 #[.slice A n0 cp, .slice AK ks.length cK, .slice AI is.length cI, .int .i64 procs] w (LawP w) := by
  obtain ⟨kl, hkn⟩ : ∃ kl, kl = ks.length := ⟨_, rfl⟩
  obtain ⟨bl, hbn⟩ : ∃ bl, bl = is.length := ⟨_, rfl⟩
  rw [← hkn] at hkl ⊢
  rw [← hbn] at hil ⊢
  have HKN := Lib.hid hkn
  have HBN := Lib.hid hbn
  have HKA := Lib.hid hK
  have HIA := Lib.hid hI
  unfold maxLen at hkl hil
  clear hK hI hkn hbn
  go_enter Tryd.func4, Tryd.ntmps4
  go_wp2_with fail
  refine (Go.Proofs.YtmhbloefmknikaaDoor.new_any A n0 cp _ hnc hc hN).mono ?_
  rintro e w1 ⟨g, hg1, rfl, hTp, hb1⟩
  have hne2 : 0 ≠ g := by have := hL.lt; omega
  have l1 := hL.below hb1
  have hgw := hTp.lt
  have HB1 := Lib.hid hb1
  have HST := Lib.hid (TStep.refl hTp)
  have HLL := Lib.hid (fun W (q : TStep w1 g W) => l1.step hne2 q)
  clear hN hnc hc hL hb1 hTp l1
  go_wp2_with fail
  go_loopw [10] (fun v10 wr => ∃ i : Nat, v10 = .int .i64 (i : Int) ∧ i ≤ 3 ∧ TStep w1 g wr) (fun v10 _ => 3 - (intOf v10).toNat)
  case atStart => exact ⟨0, rfl, Nat.zero_le _, HST.out⟩
  case round =>
    clear HST
    obtain ⟨i, rfl, hi, ht⟩ := hrel
    have HT := Lib.hid ht
    have hsr := ht.2.size
    clear ht
    by_cases hlt : i < 3
    · have hd : decide ((i : Int) < 3) = true := by simp; omega
      go_wp2_with fail
      refine (keys_any g wr HT.out.1 (HLL.out _ HT.out) hne2 (by omega)).mono ?_
      rintro e w2 ⟨v1, v2, k2, i2, rfl, hil2, hk6, -, -, ho1, ho2, hdj, hst2⟩
      have HT2 := Lib.hid (HT.out.trans hst2)
      have HO1 := Lib.hid ho1
      have HO2 := Lib.hid ho2
      have HDJ := Lib.hid hdj
      have HLN := Lib.hid hil2
      have hs2 := hst2.2.size
      obtain ⟨A1, q1, hv1, _, _, -⟩ := ho1.read (fun _ => rfl)
      obtain ⟨A2, q2, hv2, _, _, -⟩ := ho2.read (fun _ => rfl)
      rw [hil2] at hv2
      obtain ⟨k, hk⟩ : ∃ k, k = k2.length := ⟨_, rfl⟩
      rw [← hk] at hv1 hv2 hk6
      have HK2 := Lib.hid hk
      subst hv1 hv2
      clear hst2 ho1 ho2 hdj hil2 hk
      have HPK : Hid (Calls Tryd.prog 22 #[.pointer (some ⟨g, 0, none⟩), .slice (some ⟨w2.heap.size, 0, none⟩) 5 5] (w2.alloc (.cells #[.int .i64 1, .int .i64 3, .int .i64 0, .int .i64 8, .int .i64 9] 3)) (PickP [1, 3, 0, 8, 9] g (w2.alloc (.cells #[.int .i64 1, .int .i64 3, .int .i64 0, .int .i64 8, .int .i64 9] 3)))) := Lib.hid (by
        have hV := Has.new w2 3 #[.int .i64 1, .int .i64 3, .int .i64 0, .int .i64 8, .int .i64 9]
        refine pick_any g w2.heap.size 5 [1, 3, 0, 8, 9] _ (HT2.out.alloc (.cells #[.int .i64 1, .int .i64 3, .int .i64 0, .int .i64 8, .int .i64 9] 3)).1 (by simp) (by simp) (by simp) (by omega) (fun i hi => ?_)
        rw [hV.cell]
        have h5 : i = 0 ∨ i = 1 ∨ i = 2 ∨ i = 3 ∨ i = 4 := by simp at hi; omega
        rcases h5 with rfl | rfl | rfl | rfl | rfl <;> rfl)
      have HTF := Lib.hid (HT2.out.alloc (.cells #[.int .i64 1, .int .i64 3, .int .i64 0, .int .i64 8, .int .i64 9] 3))
      have HOF1 := Lib.hid (HO1.out.below ((Below.refl w2.heap.size w2).alloc (Nat.le_refl _) (.cells #[.int .i64 1, .int .i64 3, .int .i64 0, .int .i64 8, .int .i64 9] 3)))
      have HOF2 := Lib.hid (HO2.out.below ((Below.refl w2.heap.size w2).alloc (Nat.le_refl _) (.cells #[.int .i64 1, .int .i64 3, .int .i64 0, .int .i64 8, .int .i64 9] 3)))
      clear HO1 HO2
      go_wp2_with fail
      refine HPK.out.mono ?_
      rintro e w3 ⟨v, -, rfl, hst3⟩
      have HT3 := Lib.hid (HTF.out.trans hst3)
      have HP1 := Lib.hid (HOF1.out.step (by omega) hst3)
      have HP2 := Lib.hid (HOF2.out.step (by omega) hst3)
      have hs3 := HT3.out.2.size
      have hs3r : wr.heap.size ≤ w3.heap.size := by have := hst3.2.size; rw [World.size_alloc] at this; omega
      clear hst3 HTF HOF1 HOF2 HPK HT2
      obtain ⟨_, _, er1, _, _, hr1⟩ := HP1.out.read (fun _ => rfl)
      injection er1 with ea1 ea3 ea2
      clear ea3
      subst ea1 ea2
      obtain ⟨_, _, er2, _, _, hr2⟩ := HP2.out.read (fun _ => rfl)
      injection er2 with eb1 eb3 eb2
      clear eb3
      subst eb1 eb2
      have HR1 := Lib.hid (RdR.low hr1 (Nat.zero_le _))
      have HR2 := Lib.hid (RdR.low hr2 (Nat.zero_le _))
      clear hr1 hr2
      have h3 : i = 0 ∨ i = 1 ∨ i = 2 := by omega
      rcases h3 with hi0 | hi1 | hi2
      · have e1 : ((i : Int) == 1) = false := by rw [hi0]; rfl
        have e2 : ((i : Int) == 2) = false := by rw [hi0]; rfl
        clear hi0
        go_wp2_with fail
        refine (new_any A1 A2 k2 i2 k k q1 q2 v w3 HK2.out.symm (HLN.out.trans HK2.out.symm) HR1.out HR2.out (by omega) (by omega)).mono ?_
        intro e wx hx
        rcases hx with ⟨h0, rfl, hbx⟩ | ⟨h0, G1, G2, d1, d2, rfl, hrx, hbx⟩
        · have hba := (Below.refl wx.heap.size wx).alloc (Nat.le_refl _) (.cells #[.slice none 0 0, .slice none 0 0] 28)
          have hb1 := hbx.trans (hba.mono hbx.size)
          have HY1 := Lib.hid (Has.new wx 28 #[.slice none 0 0, .slice none 0 0])
          have HRN := Lib.hid (rnew_any A1 A2 k2 i2 k k q1 q2 v (wx.alloc (.cells #[.slice none 0 0, .slice none 0 0] 28)) HK2.out.symm (HLN.out.trans HK2.out.symm) (RdR.below HR1.out hb1) (RdR.below HR2.out hb1) (by omega) (by omega))
          have HTx := Lib.hid (HT3.out.below hb1)
          have H0 := Lib.hid h0
          have hsx : (wx.alloc (.cells #[.slice none 0 0, .slice none 0 0] 28)).heap.size = wx.heap.size + 1 := World.size_alloc _ _
          unfold zeroL at HRN ⊢
          clear h0 hbx hba hb1
          obtain ⟨EE, hEE⟩ : ∃ EE, EE = newE k2 i2 v := ⟨_, rfl⟩
          rw [← hEE]
          have HEE := Lib.hid hEE
          clear hEE
          go_wp2_with fail
          refine HRN.out.mono ?_
          intro e wy hy
          rcases hy with ⟨h0, rfl, hby⟩ | ⟨h0, -⟩
          · rw [← HEE.out]
            have hby2 := hby.trans (((Below.refl wy.heap.size wy).alloc (Nat.le_refl _) (.cells #[.slice none 0 0, .slice none 0 0] 28)).mono hby.size)
            have HY2 := Lib.hid (HY1.out.below hby2)
            have HY3 := Lib.hid (Has.new wy 28 #[.slice none 0 0, .slice none 0 0])
            have HTy := Lib.hid (HTx.out.below hby2)
            unfold zeroL
            clear h0 hby hby2 hsx
            go_upto_region 16 with fail
            generalize wy.alloc (.cells #[.slice none 0 0, .slice none 0 0] 28) = V at *
            have y0 := HY2.out.cell 0
            have y1 := HY2.out.cell 1
            have y2 := HY3.out.cell 0
            have y3 := HY3.out.cell 1
            have hee : (EE != EE) = false := by simp
            go_wp2_with fail
            refine (rsame_self none none none none ⟨[], []⟩ 0 0 0 0 0 0 0 0 V rfl rfl ⟨RdR.nil, RdR.nil⟩ ⟨RdR.nil, RdR.nil⟩ (by omega) (by omega)).mono ?_
            rintro e wz ⟨rfl, hbz⟩
            have HTz := Lib.hid (HTy.out.below hbz)
            clear hbz y0 y1 y2 y3
            go_wp2_with fail
            exact ⟨⟨i + 1, by go_num, by omega, HTz.out⟩, by simp [intOf]; omega⟩
          · exact absurd h0 H0.out
        · have hba := (Below.refl wx.heap.size wx).alloc (Nat.le_refl _) (.cells #[.slice (some ⟨G1, 0, none⟩) (k + 2) d1, .slice (some ⟨G2, 0, none⟩) (v).toNat d2] 28)
          have hb1 := hbx.trans (hba.mono hbx.size)
          have HY1 := Lib.hid (Has.new wx 28 #[.slice (some ⟨G1, 0, none⟩) (k + 2) d1, .slice (some ⟨G2, 0, none⟩) (v).toNat d2])
          have HRN := Lib.hid (rnew_any A1 A2 k2 i2 k k q1 q2 v (wx.alloc (.cells #[.slice (some ⟨G1, 0, none⟩) (k + 2) d1, .slice (some ⟨G2, 0, none⟩) (v).toNat d2] 28)) HK2.out.symm (HLN.out.trans HK2.out.symm) (RdR.below HR1.out hb1) (RdR.below HR2.out hb1) (by omega) (by omega))
          have HTx := Lib.hid (HT3.out.below hb1)
          have HRX := Lib.hid ((hrx.low (Nat.zero_le _)).below hba)
          have H0 := Lib.hid h0
          have HLN : Hid ((newV k2 (v).toNat (selV i2)).cs.length = k + 2 ∧ (newV k2 (v).toNat (selV i2)).ps.length = (v).toNat) := Lib.hid ⟨by rw [newV_len, HK2.out.symm], by simp [newV]⟩
          have HSM : Hid (k ≤ 64 ∧ (v).toNat ≤ 8) := Lib.hid (by
            have h := h0
            unfold newE at h
            by_cases q1 : (k2).length > 64
            · rw [if_pos q1] at h; cases h
            · rw [if_neg q1] at h
              by_cases q2 : ¬ (1 ≤ v ∧ v ≤ 8)
              · rw [if_pos q2] at h; cases h
              · have := HK2.out.symm
                omega)
          clear h0 hrx hbx hba hb1
          obtain ⟨N2, hN2⟩ : ∃ N2, N2 = k + 2 := ⟨_, rfl⟩
          obtain ⟨M2, hM2⟩ : ∃ M2, M2 = (v).toNat := ⟨_, rfl⟩
          rw [← hN2, ← hM2] at HLN HY1 HRN HTx HRX ⊢
          have HN2 := Lib.hid hN2
          have HM2 := Lib.hid hM2
          clear hN2 hM2
          go_wp2_with fail
          refine HRN.out.mono ?_
          intro e wy hy
          rcases hy with ⟨h0, -, -⟩ | ⟨-, J1, J2, e1, e2, rfl, hry, hby⟩
          · exact absurd H0.out h0
          · rw [← HN2.out, ← HM2.out]
            have hbya := (Below.refl wy.heap.size wy).alloc (Nat.le_refl _) (.cells #[.slice (some ⟨J1, 0, none⟩) N2 e1, .slice (some ⟨J2, 0, none⟩) M2 e2] 28)
            have hby2 := hby.trans (hbya.mono hby.size)
            have HY2 := Lib.hid (HY1.out.below hby2)
            have HY3 := Lib.hid (Has.new wy 28 #[.slice (some ⟨J1, 0, none⟩) N2 e1, .slice (some ⟨J2, 0, none⟩) M2 e2])
            have HTy := Lib.hid (HTx.out.below hby2)
            have HR1 := Lib.hid (HRX.out.below hby2)
            have HR2 := Lib.hid ((hry.low (Nat.zero_le _)).below hbya)
            rw [← HM2.out] at HR2
            clear hry hby hby2 hbya
            go_upto_region 16 with fail
            generalize wy.alloc (.cells #[.slice (some ⟨J1, 0, none⟩) N2 e1, .slice (some ⟨J2, 0, none⟩) M2 e2] 28) = V at *
            have y0 := HY2.out.cell 0
            have y1 := HY2.out.cell 1
            have y2 := HY3.out.cell 0
            have y3 := HY3.out.cell 1
            have hee : ((0 : Int) != 0) = false := rfl
            go_wp2_with fail
            refine (rsame_self (some ⟨G1, 0, none⟩) (some ⟨G2, 0, none⟩) (some ⟨J1, 0, none⟩) (some ⟨J2, 0, none⟩) _ N2 M2 d1 d2 e1 e2 0 0 V HLN.out.1 HLN.out.2 HR1.out HR2.out (by have := HSM.out; have := HN2.out; omega) (by have := HSM.out; have := HM2.out; omega)).mono ?_
            rintro e wz ⟨rfl, hbz⟩
            have HTz := Lib.hid (HTy.out.below hbz)
            clear hbz y0 y1 y2 y3
            go_wp2_with fail
            exact ⟨⟨i + 1, by go_num, by omega, HTz.out⟩, by simp [intOf]; omega⟩
      · have e2 : ((i : Int) == 2) = false := by rw [hi1]; rfl
        have e1 : ((i : Int) == 1) = true := by rw [hi1]; rfl
        clear hi1
        by_cases hk0 : 0 < k
        · have hkd : decide ((k : Int) > 0) = true := by simp; omega
          have hkd2 : decide (0 < k) = true := by simpa using hk0
          go_wp2_with fail
          refine (next_any g (k : Int) w3 HT3.out.1 (by omega)).mono ?_
          rintro e w4 ⟨r, r0, r1, rfl, hst4⟩
          obtain ⟨q, rfl⟩ := Int.eq_ofNat_of_zero_le r0
          have hq : q < k := by omega
          have HT4 := Lib.hid (HT3.out.trans hst4)
          have HQ1 := Lib.hid (HP1.out.step (by omega) hst4)
          have HQ2 := Lib.hid (HP2.out.step (by omega) hst4)
          have hs4 := hst4.2.size
          obtain ⟨bq, oq, eq, -, -, tq⟩ := text_at (RdR.low (by obtain ⟨_, _, e9, _, _, h9⟩ := HQ1.out.read (fun _ => rfl); injection e9 with e9 _ _; subst e9; exact h9) (Nat.zero_le _) : RdR trow 1 w4 0 A1 k2) (i := q) (by rw [← HK2.out]; exact hq)
          subst eq
          obtain ⟨key, hkey⟩ : ∃ key, key = k2[q]'(by rw [← HK2.out]; exact hq) := ⟨_, rfl⟩
          rw [← hkey] at tq
          have q0 : (0 : Int) ≤ (q : Int) := by omega
          have q1' : (q : Int) < (k : Int) := by omega
          clear hst4 r0 r1 hkey HP1 HP2 HR1 HR2
          go_wp2_with (first | (at_builtin; refine wpList_pushR RowT.tx rfl (.tmp 40) (.tmp 48) rfl wr.heap.size (.slice (some ⟨bq, oq, none⟩) k q1) k2 w4 key _ rfl (by simp [Act.eval]) HQ1.out (by simp [Act.eval]) (by have := HK2.out; omega) (by omega) ?_; intro v5 w5 ho5 hg5 hat5; obtain ⟨A5, n5, q5, hv5⟩ := own_sh ho5; subst hv5; have HP5 := Lib.hid ho5; have hb5 := grown_below hg5 (show wr.heap.size ≤ w4.heap.size by omega) (fun j e => (HQ1.out.lt j e).1); have HQ5 := Lib.hid (HQ2.out.grown hg5 (dis_of HDJ.out)); have HT5 := Lib.hid (tover HT4.out hgw (hb5.mono hsr)); have HD5 := Lib.hid (dis_l HDJ.out hat5 (fun j e => (HQ2.out.lt j e).2)); have hs5 := hb5.size; clear ho5 hg5 hat5 hb5) | (at_builtin; refine wpList_pushR RowT.bo rfl (.tmp 50) (.tmp 51) rfl wr.heap.size (.slice A2 k q2) i2 w5 true _ rfl (by simp [Act.eval]) HQ5.out (by simp [Act.eval]) (by have := HK2.out; have := HLN.out; omega) (by omega) ?_; intro v8 w8 ho8 hg8 hat8; obtain ⟨A8, n8, q8, hv8⟩ := own_sh ho8; subst hv8; have HQ8 := Lib.hid ho8; have hb8 := grown_below hg8 (show wr.heap.size ≤ w5.heap.size by omega) (fun j e => (HQ5.out.lt j e).1); have HP8 := Lib.hid (HP5.out.grown hg8 (dis_of (fun j h1 h2 => HD5.out j h2 h1))); have HT8 := Lib.hid (tover HT5.out hgw (hb8.mono hsr)); clear ho8 hg8 hat8 hb8))
          obtain ⟨kx, hkx⟩ : ∃ kx, kx = k2 ++ [key] := ⟨_, rfl⟩
          obtain ⟨ix, hix⟩ : ∃ ix, ix = i2 ++ [true] := ⟨_, rfl⟩
          rw [← hkx] at HP8
          rw [← hix] at HQ8
          obtain ⟨_, _, e9, _, _, h9⟩ := HP8.out.read (fun _ => rfl)
          injection e9 with a1 a2 a3
          subst a1 a3
          have HN5 := Lib.hid a2
          obtain ⟨_, _, e7, _, _, h7⟩ := HQ8.out.read (fun _ => rfl)
          injection e7 with b1 b2 b3
          subst b1 b3
          have HN8 := Lib.hid b2
          have HX1 := Lib.hid (RdR.low h9 (Nat.zero_le _))
          have HX2 := Lib.hid (RdR.low h7 (Nat.zero_le _))
          have hn5 : n5 ≤ 7 := by rw [HN5.out, hkx, List.length_append]; have := HK2.out; simp; omega
          have hn8 : n8 ≤ 7 := by rw [HN8.out, hix, List.length_append]; have := HK2.out; have := HLN.out; simp; omega
          clear a2 b2 h9 h7 hkx hix tq
          go_wp2_with fail
          refine (new_any A5 A8 kx ix n5 n8 q5 q8 v w8 HN5.out.symm HN8.out.symm HX1.out HX2.out (by omega) (by omega)).mono ?_
          intro e wx hx
          rcases hx with ⟨h0, rfl, hbx⟩ | ⟨h0, G1, G2, d1, d2, rfl, hrx, hbx⟩
          · have hba := (Below.refl wx.heap.size wx).alloc (Nat.le_refl _) (.cells #[.slice none 0 0, .slice none 0 0] 28)
            have hb1 := hbx.trans (hba.mono hbx.size)
            have HY1 := Lib.hid (Has.new wx 28 #[.slice none 0 0, .slice none 0 0])
            have HRN := Lib.hid (rnew_any A5 A8 kx ix n5 n8 q5 q8 v (wx.alloc (.cells #[.slice none 0 0, .slice none 0 0] 28)) HN5.out.symm HN8.out.symm (RdR.below HX1.out hb1) (RdR.below HX2.out hb1) (by omega) (by omega))
            have HTx := Lib.hid (HT8.out.below hb1)
            have H0 := Lib.hid h0
            have hsx : (wx.alloc (.cells #[.slice none 0 0, .slice none 0 0] 28)).heap.size = wx.heap.size + 1 := World.size_alloc _ _
            unfold zeroL at HRN ⊢
            clear h0 hbx hba hb1
            obtain ⟨EE, hEE⟩ : ∃ EE, EE = newE kx ix v := ⟨_, rfl⟩
            rw [← hEE]
            have HEE := Lib.hid hEE
            clear hEE
            go_wp2_with fail
            refine HRN.out.mono ?_
            intro e wy hy
            rcases hy with ⟨h0, rfl, hby⟩ | ⟨h0, -⟩
            · rw [← HEE.out]
              have hby2 := hby.trans (((Below.refl wy.heap.size wy).alloc (Nat.le_refl _) (.cells #[.slice none 0 0, .slice none 0 0] 28)).mono hby.size)
              have HY2 := Lib.hid (HY1.out.below hby2)
              have HY3 := Lib.hid (Has.new wy 28 #[.slice none 0 0, .slice none 0 0])
              have HTy := Lib.hid (HTx.out.below hby2)
              unfold zeroL
              clear h0 hby hby2 hsx
              go_upto_region 16 with fail
              generalize wy.alloc (.cells #[.slice none 0 0, .slice none 0 0] 28) = V at *
              have y0 := HY2.out.cell 0
              have y1 := HY2.out.cell 1
              have y2 := HY3.out.cell 0
              have y3 := HY3.out.cell 1
              have hee : (EE != EE) = false := by simp
              go_wp2_with fail
              refine (rsame_self none none none none ⟨[], []⟩ 0 0 0 0 0 0 0 0 V rfl rfl ⟨RdR.nil, RdR.nil⟩ ⟨RdR.nil, RdR.nil⟩ (by omega) (by omega)).mono ?_
              rintro e wz ⟨rfl, hbz⟩
              have HTz := Lib.hid (HTy.out.below hbz)
              clear hbz y0 y1 y2 y3
              go_wp2_with fail
              exact ⟨⟨i + 1, by go_num, by omega, HTz.out⟩, by simp [intOf]; omega⟩
            · exact absurd h0 H0.out
          · have hba := (Below.refl wx.heap.size wx).alloc (Nat.le_refl _) (.cells #[.slice (some ⟨G1, 0, none⟩) (n5 + 2) d1, .slice (some ⟨G2, 0, none⟩) (v).toNat d2] 28)
            have hb1 := hbx.trans (hba.mono hbx.size)
            have HY1 := Lib.hid (Has.new wx 28 #[.slice (some ⟨G1, 0, none⟩) (n5 + 2) d1, .slice (some ⟨G2, 0, none⟩) (v).toNat d2])
            have HRN := Lib.hid (rnew_any A5 A8 kx ix n5 n8 q5 q8 v (wx.alloc (.cells #[.slice (some ⟨G1, 0, none⟩) (n5 + 2) d1, .slice (some ⟨G2, 0, none⟩) (v).toNat d2] 28)) HN5.out.symm HN8.out.symm (RdR.below HX1.out hb1) (RdR.below HX2.out hb1) (by omega) (by omega))
            have HTx := Lib.hid (HT8.out.below hb1)
            have HRX := Lib.hid ((hrx.low (Nat.zero_le _)).below hba)
            have H0 := Lib.hid h0
            have HLN : Hid ((newV kx (v).toNat (selV ix)).cs.length = n5 + 2 ∧ (newV kx (v).toNat (selV ix)).ps.length = (v).toNat) := Lib.hid ⟨by rw [newV_len, HN5.out.symm], by simp [newV]⟩
            have HSM : Hid (n5 ≤ 64 ∧ (v).toNat ≤ 8) := Lib.hid (by
              have h := h0
              unfold newE at h
              by_cases q1 : (kx).length > 64
              · rw [if_pos q1] at h; cases h
              · rw [if_neg q1] at h
                by_cases q2 : ¬ (1 ≤ v ∧ v ≤ 8)
                · rw [if_pos q2] at h; cases h
                · have := HN5.out.symm
                  omega)
            clear h0 hrx hbx hba hb1
            obtain ⟨N2, hN2⟩ : ∃ N2, N2 = n5 + 2 := ⟨_, rfl⟩
            obtain ⟨M2, hM2⟩ : ∃ M2, M2 = (v).toNat := ⟨_, rfl⟩
            rw [← hN2, ← hM2] at HLN HY1 HRN HTx HRX ⊢
            have HN2 := Lib.hid hN2
            have HM2 := Lib.hid hM2
            clear hN2 hM2
            go_wp2_with fail
            refine HRN.out.mono ?_
            intro e wy hy
            rcases hy with ⟨h0, -, -⟩ | ⟨-, J1, J2, e1, e2, rfl, hry, hby⟩
            · exact absurd H0.out h0
            · rw [← HN2.out, ← HM2.out]
              have hbya := (Below.refl wy.heap.size wy).alloc (Nat.le_refl _) (.cells #[.slice (some ⟨J1, 0, none⟩) N2 e1, .slice (some ⟨J2, 0, none⟩) M2 e2] 28)
              have hby2 := hby.trans (hbya.mono hby.size)
              have HY2 := Lib.hid (HY1.out.below hby2)
              have HY3 := Lib.hid (Has.new wy 28 #[.slice (some ⟨J1, 0, none⟩) N2 e1, .slice (some ⟨J2, 0, none⟩) M2 e2])
              have HTy := Lib.hid (HTx.out.below hby2)
              have HR1 := Lib.hid (HRX.out.below hby2)
              have HR2 := Lib.hid ((hry.low (Nat.zero_le _)).below hbya)
              rw [← HM2.out] at HR2
              clear hry hby hby2 hbya
              go_upto_region 16 with fail
              generalize wy.alloc (.cells #[.slice (some ⟨J1, 0, none⟩) N2 e1, .slice (some ⟨J2, 0, none⟩) M2 e2] 28) = V at *
              have y0 := HY2.out.cell 0
              have y1 := HY2.out.cell 1
              have y2 := HY3.out.cell 0
              have y3 := HY3.out.cell 1
              have hee : ((0 : Int) != 0) = false := rfl
              go_wp2_with fail
              refine (rsame_self (some ⟨G1, 0, none⟩) (some ⟨G2, 0, none⟩) (some ⟨J1, 0, none⟩) (some ⟨J2, 0, none⟩) _ N2 M2 d1 d2 e1 e2 0 0 V HLN.out.1 HLN.out.2 HR1.out HR2.out (by have := HSM.out; have := HN2.out; omega) (by have := HSM.out; have := HM2.out; omega)).mono ?_
              rintro e wz ⟨rfl, hbz⟩
              have HTz := Lib.hid (HTy.out.below hbz)
              clear hbz y0 y1 y2 y3
              go_wp2_with fail
              exact ⟨⟨i + 1, by go_num, by omega, HTz.out⟩, by simp [intOf]; omega⟩
        · have hkd : decide ((k : Int) > 0) = false := by simp; omega
          have hkd2 : decide (0 < k) = false := by simpa using hk0
          clear hk0
          go_wp2_with fail
          refine (new_any A1 A2 k2 i2 k k q1 q2 v w3 HK2.out.symm (HLN.out.trans HK2.out.symm) HR1.out HR2.out (by omega) (by omega)).mono ?_
          intro e wx hx
          rcases hx with ⟨h0, rfl, hbx⟩ | ⟨h0, G1, G2, d1, d2, rfl, hrx, hbx⟩
          · have hba := (Below.refl wx.heap.size wx).alloc (Nat.le_refl _) (.cells #[.slice none 0 0, .slice none 0 0] 28)
            have hb1 := hbx.trans (hba.mono hbx.size)
            have HY1 := Lib.hid (Has.new wx 28 #[.slice none 0 0, .slice none 0 0])
            have HRN := Lib.hid (rnew_any A1 A2 k2 i2 k k q1 q2 v (wx.alloc (.cells #[.slice none 0 0, .slice none 0 0] 28)) HK2.out.symm (HLN.out.trans HK2.out.symm) (RdR.below HR1.out hb1) (RdR.below HR2.out hb1) (by omega) (by omega))
            have HTx := Lib.hid (HT3.out.below hb1)
            have H0 := Lib.hid h0
            have hsx : (wx.alloc (.cells #[.slice none 0 0, .slice none 0 0] 28)).heap.size = wx.heap.size + 1 := World.size_alloc _ _
            unfold zeroL at HRN ⊢
            clear h0 hbx hba hb1
            obtain ⟨EE, hEE⟩ : ∃ EE, EE = newE k2 i2 v := ⟨_, rfl⟩
            rw [← hEE]
            have HEE := Lib.hid hEE
            clear hEE
            go_wp2_with fail
            refine HRN.out.mono ?_
            intro e wy hy
            rcases hy with ⟨h0, rfl, hby⟩ | ⟨h0, -⟩
            · rw [← HEE.out]
              have hby2 := hby.trans (((Below.refl wy.heap.size wy).alloc (Nat.le_refl _) (.cells #[.slice none 0 0, .slice none 0 0] 28)).mono hby.size)
              have HY2 := Lib.hid (HY1.out.below hby2)
              have HY3 := Lib.hid (Has.new wy 28 #[.slice none 0 0, .slice none 0 0])
              have HTy := Lib.hid (HTx.out.below hby2)
              unfold zeroL
              clear h0 hby hby2 hsx
              go_upto_region 16 with fail
              generalize wy.alloc (.cells #[.slice none 0 0, .slice none 0 0] 28) = V at *
              have y0 := HY2.out.cell 0
              have y1 := HY2.out.cell 1
              have y2 := HY3.out.cell 0
              have y3 := HY3.out.cell 1
              have hee : (EE != EE) = false := by simp
              go_wp2_with fail
              refine (rsame_self none none none none ⟨[], []⟩ 0 0 0 0 0 0 0 0 V rfl rfl ⟨RdR.nil, RdR.nil⟩ ⟨RdR.nil, RdR.nil⟩ (by omega) (by omega)).mono ?_
              rintro e wz ⟨rfl, hbz⟩
              have HTz := Lib.hid (HTy.out.below hbz)
              clear hbz y0 y1 y2 y3
              go_wp2_with fail
              exact ⟨⟨i + 1, by go_num, by omega, HTz.out⟩, by simp [intOf]; omega⟩
            · exact absurd h0 H0.out
          · have hba := (Below.refl wx.heap.size wx).alloc (Nat.le_refl _) (.cells #[.slice (some ⟨G1, 0, none⟩) (k + 2) d1, .slice (some ⟨G2, 0, none⟩) (v).toNat d2] 28)
            have hb1 := hbx.trans (hba.mono hbx.size)
            have HY1 := Lib.hid (Has.new wx 28 #[.slice (some ⟨G1, 0, none⟩) (k + 2) d1, .slice (some ⟨G2, 0, none⟩) (v).toNat d2])
            have HRN := Lib.hid (rnew_any A1 A2 k2 i2 k k q1 q2 v (wx.alloc (.cells #[.slice (some ⟨G1, 0, none⟩) (k + 2) d1, .slice (some ⟨G2, 0, none⟩) (v).toNat d2] 28)) HK2.out.symm (HLN.out.trans HK2.out.symm) (RdR.below HR1.out hb1) (RdR.below HR2.out hb1) (by omega) (by omega))
            have HTx := Lib.hid (HT3.out.below hb1)
            have HRX := Lib.hid ((hrx.low (Nat.zero_le _)).below hba)
            have H0 := Lib.hid h0
            have HLN : Hid ((newV k2 (v).toNat (selV i2)).cs.length = k + 2 ∧ (newV k2 (v).toNat (selV i2)).ps.length = (v).toNat) := Lib.hid ⟨by rw [newV_len, HK2.out.symm], by simp [newV]⟩
            have HSM : Hid (k ≤ 64 ∧ (v).toNat ≤ 8) := Lib.hid (by
              have h := h0
              unfold newE at h
              by_cases q1 : (k2).length > 64
              · rw [if_pos q1] at h; cases h
              · rw [if_neg q1] at h
                by_cases q2 : ¬ (1 ≤ v ∧ v ≤ 8)
                · rw [if_pos q2] at h; cases h
                · have := HK2.out.symm
                  omega)
            clear h0 hrx hbx hba hb1
            obtain ⟨N2, hN2⟩ : ∃ N2, N2 = k + 2 := ⟨_, rfl⟩
            obtain ⟨M2, hM2⟩ : ∃ M2, M2 = (v).toNat := ⟨_, rfl⟩
            rw [← hN2, ← hM2] at HLN HY1 HRN HTx HRX ⊢
            have HN2 := Lib.hid hN2
            have HM2 := Lib.hid hM2
            clear hN2 hM2
            go_wp2_with fail
            refine HRN.out.mono ?_
            intro e wy hy
            rcases hy with ⟨h0, -, -⟩ | ⟨-, J1, J2, e1, e2, rfl, hry, hby⟩
            · exact absurd H0.out h0
            · rw [← HN2.out, ← HM2.out]
              have hbya := (Below.refl wy.heap.size wy).alloc (Nat.le_refl _) (.cells #[.slice (some ⟨J1, 0, none⟩) N2 e1, .slice (some ⟨J2, 0, none⟩) M2 e2] 28)
              have hby2 := hby.trans (hbya.mono hby.size)
              have HY2 := Lib.hid (HY1.out.below hby2)
              have HY3 := Lib.hid (Has.new wy 28 #[.slice (some ⟨J1, 0, none⟩) N2 e1, .slice (some ⟨J2, 0, none⟩) M2 e2])
              have HTy := Lib.hid (HTx.out.below hby2)
              have HR1 := Lib.hid (HRX.out.below hby2)
              have HR2 := Lib.hid ((hry.low (Nat.zero_le _)).below hbya)
              rw [← HM2.out] at HR2
              clear hry hby hby2 hbya
              go_upto_region 16 with fail
              generalize wy.alloc (.cells #[.slice (some ⟨J1, 0, none⟩) N2 e1, .slice (some ⟨J2, 0, none⟩) M2 e2] 28) = V at *
              have y0 := HY2.out.cell 0
              have y1 := HY2.out.cell 1
              have y2 := HY3.out.cell 0
              have y3 := HY3.out.cell 1
              have hee : ((0 : Int) != 0) = false := rfl
              go_wp2_with fail
              refine (rsame_self (some ⟨G1, 0, none⟩) (some ⟨G2, 0, none⟩) (some ⟨J1, 0, none⟩) (some ⟨J2, 0, none⟩) _ N2 M2 d1 d2 e1 e2 0 0 V HLN.out.1 HLN.out.2 HR1.out HR2.out (by have := HSM.out; have := HN2.out; omega) (by have := HSM.out; have := HM2.out; omega)).mono ?_
              rintro e wz ⟨rfl, hbz⟩
              have HTz := Lib.hid (HTy.out.below hbz)
              clear hbz y0 y1 y2 y3
              go_wp2_with fail
              exact ⟨⟨i + 1, by go_num, by omega, HTz.out⟩, by simp [intOf]; omega⟩
      · have e1 : ((i : Int) == 1) = false := by rw [hi2]; rfl
        have e2 : ((i : Int) == 2) = true := by rw [hi2]; rfl
        clear hi2
        have HBW := Lib.hid (HB1.out.grown HT3.out.2 HB1.out.size (fun j e => by have := Option.some.inj e; omega))
        have HKW := Lib.hid (RdR.below HKA.out HBW.out)
        have HIW := Lib.hid (RdR.below HIA.out HBW.out)
        by_cases h100 : kl ≤ 100
        · have hkd : decide ((kl : Int) ≤ 100) = true := by simp; omega
          have hkd2 : decide (kl ≤ 100) = true := by simpa using h100
          clear h100
          go_wp2_with fail
          refine (bool_any g 2 w3 HT3.out.1 (by omega) (by omega)).mono ?_
          rintro e w4 ⟨b4, rfl, hst4⟩
          have HT4 := Lib.hid (HT3.out.trans hst4)
          have HBW4 := Lib.hid (HB1.out.grown HT4.out.2 HB1.out.size (fun j e => by have := Option.some.inj e; omega))
          have HKW4 := Lib.hid (RdR.below HKA.out HBW4.out)
          have HIW4 := Lib.hid (RdR.below HIA.out HBW4.out)
          clear hst4
          cases b4 with
          | true =>
            go_wp2_with fail
            refine (new_any AK AI ks is kl bl cK cI procs w4 HKN.out.symm HBN.out.symm HKW4.out HIW4.out (by omega) (by omega)).mono ?_
            intro e wx hx
            rcases hx with ⟨h0, rfl, hbx⟩ | ⟨h0, G1, G2, d1, d2, rfl, hrx, hbx⟩
            · have hba := (Below.refl wx.heap.size wx).alloc (Nat.le_refl _) (.cells #[.slice none 0 0, .slice none 0 0] 28)
              have hb1 := hbx.trans (hba.mono hbx.size)
              have HY1 := Lib.hid (Has.new wx 28 #[.slice none 0 0, .slice none 0 0])
              have HRN := Lib.hid (rnew_any AK AI ks is kl bl cK cI procs (wx.alloc (.cells #[.slice none 0 0, .slice none 0 0] 28)) HKN.out.symm HBN.out.symm (RdR.below HKW4.out hb1) (RdR.below HIW4.out hb1) (by omega) (by omega))
              have HTx := Lib.hid (HT4.out.below hb1)
              have H0 := Lib.hid h0
              have hsx : (wx.alloc (.cells #[.slice none 0 0, .slice none 0 0] 28)).heap.size = wx.heap.size + 1 := World.size_alloc _ _
              unfold zeroL at HRN ⊢
              clear h0 hbx hba hb1
              obtain ⟨EE, hEE⟩ : ∃ EE, EE = newE ks is procs := ⟨_, rfl⟩
              rw [← hEE]
              have HEE := Lib.hid hEE
              clear hEE
              go_wp2_with fail
              refine HRN.out.mono ?_
              intro e wy hy
              rcases hy with ⟨h0, rfl, hby⟩ | ⟨h0, -⟩
              · rw [← HEE.out]
                have hby2 := hby.trans (((Below.refl wy.heap.size wy).alloc (Nat.le_refl _) (.cells #[.slice none 0 0, .slice none 0 0] 28)).mono hby.size)
                have HY2 := Lib.hid (HY1.out.below hby2)
                have HY3 := Lib.hid (Has.new wy 28 #[.slice none 0 0, .slice none 0 0])
                have HTy := Lib.hid (HTx.out.below hby2)
                unfold zeroL
                clear h0 hby hby2 hsx
                go_upto_region 16 with fail
                generalize wy.alloc (.cells #[.slice none 0 0, .slice none 0 0] 28) = V at *
                have y0 := HY2.out.cell 0
                have y1 := HY2.out.cell 1
                have y2 := HY3.out.cell 0
                have y3 := HY3.out.cell 1
                have hee : (EE != EE) = false := by simp
                go_wp2_with fail
                refine (rsame_self none none none none ⟨[], []⟩ 0 0 0 0 0 0 0 0 V rfl rfl ⟨RdR.nil, RdR.nil⟩ ⟨RdR.nil, RdR.nil⟩ (by omega) (by omega)).mono ?_
                rintro e wz ⟨rfl, hbz⟩
                have HTz := Lib.hid (HTy.out.below hbz)
                clear hbz y0 y1 y2 y3
                go_wp2_with fail
                exact ⟨⟨i + 1, by go_num, by omega, HTz.out⟩, by simp [intOf]; omega⟩
              · exact absurd h0 H0.out
            · have hba := (Below.refl wx.heap.size wx).alloc (Nat.le_refl _) (.cells #[.slice (some ⟨G1, 0, none⟩) (kl + 2) d1, .slice (some ⟨G2, 0, none⟩) (procs).toNat d2] 28)
              have hb1 := hbx.trans (hba.mono hbx.size)
              have HY1 := Lib.hid (Has.new wx 28 #[.slice (some ⟨G1, 0, none⟩) (kl + 2) d1, .slice (some ⟨G2, 0, none⟩) (procs).toNat d2])
              have HRN := Lib.hid (rnew_any AK AI ks is kl bl cK cI procs (wx.alloc (.cells #[.slice (some ⟨G1, 0, none⟩) (kl + 2) d1, .slice (some ⟨G2, 0, none⟩) (procs).toNat d2] 28)) HKN.out.symm HBN.out.symm (RdR.below HKW4.out hb1) (RdR.below HIW4.out hb1) (by omega) (by omega))
              have HTx := Lib.hid (HT4.out.below hb1)
              have HRX := Lib.hid ((hrx.low (Nat.zero_le _)).below hba)
              have H0 := Lib.hid h0
              have HLN : Hid ((newV ks (procs).toNat (selV is)).cs.length = kl + 2 ∧ (newV ks (procs).toNat (selV is)).ps.length = (procs).toNat) := Lib.hid ⟨by rw [newV_len, HKN.out.symm], by simp [newV]⟩
              have HSM : Hid (kl ≤ 64 ∧ (procs).toNat ≤ 8) := Lib.hid (by
                have h := h0
                unfold newE at h
                by_cases q1 : (ks).length > 64
                · rw [if_pos q1] at h; cases h
                · rw [if_neg q1] at h
                  by_cases q2 : ¬ (1 ≤ procs ∧ procs ≤ 8)
                  · rw [if_pos q2] at h; cases h
                  · have := HKN.out.symm
                    omega)
              clear h0 hrx hbx hba hb1
              obtain ⟨N2, hN2⟩ : ∃ N2, N2 = kl + 2 := ⟨_, rfl⟩
              obtain ⟨M2, hM2⟩ : ∃ M2, M2 = (procs).toNat := ⟨_, rfl⟩
              rw [← hN2, ← hM2] at HLN HY1 HRN HTx HRX ⊢
              have HN2 := Lib.hid hN2
              have HM2 := Lib.hid hM2
              clear hN2 hM2
              go_wp2_with fail
              refine HRN.out.mono ?_
              intro e wy hy
              rcases hy with ⟨h0, -, -⟩ | ⟨-, J1, J2, e1, e2, rfl, hry, hby⟩
              · exact absurd H0.out h0
              · rw [← HN2.out, ← HM2.out]
                have hbya := (Below.refl wy.heap.size wy).alloc (Nat.le_refl _) (.cells #[.slice (some ⟨J1, 0, none⟩) N2 e1, .slice (some ⟨J2, 0, none⟩) M2 e2] 28)
                have hby2 := hby.trans (hbya.mono hby.size)
                have HY2 := Lib.hid (HY1.out.below hby2)
                have HY3 := Lib.hid (Has.new wy 28 #[.slice (some ⟨J1, 0, none⟩) N2 e1, .slice (some ⟨J2, 0, none⟩) M2 e2])
                have HTy := Lib.hid (HTx.out.below hby2)
                have HR1 := Lib.hid (HRX.out.below hby2)
                have HR2 := Lib.hid ((hry.low (Nat.zero_le _)).below hbya)
                rw [← HM2.out] at HR2
                clear hry hby hby2 hbya
                go_upto_region 16 with fail
                generalize wy.alloc (.cells #[.slice (some ⟨J1, 0, none⟩) N2 e1, .slice (some ⟨J2, 0, none⟩) M2 e2] 28) = V at *
                have y0 := HY2.out.cell 0
                have y1 := HY2.out.cell 1
                have y2 := HY3.out.cell 0
                have y3 := HY3.out.cell 1
                have hee : ((0 : Int) != 0) = false := rfl
                go_wp2_with fail
                refine (rsame_self (some ⟨G1, 0, none⟩) (some ⟨G2, 0, none⟩) (some ⟨J1, 0, none⟩) (some ⟨J2, 0, none⟩) _ N2 M2 d1 d2 e1 e2 0 0 V HLN.out.1 HLN.out.2 HR1.out HR2.out (by have := HSM.out; have := HN2.out; omega) (by have := HSM.out; have := HM2.out; omega)).mono ?_
                rintro e wz ⟨rfl, hbz⟩
                have HTz := Lib.hid (HTy.out.below hbz)
                clear hbz y0 y1 y2 y3
                go_wp2_with fail
                exact ⟨⟨i + 1, by go_num, by omega, HTz.out⟩, by simp [intOf]; omega⟩
          | false =>
            go_wp2_with fail
            refine (new_any AK AI ks is kl bl cK cI v w4 HKN.out.symm HBN.out.symm HKW4.out HIW4.out (by omega) (by omega)).mono ?_
            intro e wx hx
            rcases hx with ⟨h0, rfl, hbx⟩ | ⟨h0, G1, G2, d1, d2, rfl, hrx, hbx⟩
            · have hba := (Below.refl wx.heap.size wx).alloc (Nat.le_refl _) (.cells #[.slice none 0 0, .slice none 0 0] 28)
              have hb1 := hbx.trans (hba.mono hbx.size)
              have HY1 := Lib.hid (Has.new wx 28 #[.slice none 0 0, .slice none 0 0])
              have HRN := Lib.hid (rnew_any AK AI ks is kl bl cK cI v (wx.alloc (.cells #[.slice none 0 0, .slice none 0 0] 28)) HKN.out.symm HBN.out.symm (RdR.below HKW4.out hb1) (RdR.below HIW4.out hb1) (by omega) (by omega))
              have HTx := Lib.hid (HT4.out.below hb1)
              have H0 := Lib.hid h0
              have hsx : (wx.alloc (.cells #[.slice none 0 0, .slice none 0 0] 28)).heap.size = wx.heap.size + 1 := World.size_alloc _ _
              unfold zeroL at HRN ⊢
              clear h0 hbx hba hb1
              obtain ⟨EE, hEE⟩ : ∃ EE, EE = newE ks is v := ⟨_, rfl⟩
              rw [← hEE]
              have HEE := Lib.hid hEE
              clear hEE
              go_wp2_with fail
              refine HRN.out.mono ?_
              intro e wy hy
              rcases hy with ⟨h0, rfl, hby⟩ | ⟨h0, -⟩
              · rw [← HEE.out]
                have hby2 := hby.trans (((Below.refl wy.heap.size wy).alloc (Nat.le_refl _) (.cells #[.slice none 0 0, .slice none 0 0] 28)).mono hby.size)
                have HY2 := Lib.hid (HY1.out.below hby2)
                have HY3 := Lib.hid (Has.new wy 28 #[.slice none 0 0, .slice none 0 0])
                have HTy := Lib.hid (HTx.out.below hby2)
                unfold zeroL
                clear h0 hby hby2 hsx
                go_upto_region 16 with fail
                generalize wy.alloc (.cells #[.slice none 0 0, .slice none 0 0] 28) = V at *
                have y0 := HY2.out.cell 0
                have y1 := HY2.out.cell 1
                have y2 := HY3.out.cell 0
                have y3 := HY3.out.cell 1
                have hee : (EE != EE) = false := by simp
                go_wp2_with fail
                refine (rsame_self none none none none ⟨[], []⟩ 0 0 0 0 0 0 0 0 V rfl rfl ⟨RdR.nil, RdR.nil⟩ ⟨RdR.nil, RdR.nil⟩ (by omega) (by omega)).mono ?_
                rintro e wz ⟨rfl, hbz⟩
                have HTz := Lib.hid (HTy.out.below hbz)
                clear hbz y0 y1 y2 y3
                go_wp2_with fail
                exact ⟨⟨i + 1, by go_num, by omega, HTz.out⟩, by simp [intOf]; omega⟩
              · exact absurd h0 H0.out
            · have hba := (Below.refl wx.heap.size wx).alloc (Nat.le_refl _) (.cells #[.slice (some ⟨G1, 0, none⟩) (kl + 2) d1, .slice (some ⟨G2, 0, none⟩) (v).toNat d2] 28)
              have hb1 := hbx.trans (hba.mono hbx.size)
              have HY1 := Lib.hid (Has.new wx 28 #[.slice (some ⟨G1, 0, none⟩) (kl + 2) d1, .slice (some ⟨G2, 0, none⟩) (v).toNat d2])
              have HRN := Lib.hid (rnew_any AK AI ks is kl bl cK cI v (wx.alloc (.cells #[.slice (some ⟨G1, 0, none⟩) (kl + 2) d1, .slice (some ⟨G2, 0, none⟩) (v).toNat d2] 28)) HKN.out.symm HBN.out.symm (RdR.below HKW4.out hb1) (RdR.below HIW4.out hb1) (by omega) (by omega))
              have HTx := Lib.hid (HT4.out.below hb1)
              have HRX := Lib.hid ((hrx.low (Nat.zero_le _)).below hba)
              have H0 := Lib.hid h0
              have HLN : Hid ((newV ks (v).toNat (selV is)).cs.length = kl + 2 ∧ (newV ks (v).toNat (selV is)).ps.length = (v).toNat) := Lib.hid ⟨by rw [newV_len, HKN.out.symm], by simp [newV]⟩
              have HSM : Hid (kl ≤ 64 ∧ (v).toNat ≤ 8) := Lib.hid (by
                have h := h0
                unfold newE at h
                by_cases q1 : (ks).length > 64
                · rw [if_pos q1] at h; cases h
                · rw [if_neg q1] at h
                  by_cases q2 : ¬ (1 ≤ v ∧ v ≤ 8)
                  · rw [if_pos q2] at h; cases h
                  · have := HKN.out.symm
                    omega)
              clear h0 hrx hbx hba hb1
              obtain ⟨N2, hN2⟩ : ∃ N2, N2 = kl + 2 := ⟨_, rfl⟩
              obtain ⟨M2, hM2⟩ : ∃ M2, M2 = (v).toNat := ⟨_, rfl⟩
              rw [← hN2, ← hM2] at HLN HY1 HRN HTx HRX ⊢
              have HN2 := Lib.hid hN2
              have HM2 := Lib.hid hM2
              clear hN2 hM2
              go_wp2_with fail
              refine HRN.out.mono ?_
              intro e wy hy
              rcases hy with ⟨h0, -, -⟩ | ⟨-, J1, J2, e1, e2, rfl, hry, hby⟩
              · exact absurd H0.out h0
              · rw [← HN2.out, ← HM2.out]
                have hbya := (Below.refl wy.heap.size wy).alloc (Nat.le_refl _) (.cells #[.slice (some ⟨J1, 0, none⟩) N2 e1, .slice (some ⟨J2, 0, none⟩) M2 e2] 28)
                have hby2 := hby.trans (hbya.mono hby.size)
                have HY2 := Lib.hid (HY1.out.below hby2)
                have HY3 := Lib.hid (Has.new wy 28 #[.slice (some ⟨J1, 0, none⟩) N2 e1, .slice (some ⟨J2, 0, none⟩) M2 e2])
                have HTy := Lib.hid (HTx.out.below hby2)
                have HR1 := Lib.hid (HRX.out.below hby2)
                have HR2 := Lib.hid ((hry.low (Nat.zero_le _)).below hbya)
                rw [← HM2.out] at HR2
                clear hry hby hby2 hbya
                go_upto_region 16 with fail
                generalize wy.alloc (.cells #[.slice (some ⟨J1, 0, none⟩) N2 e1, .slice (some ⟨J2, 0, none⟩) M2 e2] 28) = V at *
                have y0 := HY2.out.cell 0
                have y1 := HY2.out.cell 1
                have y2 := HY3.out.cell 0
                have y3 := HY3.out.cell 1
                have hee : ((0 : Int) != 0) = false := rfl
                go_wp2_with fail
                refine (rsame_self (some ⟨G1, 0, none⟩) (some ⟨G2, 0, none⟩) (some ⟨J1, 0, none⟩) (some ⟨J2, 0, none⟩) _ N2 M2 d1 d2 e1 e2 0 0 V HLN.out.1 HLN.out.2 HR1.out HR2.out (by have := HSM.out; have := HN2.out; omega) (by have := HSM.out; have := HM2.out; omega)).mono ?_
                rintro e wz ⟨rfl, hbz⟩
                have HTz := Lib.hid (HTy.out.below hbz)
                clear hbz y0 y1 y2 y3
                go_wp2_with fail
                exact ⟨⟨i + 1, by go_num, by omega, HTz.out⟩, by simp [intOf]; omega⟩
        · have hkd : decide ((kl : Int) ≤ 100) = false := by simp; omega
          have hkd2 : decide (kl ≤ 100) = false := by simpa using h100
          clear h100
          go_wp2_with fail
          refine (new_any A1 A2 k2 i2 k k q1 q2 v w3 HK2.out.symm (HLN.out.trans HK2.out.symm) HR1.out HR2.out (by omega) (by omega)).mono ?_
          intro e wx hx
          rcases hx with ⟨h0, rfl, hbx⟩ | ⟨h0, G1, G2, d1, d2, rfl, hrx, hbx⟩
          · have hba := (Below.refl wx.heap.size wx).alloc (Nat.le_refl _) (.cells #[.slice none 0 0, .slice none 0 0] 28)
            have hb1 := hbx.trans (hba.mono hbx.size)
            have HY1 := Lib.hid (Has.new wx 28 #[.slice none 0 0, .slice none 0 0])
            have HRN := Lib.hid (rnew_any A1 A2 k2 i2 k k q1 q2 v (wx.alloc (.cells #[.slice none 0 0, .slice none 0 0] 28)) HK2.out.symm (HLN.out.trans HK2.out.symm) (RdR.below HR1.out hb1) (RdR.below HR2.out hb1) (by omega) (by omega))
            have HTx := Lib.hid (HT3.out.below hb1)
            have H0 := Lib.hid h0
            have hsx : (wx.alloc (.cells #[.slice none 0 0, .slice none 0 0] 28)).heap.size = wx.heap.size + 1 := World.size_alloc _ _
            unfold zeroL at HRN ⊢
            clear h0 hbx hba hb1
            obtain ⟨EE, hEE⟩ : ∃ EE, EE = newE k2 i2 v := ⟨_, rfl⟩
            rw [← hEE]
            have HEE := Lib.hid hEE
            clear hEE
            go_wp2_with fail
            refine HRN.out.mono ?_
            intro e wy hy
            rcases hy with ⟨h0, rfl, hby⟩ | ⟨h0, -⟩
            · rw [← HEE.out]
              have hby2 := hby.trans (((Below.refl wy.heap.size wy).alloc (Nat.le_refl _) (.cells #[.slice none 0 0, .slice none 0 0] 28)).mono hby.size)
              have HY2 := Lib.hid (HY1.out.below hby2)
              have HY3 := Lib.hid (Has.new wy 28 #[.slice none 0 0, .slice none 0 0])
              have HTy := Lib.hid (HTx.out.below hby2)
              unfold zeroL
              clear h0 hby hby2 hsx
              go_upto_region 16 with fail
              generalize wy.alloc (.cells #[.slice none 0 0, .slice none 0 0] 28) = V at *
              have y0 := HY2.out.cell 0
              have y1 := HY2.out.cell 1
              have y2 := HY3.out.cell 0
              have y3 := HY3.out.cell 1
              have hee : (EE != EE) = false := by simp
              go_wp2_with fail
              refine (rsame_self none none none none ⟨[], []⟩ 0 0 0 0 0 0 0 0 V rfl rfl ⟨RdR.nil, RdR.nil⟩ ⟨RdR.nil, RdR.nil⟩ (by omega) (by omega)).mono ?_
              rintro e wz ⟨rfl, hbz⟩
              have HTz := Lib.hid (HTy.out.below hbz)
              clear hbz y0 y1 y2 y3
              go_wp2_with fail
              exact ⟨⟨i + 1, by go_num, by omega, HTz.out⟩, by simp [intOf]; omega⟩
            · exact absurd h0 H0.out
          · have hba := (Below.refl wx.heap.size wx).alloc (Nat.le_refl _) (.cells #[.slice (some ⟨G1, 0, none⟩) (k + 2) d1, .slice (some ⟨G2, 0, none⟩) (v).toNat d2] 28)
            have hb1 := hbx.trans (hba.mono hbx.size)
            have HY1 := Lib.hid (Has.new wx 28 #[.slice (some ⟨G1, 0, none⟩) (k + 2) d1, .slice (some ⟨G2, 0, none⟩) (v).toNat d2])
            have HRN := Lib.hid (rnew_any A1 A2 k2 i2 k k q1 q2 v (wx.alloc (.cells #[.slice (some ⟨G1, 0, none⟩) (k + 2) d1, .slice (some ⟨G2, 0, none⟩) (v).toNat d2] 28)) HK2.out.symm (HLN.out.trans HK2.out.symm) (RdR.below HR1.out hb1) (RdR.below HR2.out hb1) (by omega) (by omega))
            have HTx := Lib.hid (HT3.out.below hb1)
            have HRX := Lib.hid ((hrx.low (Nat.zero_le _)).below hba)
            have H0 := Lib.hid h0
            have HLN : Hid ((newV k2 (v).toNat (selV i2)).cs.length = k + 2 ∧ (newV k2 (v).toNat (selV i2)).ps.length = (v).toNat) := Lib.hid ⟨by rw [newV_len, HK2.out.symm], by simp [newV]⟩
            have HSM : Hid (k ≤ 64 ∧ (v).toNat ≤ 8) := Lib.hid (by
              have h := h0
              unfold newE at h
              by_cases q1 : (k2).length > 64
              · rw [if_pos q1] at h; cases h
              · rw [if_neg q1] at h
                by_cases q2 : ¬ (1 ≤ v ∧ v ≤ 8)
                · rw [if_pos q2] at h; cases h
                · have := HK2.out.symm
                  omega)
            clear h0 hrx hbx hba hb1
            obtain ⟨N2, hN2⟩ : ∃ N2, N2 = k + 2 := ⟨_, rfl⟩
            obtain ⟨M2, hM2⟩ : ∃ M2, M2 = (v).toNat := ⟨_, rfl⟩
            rw [← hN2, ← hM2] at HLN HY1 HRN HTx HRX ⊢
            have HN2 := Lib.hid hN2
            have HM2 := Lib.hid hM2
            clear hN2 hM2
            go_wp2_with fail
            refine HRN.out.mono ?_
            intro e wy hy
            rcases hy with ⟨h0, -, -⟩ | ⟨-, J1, J2, e1, e2, rfl, hry, hby⟩
            · exact absurd H0.out h0
            · rw [← HN2.out, ← HM2.out]
              have hbya := (Below.refl wy.heap.size wy).alloc (Nat.le_refl _) (.cells #[.slice (some ⟨J1, 0, none⟩) N2 e1, .slice (some ⟨J2, 0, none⟩) M2 e2] 28)
              have hby2 := hby.trans (hbya.mono hby.size)
              have HY2 := Lib.hid (HY1.out.below hby2)
              have HY3 := Lib.hid (Has.new wy 28 #[.slice (some ⟨J1, 0, none⟩) N2 e1, .slice (some ⟨J2, 0, none⟩) M2 e2])
              have HTy := Lib.hid (HTx.out.below hby2)
              have HR1 := Lib.hid (HRX.out.below hby2)
              have HR2 := Lib.hid ((hry.low (Nat.zero_le _)).below hbya)
              rw [← HM2.out] at HR2
              clear hry hby hby2 hbya
              go_upto_region 16 with fail
              generalize wy.alloc (.cells #[.slice (some ⟨J1, 0, none⟩) N2 e1, .slice (some ⟨J2, 0, none⟩) M2 e2] 28) = V at *
              have y0 := HY2.out.cell 0
              have y1 := HY2.out.cell 1
              have y2 := HY3.out.cell 0
              have y3 := HY3.out.cell 1
              have hee : ((0 : Int) != 0) = false := rfl
              go_wp2_with fail
              refine (rsame_self (some ⟨G1, 0, none⟩) (some ⟨G2, 0, none⟩) (some ⟨J1, 0, none⟩) (some ⟨J2, 0, none⟩) _ N2 M2 d1 d2 e1 e2 0 0 V HLN.out.1 HLN.out.2 HR1.out HR2.out (by have := HSM.out; have := HN2.out; omega) (by have := HSM.out; have := HM2.out; omega)).mono ?_
              rintro e wz ⟨rfl, hbz⟩
              have HTz := Lib.hid (HTy.out.below hbz)
              clear hbz y0 y1 y2 y3
              go_wp2_with fail
              exact ⟨⟨i + 1, by go_num, by omega, HTz.out⟩, by simp [intOf]; omega⟩
    · have hd : decide ((i : Int) < 3) = false := by simp; omega
      go_wp2_with fail
      refine (sane12_any wr).mono ?_
      rintro e w' ⟨rfl, hb⟩
      go_wp2_with fail
      go_ret
      exact ⟨rfl, (HB1.out.grown HT.out.2 HB1.out.size (fun j e => by have := Option.some.inj e; omega)).trans (hb.mono (by have := HT.out.2.size; have := HB1.out.size; omega))⟩
end Lf
end Go.Proofs.YtmhbloefmknikaaDoor
