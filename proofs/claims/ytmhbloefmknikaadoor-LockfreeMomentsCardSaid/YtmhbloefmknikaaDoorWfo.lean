/-
  The walk of LockfreeMoments: from whatever numbers it answers true and only makes memory. Conditions: the argument can be read; 'letters' is as its initialiser lays it.
-/
import Derived.Test.YtmhbloefmknikaaDoorOcA
import Derived.Test.YtmhbloefmknikaaDoorOdA
import Derived.Test.YtmhbloefmknikaaDoorOdB
import Derived.Test.YtmhbloefmknikaaDoorMxA
import Derived.Test.YtmhbloefmknikaaDoorMxB
import Derived.Test.YtmhbloefmknikaaDoorMxC
import Derived.Test.YtmhbloefmknikaaDoorMxD
namespace Go.Proofs.YtmhbloefmknikaaDoor
open Go.RowKit Go.Maps
namespace Lf
open Lk
theorem trv_len (l : Ls) : ∀ f seen a, (trv l f seen a).length ≤ f
  | 0, _, _ => Nat.le_refl _
  | f + 1, seen, a => by
    have h := trv_len l f (a :: seen) (l.at_ a).right.toNat
    rw [trv]
    split
    · exact Nat.zero_le _
    · split
      · rw [List.length_cons]; omega
      · omega
theorem memV_len (l : Ls) : (memV l).length ≤ l.cs.length := trv_len l _ _ _
set_option maxRecDepth 100000 in
set_option maxHeartbeats 40000000 in
theorem moments_walk (A : Option Addr) (n0 cp : Nat) (w : World) (hL : Lets w) (hnc : n0 ≤ cp) (hc : cp ≤ maxLen) (hN : Nums w w.heap.size A n0) :
    Calls Tryd.prog 7 #[.slice A n0 cp] w (LawP w) := by
  go_enter Tryd.func7, Tryd.ntmps7
  go_wp2_with fail
  refine (Go.Proofs.YtmhbloefmknikaaDoor.new_any A n0 cp _ hnc hc hN).mono ?_
  rintro e w1 ⟨g, hg1, rfl, hTp, hb1⟩
  have hne2 : 0 ≠ g := by have := hL.lt; omega
  have l1 := hL.below hb1
  have hgw := hTp.lt
  have HB1 := Lib.hid hb1
  clear hN hnc hc hL hb1
  go_wp2_with fail
  refine (made_any g w1 hTp l1 hne2 hgw).mono ?_
  rintro e w2 ⟨l0, n, m, J1, J2, c1, c2, rfl, hfr, hrd, hst⟩
  have hm4 : 2 ≤ m ∧ m ≤ 4 := ⟨hfr.m2, hfr.m4⟩
  have HFR := Lib.hid hfr
  have HLA := Lib.hid (HoL.newF (d1 := c1) (d2 := c2) (t := 28) (n := n) (m := m) (RdL.low hrd (Nat.le_refl _)) hfr.led.1 hst.2.size hfr.hn hfr.hm)
  have HTA := Lib.hid (hst.below ((Below.refl w2.heap.size w2).alloc (Nat.le_refl _) (.cells #[.slice (some ⟨J1, 0, none⟩) n c1, .slice (some ⟨J2, 0, none⟩) m c2] 28)))
  have hsz : (w2.alloc (.cells #[.slice (some ⟨J1, 0, none⟩) n c1, .slice (some ⟨J2, 0, none⟩) m c2] 28)).heap.size = w2.heap.size + 1 := World.size_alloc _ _
  have hs2 := hst.2.size
  clear hfr hrd hst hTp l1
  go_upto_region 3 with fail
  generalize w2.alloc (.cells #[.slice (some ⟨J1, 0, none⟩) n c1, .slice (some ⟨J2, 0, none⟩) m c2] 28) = W at *
  obtain ⟨B, hB⟩ : ∃ B, B = w2.heap.size := ⟨_, rfl⟩
  rw [← hB] at HLA hsz hs2 ⊢
  clear hB
  have y0 := HLA.out.x0
  have y1 := HLA.out.x1
  have hmb := fun W => make_bools W m hm4.2
  go_upto_region 5 with fail
  have HTB := Lib.hid (two_bools W m hm4.2)
  have hJJ := HLA.out.gltF HFR.out.led.1
  rw [hsz] at HTB hJJ
  go_cut [6, 7] (fun s6 s7 wx => ∃ WB MB : Nat, s6 = .slice (some ⟨WB, 0, none⟩) m m ∧ s7 = .slice (some ⟨MB, 0, none⟩) m m ∧ B + 1 ≤ WB ∧ B + 1 ≤ MB ∧ WB ≠ MB ∧ HoL wx B w1.heap.size l0 n m J1 J2 c1 c2 ∧ TStep w1 g wx ∧ MutR brow 1 4 wx WB m (List.replicate m false) ∧ MutR brow 1 4 wx MB m (List.replicate m false))
  case first =>
    as_aux_lemma =>
    go_region
    all_goals (go_wp2_with fail; go_meet)
    all_goals first | exact ⟨B + 1, B + 1 + 1, rfl, rfl, by omega, by omega, by omega, HLA.out.below (by rw [hsz]; exact HTB.out.2.2), HTA.out.below (by rw [hsz]; exact HTB.out.2.2), HTB.out.1, HTB.out.2.1⟩ | exact ⟨B + 1 + 1, B + 1, rfl, rfl, by omega, by omega, by omega, HLA.out.below (by rw [hsz]; exact HTB.out.2.2), HTA.out.below (by rw [hsz]; exact HTB.out.2.2), HTB.out.2.1, HTB.out.1⟩
  case rest =>
  obtain ⟨WB, MB, rfl, rfl, hBW, hBM, hwm, hlc, htc, hpc, hqc⟩ := hcut
  have HLW := Lib.hid hlc
  have HTW := Lib.hid htc
  have HPW0 := Lib.hid hpc
  have HQW0 := Lib.hid hqc
  have HWM := Lib.hid hwm
  have HMA0 := Lib.hid (momA_new HFR.out)
  have HLD0 := Lib.hid HFR.out.led
  have HNE0 : Hid ((J1 ≠ WB ∧ J1 ≠ MB) ∧ J2 ≠ WB ∧ J2 ≠ MB) := Lib.hid (by omega)
  clear hlc htc hpc hqc hwm hmb HTB hJJ HFR HLA HTA hsz y0 y1
  go_wp2_with fail
  go_loopw [8] (fun v8 wr => ∃ (l : Ls) (i G1 G2 d1 d2 : Nat) (P Q : List Bool), v8 = .int .i64 (i : Int) ∧ i ≤ 110 ∧ HoL wr B w1.heap.size l n m G1 G2 d1 d2 ∧ Hid (Led l) ∧ TStep w1 g wr ∧ MutR brow 1 4 wr WB m P ∧ MutR brow 1 4 wr MB m Q ∧ Hid (MomA l m P Q) ∧ Hid ((G1 ≠ WB ∧ G1 ≠ MB) ∧ G2 ≠ WB ∧ G2 ≠ MB)) (fun v8 _ => 110 - (intOf v8).toNat)
  case atStart => exact ⟨l0, 0, J1, J2, c1, c2, _, _, rfl, Nat.zero_le _, HLW.out, HLD0, HTW.out, HPW0.out, HQW0.out, HMA0, HNE0⟩
  case round =>
    clear HLW HTW HPW0 HQW0 HMA0 HLD0 HNE0
    obtain ⟨l, i, G1, G2, d1, d2, P, Q, rfl, hi, hl, HLD, ht, hp, hqq, HMA, HNE⟩ := hrel
    have HL := Lib.hid hl
    have HT := Lib.hid ht
    have HP := Lib.hid hp
    have HQ := Lib.hid hqq
    clear hl ht hp hqq
    by_cases hlt : i < 110
    · have hd : decide ((i : Int) < 110) = true := by simp; omega
      go_wp2_with fail
      refine (left_any g wr HT.out.1).mono ?_
      rintro e wa ⟨b4, rfl, hsta⟩
      have HLa := Lib.hid (HL.out.step hgw hsta)
      have HTa := Lib.hid (HT.out.trans hsta)
      have HPa : Hid (MutR brow 1 4 wa WB m P) := Lib.hid (MutR.keep HP.out (hsta.2.block WB HP.out.lt (fun e => by have := Option.some.inj e; omega)))
      have HQa : Hid (MutR brow 1 4 wa MB m Q) := Lib.hid (MutR.keep HQ.out (hsta.2.block MB HQ.out.lt (fun e => by have := Option.some.inj e; omega)))
      clear hsta HL HT HP HQ
      cases b4 with
      | true =>
        have y0 := HLa.out.x0
        have y1 := HLa.out.x1
        go_wp2_with fail
        refine (next_any g (m : Int) wa HTa.out.1 (by omega)).mono ?_
        rintro e w3 ⟨r, r0, r1, rfl, hst3⟩
        obtain ⟨q, rfl⟩ := Int.eq_ofNat_of_zero_le r0
        have hq : q < m := by omega
        have HL3 := Lib.hid (HLa.out.step hgw hst3)
        have HT3 := Lib.hid (HTa.out.trans hst3)
        have HP3 : Hid (MutR brow 1 4 w3 WB m P) := Lib.hid (MutR.keep HPa.out (hst3.2.block WB HPa.out.lt (fun e => by have := Option.some.inj e; omega)))
        have HQ3 : Hid (MutR brow 1 4 w3 MB m Q) := Lib.hid (MutR.keep HQa.out (hst3.2.block MB HQa.out.lt (fun e => by have := Option.some.inj e; omega)))
        clear hst3 HLa HTa HPa HQa r0 r1 y0 y1
        have hPl : WB < w3.heap.size := HP3.out.lt
        have hQl : MB < w3.heap.size := HQ3.out.lt
        have hgl := HL3.out.gltF HLD.out.1
        have n2 : 2 ≤ n ∧ n ≤ 66 := by have := HLD.out.1.n2; have := HLD.out.1.n66; have := HL3.out.hn; omega
        have y0 := HL3.out.x0
        have y1 := HL3.out.x1
        go_wp2_with fail
        refine (start12_any g w1.heap.size l n m q G1 G2 d1 d2 w3 HT3.out.1 hgw HT3.out.2.size HLD.out HL3.out.hn HL3.out.hm HL3.out.rd).mono ?_
        rintro e wz ⟨E, kd, c, P1, P2, a1, a2, f1, f2, rfl, hE, hok, hstz⟩
        obtain ⟨bE, hbE⟩ : ∃ bE, bE = (E == 0) := ⟨_, rfl⟩
        rw [← hbE]
        have HBE : Hid (bE = true ↔ E = 0) := Lib.hid (by rw [hbE]; simp)
        clear hbE
        have HLz := Lib.hid (HL3.out.step hgw hstz)
        have HTz := Lib.hid (HT3.out.trans hstz)
        have HPz : Hid (MutR brow 1 4 wz WB m P) := Lib.hid (MutR.keep HP3.out (hstz.2.block WB HP3.out.lt (fun e => by have := Option.some.inj e; omega)))
        have HQz : Hid (MutR brow 1 4 wz MB m Q) := Lib.hid (MutR.keep HQ3.out (hstz.2.block MB HQ3.out.lt (fun e => by have := Option.some.inj e; omega)))
        have hba := (Below.refl wz.heap.size wz).alloc (Nat.le_refl _) (.cells #[.slice P1 a1 f1, .slice P2 a2 f2] 28)
        have HLR := Lib.hid (HLz.out.below hba)
        have HTR := Lib.hid (HTz.out.below hba)
        have HPR := Lib.hid (MutR.below HPz.out hba)
        have HQR := Lib.hid (MutR.below HQz.out hba)
        have HYX := Has.new wz 28 #[.slice P1 a1 f1, .slice P2 a2 f2]
        have XB0 := Lib.hid (HYX.cell 0)
        have XB1 := Lib.hid (HYX.cell 1)
        have HE := Lib.hid hE
        have HOK : Hid (E = 0 → ∃ K1 K2, P1 = some ⟨K1, 0, none⟩ ∧ P2 = some ⟨K2, 0, none⟩ ∧ n = a1 ∧ m = a2 ∧ RdL (wz.alloc (.cells #[.slice P1 a1 f1, .slice P2 a2 f2] 28)) w3.heap.size (some ⟨K1, 0, none⟩) (some ⟨K2, 0, none⟩) (begV l q kd c)) := Lib.hid (fun he => by
          obtain ⟨K1, K2, h1, h2, h3, h4, hr⟩ := hok he
          exact ⟨K1, K2, h1, h2, h3.symm, h4.symm, hr.below hba⟩)
        have hsz3 := hstz.2.size
        have hXg : wz.heap.size ≠ g := by omega
        have hXW : wz.heap.size ≠ WB ∧ wz.heap.size ≠ MB ∧ wz.heap.size ≠ B := by have := HL3.out.lt; omega
        clear hstz hba HYX hE hok HLz HTz HPz HQz HL3 HT3 HP3 HQ3 y0 y1
        go_upto_region 11 with fail
        generalize wz.alloc (.cells #[.slice P1 a1 f1, .slice P2 a2 f2] 28) = wc at *
        generalize wz.heap.size = X at *
        go_cut [56] (fun s wx => ∃ b3 : Bool, s = .bool b3 ∧ HoL wx B w1.heap.size l n m G1 G2 d1 d2 ∧ TStep w1 g wx ∧ MutR brow 1 4 wx WB m P ∧ MutR brow 1 4 wx MB m Q ∧ wx.cell? ⟨X, 0, none⟩ = some (.slice P1 a1 f1) ∧ wx.cell? ⟨X, 1, none⟩ = some (.slice P2 a2 f2) ∧ Hid (b3 = true → E = 0 ∧ ∃ K1 K2, P1 = some ⟨K1, 0, none⟩ ∧ P2 = some ⟨K2, 0, none⟩ ∧ n = a1 ∧ m = a2 ∧ RdL wx w3.heap.size (some ⟨K1, 0, none⟩) (some ⟨K2, 0, none⟩) (begV l q kd c)))
        case first =>
          as_aux_lemma =>
          cases bE with
          | true =>
            have HEZ := Lib.hid (HBE.out.1 rfl)
            go_wp2_with fail
            refine (bool_any g 3 wc HTR.out.1 (by omega) (by omega)).mono ?_
            rintro e w4 ⟨b3, rfl, hst4⟩
            have HL4 := Lib.hid (HLR.out.step hgw hst4)
            have HT4 := Lib.hid (HTR.out.trans hst4)
            have HP4 : Hid (MutR brow 1 4 w4 WB m P) := Lib.hid (MutR.keep HPR.out (hst4.2.block WB HPR.out.lt (fun e => by have := Option.some.inj e; omega)))
            have HQ4 : Hid (MutR brow 1 4 w4 MB m Q) := Lib.hid (MutR.keep HQR.out (hst4.2.block MB HQR.out.lt (fun e => by have := Option.some.inj e; omega)))
            have X4 := Lib.hid ((World.cell?_of_block (a := ⟨X, 0, none⟩) (hst4.2.block X (World.block_lt_of_cell? wc _ XB0.out) (fun e => by have := Option.some.inj e; omega))).trans XB0.out)
            have X5 := Lib.hid ((World.cell?_of_block (a := ⟨X, 1, none⟩) (hst4.2.block X (World.block_lt_of_cell? wc _ XB1.out) (fun e => by have := Option.some.inj e; omega))).trans XB1.out)
            have HR4 : Hid (∃ K1 K2, P1 = some ⟨K1, 0, none⟩ ∧ P2 = some ⟨K2, 0, none⟩ ∧ n = a1 ∧ m = a2 ∧ RdL w4 w3.heap.size (some ⟨K1, 0, none⟩) (some ⟨K2, 0, none⟩) (begV l q kd c)) := Lib.hid (by
              obtain ⟨K1, K2, h1, h2, h3, h4, hr⟩ := HOK.out HEZ.out
              exact ⟨K1, K2, h1, h2, h3, h4, RdL.step hr (by omega) hst4⟩)
            clear hst4
            go_wp2_with fail
            go_meet
            exact ⟨b3, rfl, HL4.out, HT4.out, HP4.out, HQ4.out, X4.out, X5.out, Lib.hid (fun _ => ⟨HEZ.out, HR4.out⟩)⟩
          | false =>
            go_wp2_with fail
            go_meet
            exact ⟨false, rfl, HLR.out, HTR.out, HPR.out, HQR.out, XB0.out, XB1.out, Lib.hid (fun h => nomatch h)⟩
        case rest =>
        obtain ⟨b3, rfl, hl4, ht4, hp4, hq4, x4, x5, HRX⟩ := hcut
        clear HLR HTR HPR HQR XB0 XB1 HOK
        have HL4 := Lib.hid hl4
        have HT4 := Lib.hid ht4
        have HP4 := Lib.hid hp4
        have HQ4 := Lib.hid hq4
        clear hl4 ht4 hp4 hq4
        rename World => w4
        go_upto_if 56 with fail
        go_cut [] (fun wx => MoT w1 B w1.heap.size g q n m WB MB wx)
        case first =>
          as_aux_lemma =>
          cases b3 with
          | true =>
            as_aux_lemma =>
            obtain ⟨hez, K1, K2, rfl, rfl, rfl, rfl, hr4⟩ := HRX.out rfl
            have HR4 := Lib.hid hr4
            subst hez
            have hE0 := HE.out.symm
            have hld2 := sta_led HLD.out hE0
            obtain ⟨-, hcc, -, -, -⟩ := sta_ok hE0
            have HPRE := Lib.hid (pre_beg (q := q) HLD.out HL4.out.hm hq (kd := kd) (c := c) hcc hld2 HMA.out)
            have hk := rd_loF HR4.out hld2.1
            have hpl : q < P.length := by rw [HMA.out.1]; exact hq
            have hql : q < Q.length := by rw [HMA.out.2.1]; exact hq
            have y0 := HL4.out.x0
            have y1 := HL4.out.x1
            have z0 := HL4.out.fz 0
            have z1 := HL4.out.fz 1
            have hWM := HWM.out
            have HLS := Lib.hid (((HoL.mk2 (w := w4) (d1 := f1) (d2 := f2) (n := n) (m := m) (by rw [y0]; simp) (by rw [y1]; simp) HL4.out.fz HL4.out.lB (HR4.out.low (by omega)) (by omega) (by omega) ((beg_len l q kd c).1.trans HL4.out.hn) ((beg_len l q kd c).2.trans HL4.out.hm)).far (p := ⟨WB, q, none⟩) (by simp only; omega) (by simp only; omega) (by simp only; omega) (.bool false)).far (p := ⟨MB, q, none⟩) (by simp only; omega) (by simp only; omega) (by simp only; omega) (.bool false))
            have HTS := Lib.hid ((((HT4.out.set (p := ⟨B, 0, none⟩) HL4.out.lB hgw (.slice (some ⟨K1, 0, none⟩) n f1)).set (p := ⟨B, 1, none⟩) HL4.out.lB hgw (.slice (some ⟨K2, 0, none⟩) m f2)).set (p := ⟨WB, q, none⟩) (by simp only; omega) hgw (.bool false)).set (p := ⟨MB, q, none⟩) (by simp only; omega) hgw (.bool false))
            have hpa := (HP4.out.far (p := ⟨B, 0, none⟩) (by simp only; omega) (.slice (some ⟨K1, 0, none⟩) n f1)).far (p := ⟨B, 1, none⟩) (by simp only; omega) (.slice (some ⟨K2, 0, none⟩) m f2)
            have hqa := (HQ4.out.far (p := ⟨B, 0, none⟩) (by simp only; omega) (.slice (some ⟨K1, 0, none⟩) n f1)).far (p := ⟨B, 1, none⟩) (by simp only; omega) (.slice (some ⟨K2, 0, none⟩) m f2)
            have hqb := MutR.far hqa (p := ⟨WB, q, none⟩) (by simp only; omega) (.bool false)
            have HPS := Lib.hid ((putB hpa hpl false).far (p := ⟨MB, q, none⟩) (by simp only; omega) (.bool false))
            have HQS := Lib.hid (putB hqb hql false)
            have v0 := cellB HP4.out hpl
            have v1 := MutR.frozen HP4.out q
            have v2 := cellB HQ4.out hql
            have v3 := MutR.frozen HQ4.out q
            have v4 := cellB hpa hpl
            have v5 := cellB hqb hql
            have q0 : (0 : Int) ≤ (q : Int) := by omega
            have q1 : (q : Int) < (m : Int) := by omega
            have nb1 : ¬ WB = B := by omega
            have nb2 : ¬ B = WB := by omega
            have nb3 : ¬ MB = B := by omega
            have nb4 : ¬ B = MB := by omega
            have nb5 : ¬ WB = MB := hWM
            have nb6 : ¬ MB = WB := fun e => hWM e.symm
            have HNE4 : Hid ((K1 ≠ WB ∧ K1 ≠ MB) ∧ K2 ≠ WB ∧ K2 ≠ MB) := Lib.hid (by omega)
            have HLDt := Lib.hid hld2
            generalize P.getD q false = dp at v0 v4
            generalize Q.getD q false = dq at v2 v5
            clear hld2 hcc hk hpl hql hpa hqa hqb hWM hE0 hr4 HRX HE
            go_wp2_with fail
            go_meet
            exact ⟨_, K1, K2, f1, f2, _, _, HLS.out, HTS.out, HPS.out, HQS.out, HLDt, HPRE, HNE4⟩
          | false =>
            as_aux_lemma =>
            clear HRX x4 x5 HE
            have hstp : stpO l (q : Int) = stepV l q := by unfold stpO; rw [if_pos ⟨by omega, by have := HL4.out.hm; omega⟩, Int.toNat_natCast]
            have HSTP := Lib.hid hstp
            have y0 := HL4.out.x0
            have y1 := HL4.out.x1
            have z0 := HL4.out.fz 0
            have z1 := HL4.out.fz 1
            clear hstp
            go_wp2_with fail
            refine (step_any ⟨G1, 0, none⟩ ⟨G2, 0, none⟩ l (q : Int) n m d1 d2 w4 HL4.out.hn HL4.out.hm (HL4.out.rd.low (Nat.zero_le _)) HLD.out.1).mono ?_
            rintro e w5 ⟨K1, K2, f1, f2, rfl, hr5, hb5⟩
            obtain ⟨b, hbe⟩ : ∃ b, b = (stpO l (q : Int)).isSome := ⟨_, rfl⟩
            rw [← hbe]
            obtain ⟨L, hLe⟩ : ∃ L, L = (stpO l (q : Int)).getD l := ⟨_, rfl⟩
            have hld5 : Led L := by rw [hLe]; exact getD_led HLD.out _
            have hln5 := getD_len HLD.out.1 (q : Int)
            rw [← hLe, HL4.out.hn, HL4.out.hm] at hln5
            rw [← hLe] at hr5
            have HPRE : Hid (Pre L q m P Q) := Lib.hid (by
              rw [hLe, HSTP.out]
              cases e5 : stepV l q with
              | none => exact pre_stay HMA.out
              | some l5 => exact pre_step HLD.out HL4.out.hm hq e5 HMA.out)
            have hk := rd_loF hr5 hld5.1
            have hl5 := HL4.out.below hb5
            have hsW : WB < w4.heap.size := HP4.out.lt
            have hsM : MB < w4.heap.size := HQ4.out.lt
            have hs4 := HL4.out.lt
            have HLS := Lib.hid (HoL.mk2 (w := w5) (d1 := f1) (d2 := f2) (n := n) (m := m) (by rw [hl5.x0]; simp) (by rw [hl5.x1]; simp) hl5.fz hl5.lB (hr5.low (by have := HT4.out.2.size; omega)) (by omega) (by omega) hln5.1 hln5.2)
            have HTS := Lib.hid (((HT4.out.below hb5).set (p := ⟨B, 0, none⟩) hl5.lB hgw (.slice (some ⟨K1, 0, none⟩) n f1)).set (p := ⟨B, 1, none⟩) hl5.lB hgw (.slice (some ⟨K2, 0, none⟩) m f2))
            have HPS := Lib.hid ((MutR.far (MutR.below HP4.out hb5) (p := ⟨B, 0, none⟩) (by simp only; omega) (.slice (some ⟨K1, 0, none⟩) n f1)).far (p := ⟨B, 1, none⟩) (by simp only; omega) (.slice (some ⟨K2, 0, none⟩) m f2))
            have HQS := Lib.hid ((MutR.far (MutR.below HQ4.out hb5) (p := ⟨B, 0, none⟩) (by simp only; omega) (.slice (some ⟨K1, 0, none⟩) n f1)).far (p := ⟨B, 1, none⟩) (by simp only; omega) (.slice (some ⟨K2, 0, none⟩) m f2))
            have HNE4 : Hid ((K1 ≠ WB ∧ K1 ≠ MB) ∧ K2 ≠ WB ∧ K2 ≠ MB) := Lib.hid (by omega)
            have HLDt := Lib.hid hld5
            replace y0 := hl5.x0
            replace y1 := hl5.x1
            replace z0 := hl5.fz 0
            replace z1 := hl5.fz 1
            clear hbe hLe hld5 hln5 hr5 hk hl5 hb5
            go_wp2_with fail
            go_meet
            exact ⟨L, K1, K2, f1, f2, P, Q, HLS.out, HTS.out, HPS.out, HQS.out, HLDt, HPRE, HNE4⟩
        case rest =>
        obtain ⟨L, K1, K2, f1, f2, Pt, Qt, hlt', htt, hpt, hqt, HLDt, HPRE, HNEt⟩ := hcut
        rename World => Wt
        have HLt := Lib.hid hlt'
        have HTt := Lib.hid htt
        have HPt := Lib.hid hpt
        have HQt := Lib.hid hqt
        clear hlt' htt hpt hqt HL4 HT4 HP4 HQ4 HRX HE x4 x5 HMA HNE
        have y0 := HLt.out.x0
        have y1 := HLt.out.x1
        have hmm : ((m : Int) != (m : Int)) = false := by simp
        go_wp2_with fail
        refine (Members_any (some ⟨K1, 0, none⟩) ⟨K2, 0, none⟩ L n m f1 f2 Wt HLt.out.hn HLt.out.hm (HLt.out.rd.low (Nat.zero_le _)) (by omega) (by omega) (by omega)).mono ?_
        rw [vldB_yes HLDt.out.1, if_pos rfl]
        rintro e w5 ⟨A5, k5, c5, rfl, hk5, -, -, hr5, hb5⟩
        have HL5 := Lib.hid (HLt.out.below hb5)
        have HT5 := Lib.hid (HTt.out.below hb5)
        have HP5 := Lib.hid (MutR.below HPt.out hb5)
        have HQ5 := Lib.hid (MutR.below HQt.out hb5)
        have HR5 := Lib.hid (RdR.low hr5 (show max WB MB + 1 ≤ Wt.heap.size by have := HPt.out.lt; have := HQt.out.lt; omega))
        have HK5 := Lib.hid hk5
        have hk66 : k5 ≤ 66 := by have h1 := memV_len L; have h2 := HLDt.out.1.n66; rw [← hk5, nat2_len]; omega
        clear hk5 hr5 hb5 y0 y1 HLt HTt HPt HQt hmm
        go_wp2_with fail
        go_loopw [13] (fun v13 wr => ∃ (j : Nat) (Pj Qj : List Bool), v13 = .int .i64 (j : Int) ∧ j ≤ m ∧ HoL wr B w1.heap.size L n m K1 K2 f1 f2 ∧ TStep w1 g wr ∧ MutR brow 1 4 wr WB m Pj ∧ MutR brow 1 4 wr MB m Qj ∧ RdR nrow 1 wr (max WB MB + 1) A5 (nat2 (memV L)) ∧ Hid (Prj L (Pt) (Qt) m j Pj Qj)) (fun v13 _ => m - (intOf v13).toNat)
        case atStart => exact ⟨0, Pt, Qt, rfl, Nat.zero_le _, HL5.out, HT5.out, HP5.out, HQ5.out, HR5.out, Lib.hid (Prj.zero HPRE.out.1 HPRE.out.2.1)⟩
        case round =>
          as_aux_lemma =>
          clear HL5 HT5 HP5 HQ5 HR5
          obtain ⟨j, Pj, Qj, rfl, hj, hl, ht, hp, hqq, hr, HPJ⟩ := hrel
          have HL := Lib.hid hl
          have HT := Lib.hid ht
          have HP := Lib.hid hp
          have HQ := Lib.hid hqq
          have HR := Lib.hid hr
          have y0 := hl.x0
          have y1 := hl.x1
          clear hl ht hp hqq hr
          by_cases hjm : j < m
          · have hd : decide ((j : Int) < (m : Int)) = true := by simp; omega
            obtain ⟨bq, oq, eq, -, -, p0, p1, p2, p3, p4, p5, p6⟩ := HL.out.rd.proc (i := j) (by rw [HL.out.hm]; exact hjm)
            injection eq with eq
            injection eq with eq1 eq2 _
            subst eq1 eq2
            rw [Nat.zero_add] at p0 p1 p2 p3 p4 p5 p6
            have j0 : (0 : Int) ≤ (j : Int) := by omega
            have j1 : (j : Int) < (m : Int) := by omega
            have hpc : 0 ≤ (L.pr j).cell := (HLDt.out.1.ce (p := j) (by rw [HL.out.hm]; exact hjm)).1
            obtain ⟨X, hX⟩ : ∃ X, X = L.pr j := ⟨_, rfl⟩
            rw [← hX] at p0 p1 p2 p3 p4 p5 p6 hpc
            have HX := Lib.hid hX
            obtain ⟨pk, pc, pp, pd, ps, pn, pr⟩ := X
            simp only at p0 p1 p2 p3 p4 p5 p6 hpc
            clear hX
            go_upto_region 21 with fail
            have hPb := (Below.refl wr.heap.size wr).alloc (Nat.le_refl _) (.cells #[.int .i64 pk, .int .i64 pc, .int .i64 pp, .int .i64 pd, .int .i64 ps, .int .i64 pn, .bool pr] 41)
            have HL7 := Lib.hid (HL.out.below hPb)
            have HT7 := Lib.hid (HT.out.below hPb)
            have HP7 := Lib.hid (MutR.below HP.out hPb)
            have HQ7 := Lib.hid (MutR.below HQ.out hPb)
            have HR7 := Lib.hid (RdR.below HR.out hPb)
            have HPX := Lib.hid (Has.new wr 41 #[.int .i64 pk, .int .i64 pc, .int .i64 pp, .int .i64 pd, .int .i64 ps, .int .i64 pn, .bool pr])
            have hPW : WB < wr.heap.size := HP.out.lt
            have hQW : MB < wr.heap.size := HQ.out.lt
            clear hPb HL HT HP HQ HR p0 p1 p2 p3 p4 p5 p6 y0 y1
            generalize wr.alloc (.cells #[.int .i64 pk, .int .i64 pc, .int .i64 pp, .int .i64 pd, .int .i64 ps, .int .i64 pn, .bool pr] 41) = V7 at *
            obtain ⟨XB, hXB⟩ : ∃ XB, XB = wr.heap.size := ⟨_, rfl⟩
            rw [← hXB] at HPX hPW hQW ⊢
            clear hXB
            have u0 := HPX.out.cell 0
            have u1 := HPX.out.cell 1
            have u2 := HPX.out.cell 2
            have u3 := HPX.out.cell 3
            have u4 := HPX.out.cell 4
            have u5 := HPX.out.cell 5
            have u6 := HPX.out.cell 6
            go_cut [96] (fun s wx => ∃ a : Bool, s = .bool a ∧ Hid (a = decide ((pp ≠ 0 ∧ pp ≠ 18) ∨ j = q)) ∧ Below V7.heap.size V7 wx)
            case first =>
              as_aux_lemma =>
              go_wp2_with fail
              refine (ract_any ⟨pk, pc, pp, pd, ps, pn, pr⟩ V7).mono ?_
              rintro e w8 ⟨b8, rfl, hb8, hbl⟩
              have HA8 := Lib.hid hb8
              have HBL := Lib.hid hbl
              clear hb8 hbl
              cases b8 with
              | true =>
                have HYA := Lib.hid (HA8.out.1 rfl)
                clear HA8
                go_wp2_with fail
                go_meet
                exact ⟨true, rfl, Lib.hid (by rw [eq_comm, decide_eq_true_eq]; exact .inl HYA.out), HBL.out⟩
              | false =>
                have hna : ¬ (pp ≠ 0 ∧ pp ≠ 18) := fun h => nomatch HA8.out.2 h
                clear HA8
                have HNA := Lib.hid hna
                clear hna
                by_cases hjq : j = q
                · have hjq2 : ((j : Int) == (q : Int)) = true := by rw [hjq]; simp
                  have HJQ := Lib.hid hjq
                  clear hjq
                  go_wp2_with fail
                  go_meet
                  exact ⟨true, rfl, Lib.hid (by rw [eq_comm, decide_eq_true_eq]; exact .inr HJQ.out), HBL.out⟩
                · have hjq2 : ((j : Int) == (q : Int)) = false := by simp; omega
                  have HJQ := Lib.hid hjq
                  clear hjq
                  go_wp2_with fail
                  go_meet
                  exact ⟨false, rfl, Lib.hid (by rw [eq_comm, decide_eq_false_iff_not]; exact fun h => h.elim HNA.out HJQ.out), HBL.out⟩
            case rest =>
            obtain ⟨a, rfl, HAE, hbc⟩ := hcut
            have HL8 := Lib.hid (HL7.out.below hbc)
            have HT8 := Lib.hid (HT7.out.below hbc)
            have HP8 := Lib.hid (MutR.below HP7.out hbc)
            have HQ8 := Lib.hid (MutR.below HQ7.out hbc)
            have HR8 := Lib.hid (RdR.below HR7.out hbc)
            have HX8 := Lib.hid (HPX.out.below hbc)
            clear hbc HL7 HT7 HP7 HQ7 HR7 HPX u0 u1 u2 u3 u4 u5 u6
            have hpl : j < Pj.length := by rw [HPJ.out.lp]; exact hjm
            have hql : j < Qj.length := by rw [HPJ.out.lq]; exact hjm
            have v0 := cellB HP8.out hpl
            have v1 := cellB HQ8.out hql
            have z0 := MutR.frozen HP8.out j
            have z1 := MutR.frozen HQ8.out j
            obtain ⟨pw, hpw⟩ : ∃ pw, pw = Pj.getD j false := ⟨_, rfl⟩
            obtain ⟨qw, hqw⟩ : ∃ qw, qw = Qj.getD j false := ⟨_, rfl⟩
            rw [← hpw] at v0
            rw [← hqw] at v1
            have HPW := Lib.hid hpw
            have HQW := Lib.hid hqw
            have HPL2 := Lib.hid hpl
            have HQL2 := Lib.hid hql
            clear hpw hqw hpl hql
            have u1 := HX8.out.cell 1
            have nwm : ¬ WB = MB := HWM.out
            have nmw : ¬ MB = WB := fun e => HWM.out e.symm
            obtain ⟨H, hH⟩ : ∃ H, H = decide (pc.toNat ∈ memV L) := ⟨_, rfl⟩
            have HHH := Lib.hid hH
            clear hH
            go_upto_if 96 with fail
            go_cut [] (fun wx => ∃ P1 Q1 : List Bool, HoL wx B w1.heap.size L n m K1 K2 f1 f2 ∧ TStep w1 g wx ∧ MutR brow 1 4 wx WB m P1 ∧ MutR brow 1 4 wx MB m Q1 ∧ RdR nrow 1 wx (max WB MB + 1) A5 (nat2 (memV L)) ∧ Has wx XB 41 #[.int .i64 pk, .int .i64 pc, .int .i64 pp, .int .i64 pd, .int .i64 ps, .int .i64 pn, .bool pr] ∧ Hid (P1 = Pj.set j (mrk a H pw)) ∧ Hid (Q1 = Qj.set j (mrk a (!H) qw)))
            case first =>
              as_aux_lemma =>
              cases a with
              | false =>
                go_wp2_with fail
                go_meet
                exact ⟨Pj, Qj, HL8.out, HT8.out, HP8.out, HQ8.out, HR8.out, HX8.out, Lib.hid (by rw [HPW.out]; exact (set_getD HPL2.out).symm), Lib.hid (by rw [HQW.out]; exact (set_getD HQL2.out).symm)⟩
              | true =>
                have HHC := Lib.hid (fun (W : World) (h : RdR nrow 1 W (max WB MB + 1) A5 (nat2 (memV L))) => (rhas_num A5 (nat2 (memV L)) k5 c5 (max WB MB + 1) pc W HK5.out h (by omega)))
                have HCI : Hid ((nat2 (memV L)).contains pc = H) := Lib.hid (by rw [has_decI _ hpc, HHH.out])
                rw [HCI.out] at HHC
                go_upto_region 22 with fail
                rename World => V8
                have hwd : Below V8.heap.size V8 V8.drew := (Below.refl _ _).drew
                have HL9 := Lib.hid (HL8.out.below hwd)
                have HT9 := Lib.hid (HT8.out.below hwd)
                have HP9 := Lib.hid (MutR.below HP8.out hwd)
                have HQ9 := Lib.hid (MutR.below HQ8.out hwd)
                have HR9 := Lib.hid (RdR.below HR8.out hwd)
                have HX9 := Lib.hid (HX8.out.below hwd)
                have hnb : Hid ((WB ≠ B ∧ WB ≠ K1 ∧ WB ≠ K2) ∧ MB ≠ B ∧ MB ≠ K1 ∧ MB ≠ K2) := Lib.hid (by have := HNEt.out; omega)
                have HGB : Hid (w1.heap.size ≤ WB ∧ w1.heap.size ≤ MB) := Lib.hid (by omega)
                have v0 : V8.drew.cell? ⟨WB, j, none⟩ = some (.bool pw) := by have := cellB HP9.out HPL2.out; rw [← HPW.out] at this; exact this
                have v1 : V8.drew.cell? ⟨MB, j, none⟩ = some (.bool qw) := by have := cellB HQ9.out HQL2.out; rw [← HQW.out] at this; exact this
                have z0 := MutR.frozen HP9.out j
                have z1 := MutR.frozen HQ9.out j
                have u1 := HX9.out.cell 1
                have HNB := hnb
                clear hwd HL8 HT8 HP8 HQ8 HR8 HX8 hnb
                cases pw with
                | true =>
                  cases qw with
                  | true =>
                    as_aux_lemma =>
                    refine wp_region_noPanic ?_
                    refine reg22x_tt _ V8 A5 k5 c5 m j WB MB XB pc H (by omega) (by omega) (by omega) u1 v0 v1 z0 z1 nwm nmw (by omega) (by omega) (Lib.hid (HHC.out _ HR9.out)) (fun _ _ _ _ _ h => h) (Lib.hid ?_)
                    intros
                    refine NoPanic.normal ?_
                    go_wp2_with fail
                    go_meet
                    exact ⟨Pj.set j true, Qj.set j true, (HL9.out.far (p := ⟨WB, j, none⟩) HNB.out.1.1 HNB.out.1.2.1 HNB.out.1.2.2 _).far (p := ⟨MB, j, none⟩) HNB.out.2.1 HNB.out.2.2.1 HNB.out.2.2.2 _, (HT9.out.set (p := ⟨WB, j, none⟩) HGB.out.1 hgw _).set (p := ⟨MB, j, none⟩) HGB.out.2 hgw _, (putB HP9.out HPL2.out true).far (p := ⟨MB, j, none⟩) nmw _, putB (HQ9.out.far (p := ⟨WB, j, none⟩) nwm _) HQL2.out true, rdr_far1 (rdr_far1 HR9.out (p := ⟨WB, j, none⟩) (by simp only; omega) _) (p := ⟨MB, j, none⟩) (by simp only; omega) _, has_far (p := ⟨MB, j, none⟩) (has_far (p := ⟨WB, j, none⟩) HX9.out (by simp only; omega) _) (by simp only; omega) _, Lib.hid (by simp [mrk]), Lib.hid (by simp [mrk])⟩
                  | false =>
                    as_aux_lemma =>
                    refine wp_region_noPanic ?_
                    refine reg22x_tf _ V8 A5 k5 c5 m j WB MB XB pc H (by omega) (by omega) (by omega) u1 v0 v1 z0 z1 nwm nmw (by omega) (by omega) (Lib.hid (HHC.out _ HR9.out)) (fun _ _ _ _ _ h => h) (Lib.hid ?_)
                    intros
                    refine NoPanic.normal ?_
                    go_wp2_with fail
                    go_meet
                    exact ⟨Pj.set j true, Qj.set j (!H), (HL9.out.far (p := ⟨WB, j, none⟩) HNB.out.1.1 HNB.out.1.2.1 HNB.out.1.2.2 _).far (p := ⟨MB, j, none⟩) HNB.out.2.1 HNB.out.2.2.1 HNB.out.2.2.2 _, (HT9.out.set (p := ⟨WB, j, none⟩) HGB.out.1 hgw _).set (p := ⟨MB, j, none⟩) HGB.out.2 hgw _, (putB HP9.out HPL2.out true).far (p := ⟨MB, j, none⟩) nmw _, putB (HQ9.out.far (p := ⟨WB, j, none⟩) nwm _) HQL2.out (!H), rdr_far1 (rdr_far1 HR9.out (p := ⟨WB, j, none⟩) (by simp only; omega) _) (p := ⟨MB, j, none⟩) (by simp only; omega) _, has_far (p := ⟨MB, j, none⟩) (has_far (p := ⟨WB, j, none⟩) HX9.out (by simp only; omega) _) (by simp only; omega) _, Lib.hid (by simp [mrk]), Lib.hid (by simp [mrk])⟩
                | false =>
                  cases qw with
                  | true =>
                    as_aux_lemma =>
                    refine wp_region_noPanic ?_
                    refine reg22x_ft _ V8 A5 k5 c5 m j WB MB XB pc H (by omega) (by omega) (by omega) u1 v0 v1 z0 z1 nwm nmw (by omega) (by omega) (Lib.hid (HHC.out _ HR9.out)) (fun _ _ _ _ _ h => h) (Lib.hid ?_)
                    intros
                    refine NoPanic.normal ?_
                    go_wp2_with fail
                    go_meet
                    exact ⟨Pj.set j H, Qj.set j true, (HL9.out.far (p := ⟨WB, j, none⟩) HNB.out.1.1 HNB.out.1.2.1 HNB.out.1.2.2 _).far (p := ⟨MB, j, none⟩) HNB.out.2.1 HNB.out.2.2.1 HNB.out.2.2.2 _, (HT9.out.set (p := ⟨WB, j, none⟩) HGB.out.1 hgw _).set (p := ⟨MB, j, none⟩) HGB.out.2 hgw _, (putB HP9.out HPL2.out H).far (p := ⟨MB, j, none⟩) nmw _, putB (HQ9.out.far (p := ⟨WB, j, none⟩) nwm _) HQL2.out true, rdr_far1 (rdr_far1 HR9.out (p := ⟨WB, j, none⟩) (by simp only; omega) _) (p := ⟨MB, j, none⟩) (by simp only; omega) _, has_far (p := ⟨MB, j, none⟩) (has_far (p := ⟨WB, j, none⟩) HX9.out (by simp only; omega) _) (by simp only; omega) _, Lib.hid (by simp [mrk]), Lib.hid (by simp [mrk])⟩
                  | false =>
                    as_aux_lemma =>
                    refine wp_region_noPanic ?_
                    refine reg22x_ff _ V8 A5 k5 c5 m j WB MB XB pc H (by omega) (by omega) (by omega) u1 v0 v1 z0 z1 nwm nmw (by omega) (by omega) (Lib.hid (HHC.out _ HR9.out)) (fun _ _ _ _ _ h => h) (Lib.hid ?_)
                    intros
                    refine NoPanic.normal ?_
                    go_wp2_with fail
                    go_meet
                    exact ⟨Pj.set j H, Qj.set j (!H), (HL9.out.far (p := ⟨WB, j, none⟩) HNB.out.1.1 HNB.out.1.2.1 HNB.out.1.2.2 _).far (p := ⟨MB, j, none⟩) HNB.out.2.1 HNB.out.2.2.1 HNB.out.2.2.2 _, (HT9.out.set (p := ⟨WB, j, none⟩) HGB.out.1 hgw _).set (p := ⟨MB, j, none⟩) HGB.out.2 hgw _, (putB HP9.out HPL2.out H).far (p := ⟨MB, j, none⟩) nmw _, putB (HQ9.out.far (p := ⟨WB, j, none⟩) nwm _) HQL2.out (!H), rdr_far1 (rdr_far1 HR9.out (p := ⟨WB, j, none⟩) (by simp only; omega) _) (p := ⟨MB, j, none⟩) (by simp only; omega) _, has_far (p := ⟨MB, j, none⟩) (has_far (p := ⟨WB, j, none⟩) HX9.out (by simp only; omega) _) (by simp only; omega) _, Lib.hid (by simp [mrk]), Lib.hid (by simp [mrk])⟩
            case rest =>
            obtain ⟨P1, Q1, hl9, ht9, hp9, hq9, hr9, hx9, HP1, HQ1⟩ := hcut
            as_aux_lemma =>
            rename World => V9
            have HL9 := Lib.hid hl9
            have HT9 := Lib.hid ht9
            have HP9 := Lib.hid hp9
            have HQ9 := Lib.hid hq9
            have HR9 := Lib.hid hr9
            have HX9 := Lib.hid hx9
            have HPN : Hid (Prj L (Pt) (Qt) m (j + 1) P1 Q1) := Lib.hid (by
              have := Prj.next HPRE.out HPJ.out hjm (a := a) (H := H) HX.out HAE.out HHH.out
              rw [← HPW.out, ← HQW.out, ← HP1.out, ← HQ1.out] at this
              exact this)
            clear hl9 ht9 hp9 hq9 hr9 hx9 HL8 HT8 HP8 HQ8 HR8 HX8 v0 v1 z0 z1 u1
            have u0 := HX9.out.cell 0
            have u2 := HX9.out.cell 2
            have u6 := HX9.out.cell 6
            by_cases e18 : pp = 18
            · have HMD := Lib.hid (momL_done HLDt.out.1 (by rw [HL9.out.hm]; exact hjm) HX.out (HPN.out.lo j (Nat.lt_succ_self j) hjm) e18)
              subst e18
              have hy18 : ((18 : Int) == 18) = true := rfl
              have v0 := cellB HP9.out (by rw [HPN.out.lp]; exact hjm : j < P1.length)
              have v1 := cellB HQ9.out (by rw [HPN.out.lq]; exact hjm : j < Q1.length)
              obtain ⟨pw1, hpw1⟩ : ∃ z, z = P1.getD j false := ⟨_, rfl⟩
              obtain ⟨qw1, hqw1⟩ : ∃ z, z = Q1.getD j false := ⟨_, rfl⟩
              have hmd := HMD.out
              rw [← hpw1] at v0 hmd
              rw [← hqw1] at v1 hmd
              have HM2 := Lib.hid hmd
              clear hpw1 hqw1 HMD hmd
              go_upto_region 23 with fail
              go_cut [171] (fun s wx => s = .bool false ∧ V9 = wx)
              case first =>
                as_aux_lemma =>
                by_cases k3 : pk = 3
                · subst k3
                  have kk3 : ((3 : Int) == 3) = true := rfl
                  have kk2 : ((3 : Int) == 2) = false := rfl
                  cases pr with
                  | true =>
                    obtain rfl : pw1 = true := (HM2.out.2 rfl).1 rfl
                    clear HM2
                    go_wp2_with fail
                    go_meet
                    exact ⟨rfl, rfl⟩
                  | false =>
                    obtain rfl : qw1 = true := (HM2.out.2 rfl).2 rfl
                    clear HM2
                    go_wp2_with fail
                    go_meet
                    exact ⟨rfl, rfl⟩
                · have kk3 : (pk == 3) = false := by simpa using k3
                  by_cases k2 : pk = 2
                  · subst k2
                    have kk2 : ((2 : Int) == 2) = true := rfl
                    have kk3' : ((2 : Int) == 3) = false := rfl
                    cases pr with
                    | true =>
                      clear HM2 k3
                      go_wp2_with fail
                      go_meet
                      exact ⟨rfl, rfl⟩
                    | false =>
                      obtain rfl : qw1 = true := HM2.out.1 rfl rfl
                      clear HM2 k3
                      go_wp2_with fail
                      go_meet
                      exact ⟨rfl, rfl⟩
                  · have kk2 : (pk == 2) = false := by simpa using k2
                    clear HM2 k3 k2
                    go_wp2_with fail
                    go_meet
                    exact ⟨rfl, rfl⟩
              case rest =>
              obtain ⟨rfl, rfl⟩ := hcut
              go_wp2_with fail
              exact ⟨⟨j + 1, P1, Q1, by go_num, hjm, HL9.out, HT9.out, HP9.out, HQ9.out, HR9.out, HPN⟩, by simp [intOf]; omega⟩
            · have hy18 : (pp == 18) = false := by simpa using e18
              clear e18
              go_wp2_with fail
              exact ⟨⟨j + 1, P1, Q1, by go_num, hjm, HL9.out, HT9.out, HP9.out, HQ9.out, HR9.out, HPN⟩, by simp [intOf]; omega⟩
          · have hjm2 : j = m := by omega
            have hd : decide ((j : Int) < (m : Int)) = false := by simp; omega
            have HDN : Hid (MomA L m Pj Qj) := Lib.hid (by have := HPJ.out; rw [hjm2] at this; exact this.done)
            clear hjm2
            go_wp2_with fail
            exact ⟨⟨L, i + 1, K1, K2, f1, f2, Pj, Qj, by go_num, hlt, HL.out, HLDt, HT.out, HP.out, HQ.out, HDN, HNEt⟩, by simp [intOf]; omega⟩
      | false =>
        go_wp2_with fail
        refine (sane12_any wa).mono ?_
        rintro e w' ⟨rfl, hb⟩
        go_wp2_with fail
        go_ret
        exact ⟨rfl, (HB1.out.grown HTa.out.2 HB1.out.size (fun j e => by have := Option.some.inj e; omega)).trans (hb.mono (by have := HTa.out.2.size; have := HB1.out.size; omega))⟩
    · have hd : decide ((i : Int) < 110) = false := by simp; omega
      go_wp2_with fail
      refine (sane12_any wr).mono ?_
      rintro e w' ⟨rfl, hb⟩
      go_wp2_with fail
      go_ret
      exact ⟨rfl, (HB1.out.grown HT.out.2 HB1.out.size (fun j e => by have := Option.some.inj e; omega)).trans (hb.mono (by have := HT.out.2.size; have := HB1.out.size; omega))⟩
end Lf
end Go.Proofs.YtmhbloefmknikaaDoor
