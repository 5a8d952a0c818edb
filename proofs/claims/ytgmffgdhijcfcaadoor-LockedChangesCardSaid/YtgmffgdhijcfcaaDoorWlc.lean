/-
  The walk of LockedChanges: from whatever numbers it answers true and only makes memory. Conditions: the argument can be read; 'letters' is as its initialiser lays it.
-/
import Derived.Test.YtgmffgdhijcfcaaDoorMaU
import Derived.Test.YtgmffgdhijcfcaaDoorMaS
import Derived.Test.YtgmffgdhijcfcaaDoorMaA
namespace Go.Proofs.YtgmffgdhijcfcaaDoor
open Go.RowKit Go.Maps
namespace Lk
/-- What a round keeps. -/
def ChR (w1 : World) (B lo g : Nat) (l : Ls) (n m G1 G2 d1 d2 DB : Nat) (D : List Bool) (wx : World) : Prop := HoL wx B lo l n m G1 G2 d1 d2 ∧ TStep w1 g wx ∧ MutR brow 1 4 wx DB m D
theorem ChR.but {w1 w6 wx : World} {B lo g : Nat} {l : Ls} {n m G1 G2 d1 d2 X DB : Nat} {D : List Bool} (h1 : HoL w6 B lo l n m G1 G2 d1 d2) (h3 : TStep w1 g w6) (h4 : MutR brow 1 4 w6 DB m D) (v : Vld l) (hX : B + 1 ≤ X) (g1 : G1 < X) (g2 : G2 < X) (hD : DB < X) (hB : w1.heap.size ≤ B) (hg : g < w1.heap.size) (k : But X w6 wx) : ChR w1 B lo g l n m G1 G2 d1 d2 DB D wx :=
  ⟨k.hol h1 v (by omega) (by omega) (by omega), tover h3 hg (k.below (by omega) h3.2.size), MutR.keep h4 (k.block DB h4.lt (by omega))⟩
set_option maxRecDepth 100000 in
set_option maxHeartbeats 20000000 in
theorem changes_walk (A : Option Addr) (n0 cp : Nat) (w : World) (hL : Lets w) (hnc : n0 ≤ cp) (hc : cp ≤ maxLen) (hN : Nums w w.heap.size A n0) :
    Calls Tryd.prog 5 #[.slice A n0 cp] w (LawP w) := by
  go_enter Tryd.func5, Tryd.ntmps5
  go_wp2_with fail
  refine (Go.Proofs.YtgmffgdhijcfcaaDoor.new_any A n0 cp _ hnc hc hN).mono ?_
  rintro e w1 ⟨g, hg1, rfl, hTp, hb1⟩
  have hne2 : 0 ≠ g := by have := hL.lt; omega
  have l1 := hL.below hb1
  have hgw := hTp.lt
  have HB1 := Lib.hid hb1
  clear hN hnc hc hL hb1
  go_wp2_with fail
  refine (made_any g w1 hTp l1 hne2 hgw).mono ?_
  rintro e w2 ⟨l0, n, m, J1, J2, c1, c2, rfl, hfr, hrd, hst⟩
  have hm4 : 2 ≤ m ∧ m ≤ 4 := ⟨hfr.m2, hfr.m4⟩
  have HFR := Lib.hid hfr
  have HLA := Lib.hid (HoL.new (d1 := c1) (d2 := c2) (t := 35) (n := n) (m := m) (RdL.low hrd (Nat.le_refl _)) hfr.led.1 hst.2.size hfr.hn hfr.hm)
  have HTA := Lib.hid (hst.below ((Below.refl w2.heap.size w2).alloc (Nat.le_refl _) (.cells #[.slice (some ⟨J1, 0, none⟩) n c1, .slice (some ⟨J2, 0, none⟩) m c2] 35)))
  have hsz : (w2.alloc (.cells #[.slice (some ⟨J1, 0, none⟩) n c1, .slice (some ⟨J2, 0, none⟩) m c2] 35)).heap.size = w2.heap.size + 1 := World.size_alloc _ _
  have hs2 := hst.2.size
  clear hfr hrd hst hTp l1
  go_upto_region 3 with fail
  generalize w2.alloc (.cells #[.slice (some ⟨J1, 0, none⟩) n c1, .slice (some ⟨J2, 0, none⟩) m c2] 35) = W at *
  obtain ⟨B, hB⟩ : ∃ B, B = w2.heap.size := ⟨_, rfl⟩
  rw [← hB] at HLA hsz hs2 ⊢
  clear hB
  have y0 := HLA.out.x0
  have y1 := HLA.out.x1
  have hmb := fun W => make_bools W m hm4.2
  go_upto_region 6 with fail
  have HLW := Lib.hid (HLA.out.below ((Below.refl W.heap.size W).alloc (Nat.le_refl _) (.cells (bc m) 4)))
  have HTW := Lib.hid (HTA.out.below ((Below.refl W.heap.size W).alloc (Nat.le_refl _) (.cells (bc m) 4)))
  have HDW := Lib.hid (bools_mut W m hm4.2)
  have hJJ := HLA.out.glt HFR.out.led.1
  generalize W.alloc (.cells (bc m) 4) = V at *
  obtain ⟨DB, hDB⟩ : ∃ DB, DB = B + 1 := ⟨_, rfl⟩
  rw [hsz] at HDW hJJ
  rw [← hDB] at HDW hJJ ⊢
  have hBD : B + 1 ≤ DB := by omega
  clear hDB hmb y0 y1 HLA HTA hsz
  have HDA0 := Lib.hid (didA_new HFR.out)
  have HLD0 := Lib.hid HFR.out.led
  have HNE0 : Hid (J1 ≠ DB ∧ J2 ≠ DB) := Lib.hid (by omega)
  clear hJJ HFR
  go_wp2_with fail
  go_loopw [7] (fun v7 wr => ∃ (l : Ls) (i G1 G2 d1 d2 : Nat) (D : List Bool), v7 = .int .i64 (i : Int) ∧ i ≤ 90 ∧ HoL wr B w1.heap.size l n m G1 G2 d1 d2 ∧ Hid (Led l) ∧ TStep w1 g wr ∧ MutR brow 1 4 wr DB m D ∧ Hid (DidA l D) ∧ Hid (G1 ≠ DB ∧ G2 ≠ DB)) (fun v7 _ => 90 - (intOf v7).toNat)
  case atStart => exact ⟨l0, 0, J1, J2, c1, c2, _, rfl, Nat.zero_le _, HLW.out, HLD0, HTW.out, HDW.out, HDA0, HNE0⟩
  case round =>
    clear HLW HTW HDW HDA0 HLD0 HNE0
    obtain ⟨l, i, G1, G2, d1, d2, D, rfl, hi, hl, HLD, ht, hdd, HDA, HNE⟩ := hrel
    have HL := Lib.hid hl
    have HT := Lib.hid ht
    have HD := Lib.hid hdd
    clear hl ht hdd
    by_cases hlt : i < 90
    · have hd : decide ((i : Int) < 90) = true := by simp; omega
      go_wp2_with fail
      refine (left_any g wr HT.out.1).mono ?_
      rintro e wa ⟨b4, rfl, hsta⟩
      have HLa := Lib.hid (HL.out.step hgw hsta)
      have HTa := Lib.hid (HT.out.trans hsta)
      have HDa : Hid (MutR brow 1 4 wa DB m D) := Lib.hid (MutR.keep HD.out (hsta.2.block DB HD.out.lt (fun e => by have := Option.some.inj e; omega)))
      clear hsta HL HT HD
      cases b4 with
      | true =>
        have y0 := HLa.out.x0
        have y1 := HLa.out.x1
        go_wp2_with fail
        refine (next_any g (m : Int) wa HTa.out.1 (by omega)).mono ?_
        rintro e wb ⟨r, r0, r1, rfl, hstb⟩
        obtain ⟨q, rfl⟩ := Int.eq_ofNat_of_zero_le r0
        have hq : q < m := by omega
        have HLb := Lib.hid (HLa.out.step hgw hstb)
        have HTb := Lib.hid (HTa.out.trans hstb)
        have HDb : Hid (MutR brow 1 4 wb DB m D) := Lib.hid (MutR.keep HDa.out (hstb.2.block DB HDa.out.lt (fun e => by have := Option.some.inj e; omega)))
        clear hstb HLa HTa HDa r0 r1 y0 y1
        go_wp2_with fail
        refine (bool_any g 5 wb HTb.out.1 (by omega) (by omega)).mono ?_
        rintro e w3 ⟨b3, rfl, hst3⟩
        have HL3 := Lib.hid (HLb.out.step hgw hst3)
        have HT3 := Lib.hid (HTb.out.trans hst3)
        have HD3 : Hid (MutR brow 1 4 w3 DB m D) := Lib.hid (MutR.keep HDb.out (hst3.2.block DB HDb.out.lt (fun e => by have := Option.some.inj e; omega)))
        clear hst3 HLb HTb HDb
        have hg := hgw
        have hDl : DB < w3.heap.size := HD3.out.lt
        have hgl := HL3.out.glt HLD.out.1
        have n2 : 2 ≤ n ∧ n ≤ 66 := by have := HLD.out.1.n2; have := HLD.out.1.n66; have := HL3.out.hn; omega
        cases b3 with
        | true =>
          go_upto_region 11 with fail
          have hal := ((Below.refl w3.heap.size w3).alloc (Nat.le_refl _) (.cells #[.slice none 0 0, .slice none 0 0] 35)).drew
          have HLE : Hid (HoL w3.drew B w1.heap.size l n m G1 G2 d1 d2) := Lib.hid HL3.out.drew
          have HTE : Hid (TStep w1 g w3.drew) := Lib.hid (HT3.out.below (Below.refl _ w3).drew)
          have HDE : Hid (MutR brow 1 4 w3.drew DB m D) := Lib.hid (MutR.below HD3.out (Below.refl _ w3).drew)
          have HLF := Lib.hid (HL3.out.below hal)
          have HTF := Lib.hid (HT3.out.below hal)
          have HDF := Lib.hid (MutR.below HD3.out hal)
          have HZF := Lib.hid ((Has.new w3 35 #[.slice none 0 0, .slice none 0 0]).below (Below.refl _ _).drew)
          have hq3 : (w3.alloc (.cells #[.slice none 0 0, .slice none 0 0] 35)).drew.heap.size = w3.heap.size + 1 := World.size_alloc _ _
          have hS3 : (w3.drew.cell? ⟨B, 0, none⟩ = some (.slice (some ⟨G1, 0, none⟩) n d1) ∧ w3.drew.cell? ⟨B, 1, none⟩ = some (.slice (some ⟨G2, 0, none⟩) m d2)) := ⟨HLE.out.x0, HLE.out.x1⟩
          have hA3 : ((w3.alloc (.cells #[.slice none 0 0, .slice none 0 0] 35)).drew.cell? ⟨B, 0, none⟩ = some (.slice (some ⟨G1, 0, none⟩) n d1) ∧ (w3.alloc (.cells #[.slice none 0 0, .slice none 0 0] 35)).drew.cell? ⟨B, 1, none⟩ = some (.slice (some ⟨G2, 0, none⟩) m d2)) := ⟨HLF.out.x0, HLF.out.x1⟩
          clear hal HL3 HT3 HD3
          go_cut [9, 10] (fun s9 s10 wx => StRel (ChR w1 B w1.heap.size g l n m G1 G2 d1 d2 DB D) l q n m (DB + 1) s9 s10 wx)
          case first =>
            as_aux_lemma =>
            go_region_held3 (fun w' => (w'.cell? ⟨B, 0, none⟩ = some (.slice (some ⟨G1, 0, none⟩) n d1) ∧ w'.cell? ⟨B, 1, none⟩ = some (.slice (some ⟨G2, 0, none⟩) m d2)))
              (first | with_reducible exact hF6 _ _ | with_reducible exact hA6 _ | with_reducible exact hS6 | with_reducible exact hA5a | with_reducible exact hS5 | with_reducible exact hA4a | with_reducible exact hS4 | with_reducible exact hA3 | with_reducible exact hS3 | with_reducible assumption)
              (first | (go_at_call 22; (with_reducible refine (start_any (some ⟨G1, 0, none⟩) (some ⟨G2, 0, none⟩) l (q : Int) (1 + r4) (2 + r5) n m d1 d2 w5 HL5.out.hn HL5.out.hm (HL5.out.rd.low (Nat.zero_le _))).mono ?_); intro e w6 h6; obtain ⟨E, P1, P2, a1, a2, f1, f2, rfl, hE, hok, hb6⟩ := sta_form h6; have HE := Lib.hid hE; have HOK := Lib.hid hok; have HSB : Hid (DB + 1 ≤ w5.heap.size) := Lib.hid (by omega); have hs6 := hb6.size; have HL6 := Lib.hid (HL5.out.below hb6); have HT6 := Lib.hid (HT5.out.below hb6); have HD6 := Lib.hid (MutR.below HD5.out hb6); have hS6 : (w6.cell? ⟨B, 0, none⟩ = some (.slice (some ⟨G1, 0, none⟩) n d1) ∧ w6.cell? ⟨B, 1, none⟩ = some (.slice (some ⟨G2, 0, none⟩) m d2)) := ⟨HL6.out.x0, HL6.out.x1⟩; have HXL : Hid (w3.heap.size < w5.heap.size) := Lib.hid HZ5.out.lt; have HZ6 := Lib.hid (HZ5.out.below hb6); have c0 := HZ6.out.cell 0; have c1 := HZ6.out.cell 1; have c2 := HZ6.out.frozen 0; have c3 := HZ6.out.frozen 1; have hF6 : ∀ u v, (((w6.setCell ⟨w3.heap.size, 0, none⟩ u).setCell ⟨w3.heap.size, 1, none⟩ v).cell? ⟨B, 0, none⟩ = some (.slice (some ⟨G1, 0, none⟩) n d1) ∧ ((w6.setCell ⟨w3.heap.size, 0, none⟩ u).setCell ⟨w3.heap.size, 1, none⟩ v).cell? ⟨B, 1, none⟩ = some (.slice (some ⟨G2, 0, none⟩) m d2)) := (fun u v => have q := (((But.refl (X := w3.heap.size) (a := w6)).set (p := ⟨w3.heap.size, 0, none⟩) rfl u).set (p := ⟨w3.heap.size, 1, none⟩) rfl v).hol HL6.out HLD.out.1 (by omega) (by omega) (by omega); ⟨q.x0, q.x1⟩); clear h6 hE hok hb6) | (go_at_call 22; (with_reducible refine (start_any (some ⟨G1, 0, none⟩) (some ⟨G2, 0, none⟩) l (q : Int) (1 + r4) (2 + r5) n m d1 d2 w5 HL5.out.hn HL5.out.hm (HL5.out.rd.low (Nat.zero_le _))).mono ?_); intro e w6 h6; obtain ⟨E, P1, P2, a1, a2, f1, f2, rfl, hE, hok, hb6⟩ := sta_form h6; have HE := Lib.hid hE; have HOK := Lib.hid hok; have HSB : Hid (DB + 1 ≤ w5.heap.size) := Lib.hid (by omega); have hs6 := hb6.size; have HL6 := Lib.hid (HL5.out.below hb6); have HT6 := Lib.hid (HT5.out.below hb6); have HD6 := Lib.hid (MutR.below HD5.out hb6); have hS6 : (w6.cell? ⟨B, 0, none⟩ = some (.slice (some ⟨G1, 0, none⟩) n d1) ∧ w6.cell? ⟨B, 1, none⟩ = some (.slice (some ⟨G2, 0, none⟩) m d2)) := ⟨HL6.out.x0, HL6.out.x1⟩; have HXL : Hid (w4.heap.size < w5.heap.size) := Lib.hid HZ5.out.lt; have HZ6 := Lib.hid (HZ5.out.below hb6); have c0 := HZ6.out.cell 0; have c1 := HZ6.out.cell 1; have c2 := HZ6.out.frozen 0; have c3 := HZ6.out.frozen 1; have hF6 : ∀ u v, (((w6.setCell ⟨w4.heap.size, 0, none⟩ u).setCell ⟨w4.heap.size, 1, none⟩ v).cell? ⟨B, 0, none⟩ = some (.slice (some ⟨G1, 0, none⟩) n d1) ∧ ((w6.setCell ⟨w4.heap.size, 0, none⟩ u).setCell ⟨w4.heap.size, 1, none⟩ v).cell? ⟨B, 1, none⟩ = some (.slice (some ⟨G2, 0, none⟩) m d2)) := (fun u v => have q := (((But.refl (X := w4.heap.size) (a := w6)).set (p := ⟨w4.heap.size, 0, none⟩) rfl u).set (p := ⟨w4.heap.size, 1, none⟩) rfl v).hol HL6.out HLD.out.1 (by omega) (by omega) (by omega); ⟨q.x0, q.x1⟩); clear h6 hE hok hb6) | (go_at_call 22; (with_reducible refine (start_any (some ⟨G1, 0, none⟩) (some ⟨G2, 0, none⟩) l (q : Int) (1 + r4) (2 + r5) n m d1 d2 (w5.alloc (.cells #[.slice none 0 0, .slice none 0 0] 35)) HL5a.out.hn HL5a.out.hm (HL5a.out.rd.low (Nat.zero_le _))).mono ?_); intro e w6 h6; obtain ⟨E, P1, P2, a1, a2, f1, f2, rfl, hE, hok, hb6⟩ := sta_form h6; have HE := Lib.hid hE; have HOK := Lib.hid hok; have HSB : Hid (DB + 1 ≤ (w5.alloc (.cells #[.slice none 0 0, .slice none 0 0] 35)).heap.size) := Lib.hid (by omega); have hs6 := hb6.size; have HL6 := Lib.hid (HL5a.out.below hb6); have HT6 := Lib.hid (HT5a.out.below hb6); have HD6 := Lib.hid (MutR.below HD5a.out hb6); have hS6 : (w6.cell? ⟨B, 0, none⟩ = some (.slice (some ⟨G1, 0, none⟩) n d1) ∧ w6.cell? ⟨B, 1, none⟩ = some (.slice (some ⟨G2, 0, none⟩) m d2)) := ⟨HL6.out.x0, HL6.out.x1⟩; have HXL : Hid (w5.heap.size < (w5.alloc (.cells #[.slice none 0 0, .slice none 0 0] 35)).heap.size) := Lib.hid HZ5a.out.lt; have HZ6 := Lib.hid (HZ5a.out.below hb6); have c0 := HZ6.out.cell 0; have c1 := HZ6.out.cell 1; have c2 := HZ6.out.frozen 0; have c3 := HZ6.out.frozen 1; have hF6 : ∀ u v, (((w6.setCell ⟨w5.heap.size, 0, none⟩ u).setCell ⟨w5.heap.size, 1, none⟩ v).cell? ⟨B, 0, none⟩ = some (.slice (some ⟨G1, 0, none⟩) n d1) ∧ ((w6.setCell ⟨w5.heap.size, 0, none⟩ u).setCell ⟨w5.heap.size, 1, none⟩ v).cell? ⟨B, 1, none⟩ = some (.slice (some ⟨G2, 0, none⟩) m d2)) := (fun u v => have q := (((But.refl (X := w5.heap.size) (a := w6)).set (p := ⟨w5.heap.size, 0, none⟩) rfl u).set (p := ⟨w5.heap.size, 1, none⟩) rfl v).hol HL6.out HLD.out.1 (by omega) (by omega) (by omega); ⟨q.x0, q.x1⟩); clear h6 hE hok hb6) | (go_at_call 22; (with_reducible refine (start_any (some ⟨G1, 0, none⟩) (some ⟨G2, 0, none⟩) l (q : Int) (1 + r4) (2 + r5) n m d1 d2 w5 HL5.out.hn HL5.out.hm (HL5.out.rd.low (Nat.zero_le _))).mono ?_); intro e w6 h6; obtain ⟨E, P1, P2, a1, a2, f1, f2, rfl, hE, hok, hb6⟩ := sta_form h6; have HE := Lib.hid hE; have HOK := Lib.hid hok; have HSB : Hid (DB + 1 ≤ w5.heap.size) := Lib.hid (by omega); have hs6 := hb6.size; have HL6 := Lib.hid (HL5.out.below hb6); have HT6 := Lib.hid (HT5.out.below hb6); have HD6 := Lib.hid (MutR.below HD5.out hb6); have hS6 : (w6.cell? ⟨B, 0, none⟩ = some (.slice (some ⟨G1, 0, none⟩) n d1) ∧ w6.cell? ⟨B, 1, none⟩ = some (.slice (some ⟨G2, 0, none⟩) m d2)) := ⟨HL6.out.x0, HL6.out.x1⟩; have hA6 : ∀ cs, ((w6.alloc (.cells cs 35)).cell? ⟨B, 0, none⟩ = some (.slice (some ⟨G1, 0, none⟩) n d1) ∧ (w6.alloc (.cells cs 35)).cell? ⟨B, 1, none⟩ = some (.slice (some ⟨G2, 0, none⟩) m d2)) := (fun cs => have q := HL6.out.below ((Below.refl w6.heap.size w6).alloc (Nat.le_refl _) (.cells cs 35)); ⟨q.x0, q.x1⟩); clear h6 hE hok hb6) | (go_at_call 12; (with_reducible refine (next_any g _ w4 (tstp_tape HT4.out) (by omega)).mono ?_); rintro e w5 ⟨r5, r50, r51, rfl, hst5⟩; have hr5 : 0 ≤ r5 ∧ r5 ≤ 66 := (by omega); have e5 : IntKind.i64.wrap (2 + r5) = 2 + r5 := (IntWalk.i64_in _ (by omega)); have HL5 := Lib.hid (HL4.out.step hg hst5); have HT5 := Lib.hid (HT4.out.trans hst5); have hz5 : w4.heap.size ≤ w5.heap.size := hst5.2.size; have HD5 := Lib.hid ((MutR.keep HD4.out (hst5.2.block DB HD4.out.lt (fun e => (by have := Option.some.inj e; omega))) : MutR brow 1 4 w5 DB m D)); have HZ5 := Lib.hid (show Has w5 w3.heap.size 35 #[.slice none 0 0, .slice none 0 0] from (hst5.2.block _ HZ4.out.lt (fun e => (by have := Option.some.inj e; omega))).trans HZ4.out); have hS5 : (w5.cell? ⟨B, 0, none⟩ = some (.slice (some ⟨G1, 0, none⟩) n d1) ∧ w5.cell? ⟨B, 1, none⟩ = some (.slice (some ⟨G2, 0, none⟩) m d2)) := ⟨HL5.out.x0, HL5.out.x1⟩; clear hst5 r50 r51) | (go_at_call 12; (with_reducible refine (next_any g _ (w4.alloc (.cells #[.slice none 0 0, .slice none 0 0] 35)) (tstp_tape HT4a.out) (by omega)).mono ?_); rintro e w5 ⟨r5, r50, r51, rfl, hst5⟩; have hr5 : 0 ≤ r5 ∧ r5 ≤ 66 := (by omega); have e5 : IntKind.i64.wrap (2 + r5) = 2 + r5 := (IntWalk.i64_in _ (by omega)); have HL5 := Lib.hid (HL4a.out.step hg hst5); have HT5 := Lib.hid (HT4a.out.trans hst5); have hz5 : (w4.alloc (.cells #[.slice none 0 0, .slice none 0 0] 35)).heap.size ≤ w5.heap.size := hst5.2.size; have HD5 := Lib.hid ((MutR.keep HD4a.out (hst5.2.block DB HD4a.out.lt (fun e => (by have := Option.some.inj e; omega))) : MutR brow 1 4 w5 DB m D)); have HZ5 := Lib.hid (show Has w5 w4.heap.size 35 #[.slice none 0 0, .slice none 0 0] from (hst5.2.block _ HZ4a.out.lt (fun e => (by have := Option.some.inj e; omega))).trans HZ4a.out); have hS5 : (w5.cell? ⟨B, 0, none⟩ = some (.slice (some ⟨G1, 0, none⟩) n d1) ∧ w5.cell? ⟨B, 1, none⟩ = some (.slice (some ⟨G2, 0, none⟩) m d2)) := ⟨HL5.out.x0, HL5.out.x1⟩; clear hst5 r50 r51) | (go_at_call 12; (with_reducible refine (next_any g _ w4 (tstp_tape HT4.out) (by omega)).mono ?_); rintro e w5 ⟨r5, r50, r51, rfl, hst5⟩; have hr5 : 0 ≤ r5 ∧ r5 ≤ 66 := (by omega); have e5 : IntKind.i64.wrap (2 + r5) = 2 + r5 := (IntWalk.i64_in _ (by omega)); have HL5 := Lib.hid (HL4.out.step hg hst5); have HT5 := Lib.hid (HT4.out.trans hst5); have hz5 : w4.heap.size ≤ w5.heap.size := hst5.2.size; have HD5 := Lib.hid ((MutR.keep HD4.out (hst5.2.block DB HD4.out.lt (fun e => (by have := Option.some.inj e; omega))) : MutR brow 1 4 w5 DB m D)); have hS5 : (w5.cell? ⟨B, 0, none⟩ = some (.slice (some ⟨G1, 0, none⟩) n d1) ∧ w5.cell? ⟨B, 1, none⟩ = some (.slice (some ⟨G2, 0, none⟩) m d2)) := ⟨HL5.out.x0, HL5.out.x1⟩; have hbe5a := ((Below.refl w5.heap.size w5).alloc (Nat.le_refl _) (.cells #[.slice none 0 0, .slice none 0 0] 35)); have HL5a := Lib.hid (HL5.out.below hbe5a); have HT5a := Lib.hid (HT5.out.below hbe5a); have HZ5a := Lib.hid (Has.new w5 35 #[.slice none 0 0, .slice none 0 0]); have hz5a : (w5.alloc (.cells #[.slice none 0 0, .slice none 0 0] 35)).heap.size = w5.heap.size + 1 := World.size_alloc _ _; have hA5a : ((w5.alloc (.cells #[.slice none 0 0, .slice none 0 0] 35)).cell? ⟨B, 0, none⟩ = some (.slice (some ⟨G1, 0, none⟩) n d1) ∧ (w5.alloc (.cells #[.slice none 0 0, .slice none 0 0] 35)).cell? ⟨B, 1, none⟩ = some (.slice (some ⟨G2, 0, none⟩) m d2)) := ⟨HL5a.out.x0, HL5a.out.x1⟩; have HD5a := Lib.hid (MutR.below HD5.out hbe5a); clear hbe5a; clear hst5 r50 r51) | (go_at_call 12; (with_reducible refine (next_any g 3 w3.drew (tstp_tape HTE.out) (by omega)).mono ?_); rintro e w4 ⟨r4, r40, r41, rfl, hst4⟩; have hr4 : 0 ≤ r4 ∧ r4 ≤ 2 := (by omega); have e4 : IntKind.i64.wrap (1 + r4) = 1 + r4 := (IntWalk.i64_in _ (by omega)); have HL4 := Lib.hid (HLE.out.step hg hst4); have HT4 := Lib.hid (HTE.out.trans hst4); have hz4 : w3.heap.size ≤ w4.heap.size := hst4.2.size; have HD4 := Lib.hid ((MutR.keep HDE.out (hst4.2.block DB HDE.out.lt (fun e => (by have := Option.some.inj e; omega))) : MutR brow 1 4 w4 DB m D)); have hS4 : (w4.cell? ⟨B, 0, none⟩ = some (.slice (some ⟨G1, 0, none⟩) n d1) ∧ w4.cell? ⟨B, 1, none⟩ = some (.slice (some ⟨G2, 0, none⟩) m d2)) := ⟨HL4.out.x0, HL4.out.x1⟩; have hbe4a := ((Below.refl w4.heap.size w4).alloc (Nat.le_refl _) (.cells #[.slice none 0 0, .slice none 0 0] 35)); have HL4a := Lib.hid (HL4.out.below hbe4a); have HT4a := Lib.hid (HT4.out.below hbe4a); have HZ4a := Lib.hid (Has.new w4 35 #[.slice none 0 0, .slice none 0 0]); have hz4a : (w4.alloc (.cells #[.slice none 0 0, .slice none 0 0] 35)).heap.size = w4.heap.size + 1 := World.size_alloc _ _; have hA4a : ((w4.alloc (.cells #[.slice none 0 0, .slice none 0 0] 35)).cell? ⟨B, 0, none⟩ = some (.slice (some ⟨G1, 0, none⟩) n d1) ∧ (w4.alloc (.cells #[.slice none 0 0, .slice none 0 0] 35)).cell? ⟨B, 1, none⟩ = some (.slice (some ⟨G2, 0, none⟩) m d2)) := ⟨HL4a.out.x0, HL4a.out.x1⟩; have HD4a := Lib.hid (MutR.below HD4.out hbe4a); clear hbe4a; clear hst4 r40 r41) | (go_at_call 12; (with_reducible refine (next_any g 3 (w3.alloc (.cells #[.slice none 0 0, .slice none 0 0] 35)).drew (tstp_tape HTF.out) (by omega)).mono ?_); rintro e w4 ⟨r4, r40, r41, rfl, hst4⟩; have hr4 : 0 ≤ r4 ∧ r4 ≤ 2 := (by omega); have e4 : IntKind.i64.wrap (1 + r4) = 1 + r4 := (IntWalk.i64_in _ (by omega)); have HL4 := Lib.hid (HLF.out.step hg hst4); have HT4 := Lib.hid (HTF.out.trans hst4); have hz4 : (w3.alloc (.cells #[.slice none 0 0, .slice none 0 0] 35)).drew.heap.size ≤ w4.heap.size := hst4.2.size; have HD4 := Lib.hid ((MutR.keep HDF.out (hst4.2.block DB HDF.out.lt (fun e => (by have := Option.some.inj e; omega))) : MutR brow 1 4 w4 DB m D)); have HZ4 := Lib.hid (show Has w4 w3.heap.size 35 #[.slice none 0 0, .slice none 0 0] from (hst4.2.block _ HZF.out.lt (fun e => (by have := Option.some.inj e; omega))).trans HZF.out); have hS4 : (w4.cell? ⟨B, 0, none⟩ = some (.slice (some ⟨G1, 0, none⟩) n d1) ∧ w4.cell? ⟨B, 1, none⟩ = some (.slice (some ⟨G2, 0, none⟩) m d2)) := ⟨HL4.out.x0, HL4.out.x1⟩; clear hst4 r40 r41))
            all_goals (go_wp2_with fail; go_meet)
            all_goals first
              | exact StRel.mk HE.out HOK.out HSB.out (fun k => ChR.but HL6.out HT6.out HD6.out HLD.out.1 (by omega) (by omega) (by omega) (by omega) hs2 hg k) (But.of ((Below.refl _ _).alloc (Nat.le_refl _) _)) ((Has.new _ _ _).cell 0) ((Has.new _ _ _).cell 1) (.inr (Nat.le_refl _))
              | exact StRel.mk HE.out HOK.out HSB.out (fun k => ChR.but HL6.out HT6.out HD6.out HLD.out.1 (by omega) (by omega) (by omega) (by omega) hs2 hg k) ((But.refl.set (p := ⟨_, 0, none⟩) rfl _).set (p := ⟨_, 1, none⟩) rfl _) (twice0 _ _ _ _ _ _ c0 c1).1 (twice0 _ _ _ _ _ _ c0 c1).2 (.inl HXL.out)
          case rest =>
            obtain ⟨X, E, kd, c, P1, P2, a1, a2, f1, f2, rfl, rfl, x0, x1, ⟨hlr, htr, hdr⟩, HE, HOK⟩ := hcut
            clear HLE HTE HDE HLF HTF HDF HZF hq3 hS3 hA3
            have HLR := Lib.hid hlr
            have HTR := Lib.hid htr
            have HDR := Lib.hid hdr
            have y0 := hlr.x0
            have y1 := hlr.x1
            have z0 := hlr.fz 0
            have z1 := hlr.fz 1
            by_cases he : E = 0
            · subst he
              obtain ⟨K1, K2, rfl, rfl, rfl, rfl, hr⟩ := HOK.out rfl
              as_aux_lemma =>
              have hE := HE.out.symm
              have hld2 := sta_led HLD.out hE
              have hk := rd_lo hr hld2.1
              have HLS := Lib.hid ((HoL.mk2 (w := wc) (d1 := f1) (d2 := f2) (n := n) (m := m) (by rw [y0]; simp) (by rw [y1]; simp) hlr.fz hlr.lB (hr.low (by omega)) (by omega) (by omega) ((beg_len l q kd c).1.trans hlr.hn) ((beg_len l q kd c).2.trans hlr.hm)).far (p := ⟨DB, q, none⟩) (by simp only; omega) (by simp only; omega) (by simp only; omega) (.bool false))
              have HTS := Lib.hid (((htr.set (p := ⟨B, 0, none⟩) hlr.lB hgw (.slice (some ⟨K1, 0, none⟩) n f1)).set (p := ⟨B, 1, none⟩) hlr.lB hgw (.slice (some ⟨K2, 0, none⟩) m f2)).set (p := ⟨DB, q, none⟩) (by simp only; omega) hgw (.bool false))
              have hdl : q < D.length := by rw [HDA.out.1, hlr.hm]; exact hq
              have HDS := Lib.hid (putB ((hdr.far (p := ⟨B, 0, none⟩) (by simp only; omega) (.slice (some ⟨K1, 0, none⟩) n f1)).far (p := ⟨B, 1, none⟩) (by simp only; omega) (.slice (some ⟨K2, 0, none⟩) m f2)) hdl false)
              have HDA2 := Lib.hid (didA_beg HDA.out (q := q) (by rw [hlr.hm]; exact hq) kd c)
              have HLD2 := Lib.hid hld2
              have HNE2 : Hid (K1 ≠ DB ∧ K2 ≠ DB) := Lib.hid (by omega)
              have hd2 : ((0 : Int) == 0) = true := rfl
              have v0 := cellB hdr hdl
              have v1 := MutR.frozen hdr q
              have q0 : (0 : Int) ≤ (q : Int) := by omega
              have q1 : (q : Int) < (m : Int) := by omega
              have nb : ¬ DB = B := by omega
              have nb2 : ¬ B = DB := by omega
              have v0a : ((wc.setCell ⟨B, 0, none⟩ (.slice (some ⟨K1, 0, none⟩) n f1)).setCell ⟨B, 1, none⟩ (.slice (some ⟨K2, 0, none⟩) m f2)).cell? ⟨DB, q, none⟩ = some (.bool (D.getD q false)) := cellB ((hdr.far (p := ⟨B, 0, none⟩) (by simp only; omega) (.slice (some ⟨K1, 0, none⟩) n f1)).far (p := ⟨B, 1, none⟩) (by simp only; omega) (.slice (some ⟨K2, 0, none⟩) m f2)) hdl
              clear hr hE hld2 hk hlr htr hdr HOK HE hdl
              generalize D.getD q false = dq at *
              go_wp2_with fail
              exact ⟨⟨begV l q kd c, i + 1, K1, K2, f1, f2, D.set q false, by go_num, hlt, HLS.out, HLD2, HTS.out, HDS.out, HDA2, HNE2⟩, by simp [intOf]; omega⟩
            · have hd2 : (E == 0) = false := by simpa using he
              clear he hlr htr hdr HOK HE
              go_wp2_with fail
              exact ⟨⟨l, i + 1, G1, G2, d1, d2, D, by go_num, hlt, HLR.out, HLD, HTR.out, HDR.out, HDA, HNE⟩, by simp [intOf]; omega⟩
        | false =>
          have HSP := Lib.hid (step_any ⟨G1, 0, none⟩ ⟨G2, 0, none⟩ l (q : Int) n m d1 d2 w3 HL3.out.hn HL3.out.hm (HL3.out.rd.low (Nat.zero_le _)) HLD.out.1)
          have y0 := HL3.out.x0
          have y1 := HL3.out.x1
          have hql : q < l.ps.length := by rw [HL3.out.hm]; exact hq
          have HQL := Lib.hid hql
          clear hql
          go_wp2_with fail
          refine (HSP.out).mono ?_
          rintro e w4 ⟨K1, K2, f1, f2, rfl, hr4, hb4⟩
          have hstp : stpO l (q : Int) = stepV l q := by unfold stpO; rw [if_pos ⟨by omega, by have := HQL.out; omega⟩, Int.toNat_natCast]
          rw [hstp] at hr4 ⊢
          obtain ⟨l2, hl2⟩ : ∃ l2, l2 = (stepV l q).getD l := ⟨_, rfl⟩
          obtain ⟨b, hbe⟩ : ∃ b, b = (stepV l q).isSome := ⟨_, rfl⟩
          have hld2 : Led l2 := by rw [hl2, ← hstp]; exact getD_led HLD.out _
          have hln2 : l2.cs.length = n ∧ l2.ps.length = m := by
            have := getD_len HLD.out.1 (q : Int)
            rw [hstp, ← hl2, HL3.out.hn, HL3.out.hm] at this
            exact this
          rw [← hl2] at hr4
          rw [← hbe]
          have HCS : Hid ((b = false ∧ l2 = l) ∨ (b = true ∧ stepV l q = some l2)) := Lib.hid (by
            rw [hbe, hl2]
            cases stepV l q with
            | none => exact .inl ⟨rfl, rfl⟩
            | some x => exact .inr ⟨rfl, rfl⟩)
          have hba := (Below.refl w4.heap.size w4).alloc (Nat.le_refl _) (.cells #[.slice (some ⟨K1, 0, none⟩) n f1, .slice (some ⟨K2, 0, none⟩) m f2] 35)
          have hb4a := hb4.trans (hba.mono hb4.size)
          have HLV := Lib.hid (HL3.out.below hb4a)
          have HTV := Lib.hid (HT3.out.below hb4a)
          have HDV := Lib.hid (MutR.below HD3.out hb4a)
          have HXV := Lib.hid (HoL.new (d1 := f1) (d2 := f2) (t := 35) (n := n) (m := m) hr4 hld2.1 hb4.size hln2.1 hln2.2)
          have hXX : w3.heap.size ≤ w4.heap.size := hb4.size
          have hsV : (w4.alloc (.cells #[.slice (some ⟨K1, 0, none⟩) n f1, .slice (some ⟨K2, 0, none⟩) m f2] 35)).heap.size = w4.heap.size + 1 := World.size_alloc _ _
          have HLD2 := Lib.hid hld2
          have HLN2 := Lib.hid hln2
          clear hl2 hbe hstp hld2 hln2 hba hb4a hr4 hb4 y0 y1
          go_upto_region 15 with fail
          generalize w4.alloc (.cells #[.slice (some ⟨K1, 0, none⟩) n f1, .slice (some ⟨K2, 0, none⟩) m f2] 35) = V at *
          obtain ⟨X, hX⟩ : ∃ X, X = w4.heap.size := ⟨_, rfl⟩
          rw [← hX] at HXV hXX hsV ⊢
          clear hX
          have y0 := HLV.out.x0
          have y1 := HLV.out.x1
          have y2 := HXV.out.x0
          have y3 := HXV.out.x1
          have hmm : ((m : Int) != (m : Int)) = false := by simp
          go_upto_region 17 with fail
          have hVd : Below V.heap.size V V.drew := (Below.refl _ _).drew
          have HMB1 := Lib.hid (Members_any (some ⟨G1, 0, none⟩) (some ⟨G2, 0, none⟩) l n m d1 d2 V.drew HLV.out.hn HLV.out.hm ((HLV.out.below hVd).rd.low (Nat.zero_le _)))
          have HMB2 := Lib.hid (fun (W : World) (k : Below V.heap.size V W) => Members_any (some ⟨K1, 0, none⟩) (some ⟨K2, 0, none⟩) l2 n m f1 f2 W HXV.out.hn HXV.out.hm ((HXV.out.below k).rd.low (Nat.zero_le _)))
          have hS3 : (V.drew.cell? ⟨B, 0, none⟩ = some (.slice (some ⟨G1, 0, none⟩) n d1) ∧ V.drew.cell? ⟨B, 1, none⟩ = some (.slice (some ⟨G2, 0, none⟩) m d2) ∧ V.drew.cell? ⟨X, 0, none⟩ = some (.slice (some ⟨K1, 0, none⟩) n f1) ∧ V.drew.cell? ⟨X, 1, none⟩ = some (.slice (some ⟨K2, 0, none⟩) m f2)) := ⟨y0, y1, y2, y3⟩
          have HVT : Hid (vldB l = true ∧ vldB l2 = true) := Lib.hid ⟨vldB_yes HLD.out.1, vldB_yes HLD2.out.1⟩
          clear y0 y1 y2 y3 hmm
          go_region_held3 (fun W => W.cell? ⟨B, 0, none⟩ = some (.slice (some ⟨G1, 0, none⟩) n d1) ∧ W.cell? ⟨B, 1, none⟩ = some (.slice (some ⟨G2, 0, none⟩) m d2) ∧ W.cell? ⟨X, 0, none⟩ = some (.slice (some ⟨K1, 0, none⟩) n f1) ∧ W.cell? ⟨X, 1, none⟩ = some (.slice (some ⟨K2, 0, none⟩) m f2))
            (first | with_reducible exact hS6 | with_reducible exact hS5 | with_reducible exact hS3 | with_reducible assumption)
            (first | (go_at_call 24; (with_reducible refine (HMB2.out w5 hb5v).mono ?_); rw [HVT.out.2, if_pos rfl]; rintro e w6 ⟨A6, k6, c6, rfl, hk6, -, -, hr6, hb6⟩; have hb6v := hb5v.trans (hb6.mono hb5v.size); have hS6 : (w6.cell? ⟨B, 0, none⟩ = some (.slice (some ⟨G1, 0, none⟩) n d1) ∧ w6.cell? ⟨B, 1, none⟩ = some (.slice (some ⟨G2, 0, none⟩) m d2) ∧ w6.cell? ⟨X, 0, none⟩ = some (.slice (some ⟨K1, 0, none⟩) n f1) ∧ w6.cell? ⟨X, 1, none⟩ = some (.slice (some ⟨K2, 0, none⟩) m f2)) := ⟨(HLV.out.below hb6v).x0, (HLV.out.below hb6v).x1, (HXV.out.below hb6v).x0, (HXV.out.below hb6v).x1⟩) | (go_at_call 24; (with_reducible refine HMB1.out.mono ?_); rw [HVT.out.1, if_pos rfl]; rintro e w5 ⟨A5, k5, c5, rfl, hk5, -, -, hr5, hb5⟩; have hb5v : Below V.heap.size V w5 := hVd.trans hb5; have hS5 : (w5.cell? ⟨B, 0, none⟩ = some (.slice (some ⟨G1, 0, none⟩) n d1) ∧ w5.cell? ⟨B, 1, none⟩ = some (.slice (some ⟨G2, 0, none⟩) m d2) ∧ w5.cell? ⟨X, 0, none⟩ = some (.slice (some ⟨K1, 0, none⟩) n f1) ∧ w5.cell? ⟨X, 1, none⟩ = some (.slice (some ⟨K2, 0, none⟩) m f2)) := ⟨(HLV.out.below (hVd.trans hb5)).x0, (HLV.out.below (hVd.trans hb5)).x1, (HXV.out.below (hVd.trans hb5)).x0, (HXV.out.below (hVd.trans hb5)).x1⟩))
          have HL6 := Lib.hid (HLV.out.below hb6v)
          have HX6 := Lib.hid (HXV.out.below hb6v)
          have HT6 := Lib.hid (HTV.out.below hb6v)
          have HD6 := Lib.hid (MutR.below HDV.out hb6v)
          have HO5 := Lib.hid (RdR.below (RdR.low hr5 (Nat.zero_le _)) hb6)
          have HO6 := Lib.hid (RdR.low hr6 (Nat.zero_le _))
          have HK5 := Lib.hid hk5
          have HK6 := Lib.hid hk6
          have hk56 : k5 ≤ 66 ∧ k6 ≤ 66 := by
            have h1 := memV_len l
            have h2 := memV_len l2
            have h3 := HLD.out.1.n66
            have h4 := HLD2.out.1.n66
            rw [← hk5, ← hk6, nat2_len, nat2_len]
            omega
          have h6s := hb6v.size
          clear hS3 hS5 hS6 hr5 hr6 hk5 hk6 hb5 hb5v hb6 hb6v hVd HMB1 HMB2 HLV HXV HTV HDV HSP HL3 HT3 HD3
          have y0 := HL6.out.x0
          have y1 := HL6.out.x1
          obtain ⟨bq, oq, eq, -, -, p0, p1, p2, p3, p4, p5, p6⟩ := HL6.out.rd.proc (i := q) HQL.out
          injection eq with eq
          injection eq with eq1 eq2 _
          subst eq1 eq2
          rw [Nat.zero_add] at p0 p1 p2 p3 p4 p5 p6
          have q0 : (0 : Int) ≤ (q : Int) := by omega
          have q1 : (q : Int) < (m : Int) := by omega
          have hpc : 0 ≤ (l.pr q).cell := (HLD.out.1.ce q HQL.out).1
          obtain ⟨P, hP⟩ : ∃ P, P = l.pr q := ⟨_, rfl⟩
          rw [← hP] at p0 p1 p2 p3 p4 p5 p6 hpc
          have HP := Lib.hid hP
          obtain ⟨pk, pc, pp, pd, ps, pn, pr⟩ := P
          simp only at p0 p1 p2 p3 p4 p5 p6 hpc
          clear hP
          go_upto_region 19 with fail
          have hPb := (Below.refl w6.heap.size w6).alloc (Nat.le_refl _) (.cells #[.int .i64 pk, .int .i64 pc, .int .i64 pp, .int .i64 pd, .int .i64 ps, .int .i64 pn, .bool pr] 52)
          have HL7 := Lib.hid (HL6.out.below hPb)
          have HX7 := Lib.hid (HX6.out.below hPb)
          have HT7 := Lib.hid (HT6.out.below hPb)
          have HD7 := Lib.hid (MutR.below HD6.out hPb)
          have HO57 := Lib.hid (RdR.below HO5.out hPb)
          have HO67 := Lib.hid (RdR.below HO6.out hPb)
          have HPX := Lib.hid (Has.new w6 52 #[.int .i64 pk, .int .i64 pc, .int .i64 pp, .int .i64 pd, .int .i64 ps, .int .i64 pn, .bool pr])
          have hs7 : (w6.alloc (.cells #[.int .i64 pk, .int .i64 pc, .int .i64 pp, .int .i64 pd, .int .i64 ps, .int .i64 pn, .bool pr] 52)).heap.size = w6.heap.size + 1 := World.size_alloc _ _
          clear hPb HL6 HX6 HT6 HD6 HO5 HO6 p0 p1 p2 p3 p4 p5 p6 y0 y1
          generalize w6.alloc (.cells #[.int .i64 pk, .int .i64 pc, .int .i64 pp, .int .i64 pd, .int .i64 ps, .int .i64 pn, .bool pr] 52) = V7 at *
          have u1 := HPX.out.cell 1
          have u2 := HPX.out.cell 2
          have hcell : (l.pr q).cell = pc := by rw [← HP.out]
          have hphase : (l.pr q).phase = pp := by rw [← HP.out]
          have HCE := Lib.hid hcell
          have HPH := Lib.hid hphase
          have hdl : q < D.length := by rw [HDA.out.1]; exact HQL.out
          have HDL := Lib.hid hdl
          clear hcell hphase hdl HP
          rcases HCS.out with ⟨e1, e2⟩ | ⟨e1, e2⟩
          · subst e1
            as_aux_lemma =>
            have HM := Lib.hid (show memV l2 = memV l by rw [e2])
            have HDA2 := Lib.hid (show DidA l2 D by rw [e2]; exact HDA.out)
            clear e2 HCS
            have hk : k6 = k5 := by rw [← HK6.out, ← HK5.out, HM.out]
            subst hk
            go_wp2_with fail
            refine (rsameInts_self A5 A6 (nat2 (memV l)) k6 c5 c6 0 0 V7 HK5.out HO57.out (by have := HO67.out; rw [HM.out] at this; exact this) (by omega)).mono ?_
            rintro e w8 ⟨rfl, hb8⟩
            have HL8 := Lib.hid (HL7.out.below hb8)
            have HX8 := Lib.hid (HX7.out.below hb8)
            have HT8 := Lib.hid (HT7.out.below hb8)
            have HD8 := Lib.hid (MutR.below HD7.out hb8)
            clear hb8 u1 u2 HL7 HX7 HT7 HD7
            have HDL2 : Hid (q < (D).length) := Lib.hid (by exact HDL.out)
            obtain ⟨bx, ox, ex, -, -, g0, g1, g2, g3, g4, g5, g6⟩ := HX8.out.rd.proc (i := q) (by rw [HLN2.out.2]; exact hq)
            injection ex with ex
            injection ex with ex1 ex2 _
            subst ex1 ex2
            rw [Nat.zero_add] at g0 g1 g2 g3 g4 g5 g6
            have y2 := HX8.out.x0
            have y3 := HX8.out.x1
            have hen := did_end (HDA2.out.2 q (by rw [HLN2.out.2]; exact hq))
            obtain ⟨Y, hY⟩ : ∃ Y, Y = l2.pr q := ⟨_, rfl⟩
            rw [← hY] at g0 g1 g2 g3 g4 g5 g6 hen
            clear hY
            obtain ⟨yk, yc, yp, yd, ys, yn, yr⟩ := Y
            simp only at g0 g1 g2 g3 g4 g5 g6 hen
            obtain ⟨dq, hdq⟩ : ∃ dq, dq = (D).getD q false := ⟨_, rfl⟩
            rw [← hdq] at hen
            have HDQ := Lib.hid hdq
            have HEN := Lib.hid hen
            clear hdq hen
            go_upto_region 30 with fail
            have hYb := (Below.refl (w8).heap.size w8).alloc (Nat.le_refl _) (.cells #[.int .i64 yk, .int .i64 yc, .int .i64 yp, .int .i64 yd, .int .i64 ys, .int .i64 yn, .bool yr] 52)
            have HL9 := Lib.hid (HL8.out.below hYb)
            have HX9 := Lib.hid (HX8.out.below hYb)
            have HT9 := Lib.hid (HT8.out.below hYb)
            have HD9 := Lib.hid (MutR.below HD8.out hYb)
            have HYX := Lib.hid (Has.new (w8) 52 #[.int .i64 yk, .int .i64 yc, .int .i64 yp, .int .i64 yd, .int .i64 ys, .int .i64 yn, .bool yr])
            clear hYb g0 g1 g2 g3 g4 g5 g6 y2 y3 HL8 HX8 HT8 HD8
            generalize (w8).alloc (.cells #[.int .i64 yk, .int .i64 yc, .int .i64 yp, .int .i64 yd, .int .i64 ys, .int .i64 yn, .bool yr] 52) = V9 at *
            have j0 := HYX.out.cell 0
            have j2 := HYX.out.cell 2
            have j6 := HYX.out.cell 6
            have y0 := HL9.out.x0
            have y1 := HL9.out.x1
            have z0 := HL9.out.fz 0
            have z1 := HL9.out.fz 1
            have y2 := HX9.out.x0
            have y3 := HX9.out.x1
            have v0 := cellB HD9.out HDL2.out
            rw [← HDQ.out] at v0
            have hlo9 := rd_lo HX9.out.rd HLD2.out.1
            have HNE2 : Hid (K1 ≠ DB ∧ K2 ≠ DB) := Lib.hid (by omega)
            have HFN : Hid (∀ nq, HoL (((V9.drewN nq).setCell ⟨B, 0, none⟩ (.slice (some ⟨K1, 0, none⟩) n f1)).setCell ⟨B, 1, none⟩ (.slice (some ⟨K2, 0, none⟩) m f2)) B w1.heap.size l2 n m K1 K2 f1 f2 ∧ TStep w1 g (((V9.drewN nq).setCell ⟨B, 0, none⟩ (.slice (some ⟨K1, 0, none⟩) n f1)).setCell ⟨B, 1, none⟩ (.slice (some ⟨K2, 0, none⟩) m f2)) ∧ MutR brow 1 4 (((V9.drewN nq).setCell ⟨B, 0, none⟩ (.slice (some ⟨K1, 0, none⟩) n f1)).setCell ⟨B, 1, none⟩ (.slice (some ⟨K2, 0, none⟩) m f2)) DB m (D)) := Lib.hid (fun nq => by
              have hbd : Below V9.heap.size V9 (V9.drewN nq) := below_drw (Below.refl _ _) nq
              have hl := HL9.out.below hbd
              exact ⟨HoL.mk2 (by rw [hl.x0]; simp) (by rw [hl.x1]; simp) hl.fz hl.lB (((HX9.out.below hbd).rd).low (by omega)) (by omega) (by omega) HLN2.out.1 HLN2.out.2, ((HT9.out.below hbd).set (p := ⟨B, 0, none⟩) hl.lB hgw _).set (p := ⟨B, 1, none⟩) hl.lB hgw _, ((MutR.below HD9.out hbd).far (p := ⟨B, 0, none⟩) (by simp only; omega) _).far (p := ⟨B, 1, none⟩) (by simp only; omega) _⟩)
            clear hlo9
            go_cut [172] (fun s wx => s = .bool false ∧ ∃ nq, wx = V9.drewN nq)
            case first =>
              as_aux_lemma =>
              by_cases e18 : yp = 18
              · subst e18
                have hy18 : ((18 : Int) == 18) = true := rfl
                by_cases e3 : yk = 3
                · subst e3
                  have hy3 : ((3 : Int) != 3) = false := rfl
                  clear HEN
                  go_quiet (fail)
                  go_wp2_with fail
                  go_meet
                  exact ⟨rfl, _, rfl⟩
                · have hrd := HEN.out rfl e3
                  subst hrd
                  have hy3 : (yk != 3) = true := by simpa using e3
                  have hyr : (yr != yr) = false := by simp
                  clear HEN e3
                  go_quiet (fail)
                  go_wp2_with fail
                  go_meet
                  exact ⟨rfl, _, rfl⟩
              · have hy18 : (yp == 18) = false := by simpa using e18
                clear HEN e18
                go_quiet (fail)
                go_wp2_with fail
                go_meet
                exact ⟨rfl, _, rfl⟩
            case rest =>
            obtain ⟨rfl, nq, rfl⟩ := hcut
            go_wp2_with fail
            exact ⟨⟨l2, i + 1, K1, K2, f1, f2, D, by go_num, hlt, (HFN.out nq).1, HLD2, (HFN.out nq).2.1, (HFN.out nq).2.2, HDA2, HNE2⟩, by simp [intOf]; omega⟩
          · subst e1
            as_aux_lemma =>
            have HE2 := Lib.hid e2
            clear e2 HCS
            by_cases h7 : pp = 7
            · subst h7
              as_aux_lemma =>
              have e7 := mem_step7 HLD.out HQL.out HE2.out HPH.out
              rw [HCE.out] at e7
              have HE7 := Lib.hid e7
              have HDA2 := Lib.hid (didA_mark HLD.out.1 HDA.out HQL.out HE2.out (.inl HPH.out))
              have hkk : ((k6 : Int) != (k5 : Int) + 1) = false := by have := e7.2.2.1; rw [← nat2_len, ← nat2_len, HK5.out, HK6.out] at this; simp; omega
              have hw5 : IntKind.i64.wrap ((k5 : Int) + 1) = (k5 : Int) + 1 := IntWalk.i64_in _ (by omega)
              have hd7 : ((7 : Int) == 7) = true := rfl
              clear e7
              go_wp2_with fail
              refine (has_any A5 (nat2 (memV l)) k5 c5 0 pc V7 HK5.out HO57.out (by omega)).mono ?_
              rintro e w' ⟨rfl, rfl⟩
              rw [has_decI _ hpc, decide_eq_false HE7.out.1]
              go_wp2_with fail
              refine (has_any A6 (nat2 (memV l2)) k6 c6 0 pc V7 HK6.out HO67.out (by omega)).mono ?_
              rintro e w' ⟨rfl, rfl⟩
              rw [has_decI _ hpc, decide_eq_true HE7.out.2.1]
              have v0 := cellB HD7.out HDL.out
              have v1 := MutR.frozen HD7.out q
              obtain ⟨dz, hdz⟩ : ∃ dz, dz = D.getD q false := ⟨_, rfl⟩
              rw [← hdz] at v0
              clear hdz
              have hlx := rd_lo HX7.out.rd HLD2.out.1
              have HL8 := Lib.hid (HL7.out.far (p := ⟨DB, q, none⟩) (by simp only; omega) (fun e => HNE.out.1 e.symm) (fun e => HNE.out.2 e.symm) (.bool true))
              have HX8 := Lib.hid (HX7.out.far (p := ⟨DB, q, none⟩) (by simp only; omega) (by simp only; omega) (by simp only; omega) (.bool true))
              have HT8 := Lib.hid (HT7.out.set (p := ⟨DB, q, none⟩) (by simp only; omega) hgw (.bool true))
              have HD8 := Lib.hid (putB HD7.out HDL.out true)
              clear hlx
              go_upto_region 29 with fail
              clear v0 v1 u1 u2 HL7 HX7 HT7 HD7
              generalize V7.setCell ⟨DB, q, none⟩ (.bool true) = V8 at *
              have HDL2 : Hid (q < (D.set q true).length) := Lib.hid (by rw [List.length_set]; exact HDL.out)
              obtain ⟨bx, ox, ex, -, -, g0, g1, g2, g3, g4, g5, g6⟩ := HX8.out.rd.proc (i := q) (by rw [HLN2.out.2]; exact hq)
              injection ex with ex
              injection ex with ex1 ex2 _
              subst ex1 ex2
              rw [Nat.zero_add] at g0 g1 g2 g3 g4 g5 g6
              have y2 := HX8.out.x0
              have y3 := HX8.out.x1
              have hen := did_end (HDA2.out.2 q (by rw [HLN2.out.2]; exact hq))
              obtain ⟨Y, hY⟩ : ∃ Y, Y = l2.pr q := ⟨_, rfl⟩
              rw [← hY] at g0 g1 g2 g3 g4 g5 g6 hen
              clear hY
              obtain ⟨yk, yc, yp, yd, ys, yn, yr⟩ := Y
              simp only at g0 g1 g2 g3 g4 g5 g6 hen
              obtain ⟨dq, hdq⟩ : ∃ dq, dq = (D.set q true).getD q false := ⟨_, rfl⟩
              rw [← hdq] at hen
              have HDQ := Lib.hid hdq
              have HEN := Lib.hid hen
              clear hdq hen
              go_upto_region 30 with fail
              have hYb := (Below.refl (V8).heap.size V8).alloc (Nat.le_refl _) (.cells #[.int .i64 yk, .int .i64 yc, .int .i64 yp, .int .i64 yd, .int .i64 ys, .int .i64 yn, .bool yr] 52)
              have HL9 := Lib.hid (HL8.out.below hYb)
              have HX9 := Lib.hid (HX8.out.below hYb)
              have HT9 := Lib.hid (HT8.out.below hYb)
              have HD9 := Lib.hid (MutR.below HD8.out hYb)
              have HYX := Lib.hid (Has.new (V8) 52 #[.int .i64 yk, .int .i64 yc, .int .i64 yp, .int .i64 yd, .int .i64 ys, .int .i64 yn, .bool yr])
              clear hYb g0 g1 g2 g3 g4 g5 g6 y2 y3 HL8 HX8 HT8 HD8
              generalize (V8).alloc (.cells #[.int .i64 yk, .int .i64 yc, .int .i64 yp, .int .i64 yd, .int .i64 ys, .int .i64 yn, .bool yr] 52) = V9 at *
              have j0 := HYX.out.cell 0
              have j2 := HYX.out.cell 2
              have j6 := HYX.out.cell 6
              have y0 := HL9.out.x0
              have y1 := HL9.out.x1
              have z0 := HL9.out.fz 0
              have z1 := HL9.out.fz 1
              have y2 := HX9.out.x0
              have y3 := HX9.out.x1
              have v0 := cellB HD9.out HDL2.out
              rw [← HDQ.out] at v0
              have hlo9 := rd_lo HX9.out.rd HLD2.out.1
              have HNE2 : Hid (K1 ≠ DB ∧ K2 ≠ DB) := Lib.hid (by omega)
              have HFN : Hid (∀ nq, HoL (((V9.drewN nq).setCell ⟨B, 0, none⟩ (.slice (some ⟨K1, 0, none⟩) n f1)).setCell ⟨B, 1, none⟩ (.slice (some ⟨K2, 0, none⟩) m f2)) B w1.heap.size l2 n m K1 K2 f1 f2 ∧ TStep w1 g (((V9.drewN nq).setCell ⟨B, 0, none⟩ (.slice (some ⟨K1, 0, none⟩) n f1)).setCell ⟨B, 1, none⟩ (.slice (some ⟨K2, 0, none⟩) m f2)) ∧ MutR brow 1 4 (((V9.drewN nq).setCell ⟨B, 0, none⟩ (.slice (some ⟨K1, 0, none⟩) n f1)).setCell ⟨B, 1, none⟩ (.slice (some ⟨K2, 0, none⟩) m f2)) DB m (D.set q true)) := Lib.hid (fun nq => by
                have hbd : Below V9.heap.size V9 (V9.drewN nq) := below_drw (Below.refl _ _) nq
                have hl := HL9.out.below hbd
                exact ⟨HoL.mk2 (by rw [hl.x0]; simp) (by rw [hl.x1]; simp) hl.fz hl.lB (((HX9.out.below hbd).rd).low (by omega)) (by omega) (by omega) HLN2.out.1 HLN2.out.2, ((HT9.out.below hbd).set (p := ⟨B, 0, none⟩) hl.lB hgw _).set (p := ⟨B, 1, none⟩) hl.lB hgw _, ((MutR.below HD9.out hbd).far (p := ⟨B, 0, none⟩) (by simp only; omega) _).far (p := ⟨B, 1, none⟩) (by simp only; omega) _⟩)
              clear hlo9
              go_cut [172] (fun s wx => s = .bool false ∧ ∃ nq, wx = V9.drewN nq)
              case first =>
                as_aux_lemma =>
                by_cases e18 : yp = 18
                · subst e18
                  have hy18 : ((18 : Int) == 18) = true := rfl
                  by_cases e3 : yk = 3
                  · subst e3
                    have hy3 : ((3 : Int) != 3) = false := rfl
                    clear HEN
                    go_quiet (fail)
                    go_wp2_with fail
                    go_meet
                    exact ⟨rfl, _, rfl⟩
                  · have hrd := HEN.out rfl e3
                    subst hrd
                    have hy3 : (yk != 3) = true := by simpa using e3
                    have hyr : (yr != yr) = false := by simp
                    clear HEN e3
                    go_quiet (fail)
                    go_wp2_with fail
                    go_meet
                    exact ⟨rfl, _, rfl⟩
                · have hy18 : (yp == 18) = false := by simpa using e18
                  clear HEN e18
                  go_quiet (fail)
                  go_wp2_with fail
                  go_meet
                  exact ⟨rfl, _, rfl⟩
              case rest =>
              obtain ⟨rfl, nq, rfl⟩ := hcut
              go_wp2_with fail
              exact ⟨⟨l2, i + 1, K1, K2, f1, f2, D.set q true, by go_num, hlt, (HFN.out nq).1, HLD2, (HFN.out nq).2.1, (HFN.out nq).2.2, HDA2, HNE2⟩, by simp [intOf]; omega⟩
            · by_cases h10 : pp = 10
              · subst h10
                as_aux_lemma =>
                have e7 := mem_step10 HLD.out HQL.out HE2.out HPH.out
                rw [HCE.out] at e7
                have HE7 := Lib.hid e7
                have HDA2 := Lib.hid (didA_mark HLD.out.1 HDA.out HQL.out HE2.out (.inr HPH.out))
                have hkk : ((k6 : Int) != (k5 : Int) - 1) = false := by have := e7.2.2.1; rw [← nat2_len, ← nat2_len, HK5.out, HK6.out] at this; simp; omega
                have hw5 : IntKind.i64.wrap ((k5 : Int) - 1) = (k5 : Int) - 1 := IntWalk.i64_in _ (by omega)
                have hd7 : ((10 : Int) == 7) = false := rfl
                have hd10 : ((10 : Int) == 10) = true := rfl
                clear e7 h7
                go_wp2_with fail
                refine (has_any A5 (nat2 (memV l)) k5 c5 0 pc V7 HK5.out HO57.out (by omega)).mono ?_
                rintro e w' ⟨rfl, rfl⟩
                rw [has_decI _ hpc, decide_eq_true HE7.out.1]
                go_wp2_with fail
                refine (has_any A6 (nat2 (memV l2)) k6 c6 0 pc V7 HK6.out HO67.out (by omega)).mono ?_
                rintro e w' ⟨rfl, rfl⟩
                rw [has_decI _ hpc, decide_eq_false HE7.out.2.1]
                have v0 := cellB HD7.out HDL.out
                have v1 := MutR.frozen HD7.out q
                obtain ⟨dz, hdz⟩ : ∃ dz, dz = D.getD q false := ⟨_, rfl⟩
                rw [← hdz] at v0
                clear hdz
                have hlx := rd_lo HX7.out.rd HLD2.out.1
                have HL8 := Lib.hid (HL7.out.far (p := ⟨DB, q, none⟩) (by simp only; omega) (fun e => HNE.out.1 e.symm) (fun e => HNE.out.2 e.symm) (.bool true))
                have HX8 := Lib.hid (HX7.out.far (p := ⟨DB, q, none⟩) (by simp only; omega) (by simp only; omega) (by simp only; omega) (.bool true))
                have HT8 := Lib.hid (HT7.out.set (p := ⟨DB, q, none⟩) (by simp only; omega) hgw (.bool true))
                have HD8 := Lib.hid (putB HD7.out HDL.out true)
                clear hlx
                go_upto_region 29 with fail
                clear v0 v1 u1 u2 HL7 HX7 HT7 HD7
                generalize V7.setCell ⟨DB, q, none⟩ (.bool true) = V8 at *
                have HDL2 : Hid (q < (D.set q true).length) := Lib.hid (by rw [List.length_set]; exact HDL.out)
                obtain ⟨bx, ox, ex, -, -, g0, g1, g2, g3, g4, g5, g6⟩ := HX8.out.rd.proc (i := q) (by rw [HLN2.out.2]; exact hq)
                injection ex with ex
                injection ex with ex1 ex2 _
                subst ex1 ex2
                rw [Nat.zero_add] at g0 g1 g2 g3 g4 g5 g6
                have y2 := HX8.out.x0
                have y3 := HX8.out.x1
                have hen := did_end (HDA2.out.2 q (by rw [HLN2.out.2]; exact hq))
                obtain ⟨Y, hY⟩ : ∃ Y, Y = l2.pr q := ⟨_, rfl⟩
                rw [← hY] at g0 g1 g2 g3 g4 g5 g6 hen
                clear hY
                obtain ⟨yk, yc, yp, yd, ys, yn, yr⟩ := Y
                simp only at g0 g1 g2 g3 g4 g5 g6 hen
                obtain ⟨dq, hdq⟩ : ∃ dq, dq = (D.set q true).getD q false := ⟨_, rfl⟩
                rw [← hdq] at hen
                have HDQ := Lib.hid hdq
                have HEN := Lib.hid hen
                clear hdq hen
                go_upto_region 30 with fail
                have hYb := (Below.refl (V8).heap.size V8).alloc (Nat.le_refl _) (.cells #[.int .i64 yk, .int .i64 yc, .int .i64 yp, .int .i64 yd, .int .i64 ys, .int .i64 yn, .bool yr] 52)
                have HL9 := Lib.hid (HL8.out.below hYb)
                have HX9 := Lib.hid (HX8.out.below hYb)
                have HT9 := Lib.hid (HT8.out.below hYb)
                have HD9 := Lib.hid (MutR.below HD8.out hYb)
                have HYX := Lib.hid (Has.new (V8) 52 #[.int .i64 yk, .int .i64 yc, .int .i64 yp, .int .i64 yd, .int .i64 ys, .int .i64 yn, .bool yr])
                clear hYb g0 g1 g2 g3 g4 g5 g6 y2 y3 HL8 HX8 HT8 HD8
                generalize (V8).alloc (.cells #[.int .i64 yk, .int .i64 yc, .int .i64 yp, .int .i64 yd, .int .i64 ys, .int .i64 yn, .bool yr] 52) = V9 at *
                have j0 := HYX.out.cell 0
                have j2 := HYX.out.cell 2
                have j6 := HYX.out.cell 6
                have y0 := HL9.out.x0
                have y1 := HL9.out.x1
                have z0 := HL9.out.fz 0
                have z1 := HL9.out.fz 1
                have y2 := HX9.out.x0
                have y3 := HX9.out.x1
                have v0 := cellB HD9.out HDL2.out
                rw [← HDQ.out] at v0
                have hlo9 := rd_lo HX9.out.rd HLD2.out.1
                have HNE2 : Hid (K1 ≠ DB ∧ K2 ≠ DB) := Lib.hid (by omega)
                have HFN : Hid (∀ nq, HoL (((V9.drewN nq).setCell ⟨B, 0, none⟩ (.slice (some ⟨K1, 0, none⟩) n f1)).setCell ⟨B, 1, none⟩ (.slice (some ⟨K2, 0, none⟩) m f2)) B w1.heap.size l2 n m K1 K2 f1 f2 ∧ TStep w1 g (((V9.drewN nq).setCell ⟨B, 0, none⟩ (.slice (some ⟨K1, 0, none⟩) n f1)).setCell ⟨B, 1, none⟩ (.slice (some ⟨K2, 0, none⟩) m f2)) ∧ MutR brow 1 4 (((V9.drewN nq).setCell ⟨B, 0, none⟩ (.slice (some ⟨K1, 0, none⟩) n f1)).setCell ⟨B, 1, none⟩ (.slice (some ⟨K2, 0, none⟩) m f2)) DB m (D.set q true)) := Lib.hid (fun nq => by
                  have hbd : Below V9.heap.size V9 (V9.drewN nq) := below_drw (Below.refl _ _) nq
                  have hl := HL9.out.below hbd
                  exact ⟨HoL.mk2 (by rw [hl.x0]; simp) (by rw [hl.x1]; simp) hl.fz hl.lB (((HX9.out.below hbd).rd).low (by omega)) (by omega) (by omega) HLN2.out.1 HLN2.out.2, ((HT9.out.below hbd).set (p := ⟨B, 0, none⟩) hl.lB hgw _).set (p := ⟨B, 1, none⟩) hl.lB hgw _, ((MutR.below HD9.out hbd).far (p := ⟨B, 0, none⟩) (by simp only; omega) _).far (p := ⟨B, 1, none⟩) (by simp only; omega) _⟩)
                clear hlo9
                go_cut [172] (fun s wx => s = .bool false ∧ ∃ nq, wx = V9.drewN nq)
                case first =>
                  as_aux_lemma =>
                  by_cases e18 : yp = 18
                  · subst e18
                    have hy18 : ((18 : Int) == 18) = true := rfl
                    by_cases e3 : yk = 3
                    · subst e3
                      have hy3 : ((3 : Int) != 3) = false := rfl
                      clear HEN
                      go_quiet (fail)
                      go_wp2_with fail
                      go_meet
                      exact ⟨rfl, _, rfl⟩
                    · have hrd := HEN.out rfl e3
                      subst hrd
                      have hy3 : (yk != 3) = true := by simpa using e3
                      have hyr : (yr != yr) = false := by simp
                      clear HEN e3
                      go_quiet (fail)
                      go_wp2_with fail
                      go_meet
                      exact ⟨rfl, _, rfl⟩
                  · have hy18 : (yp == 18) = false := by simpa using e18
                    clear HEN e18
                    go_quiet (fail)
                    go_wp2_with fail
                    go_meet
                    exact ⟨rfl, _, rfl⟩
                case rest =>
                obtain ⟨rfl, nq, rfl⟩ := hcut
                go_wp2_with fail
                exact ⟨⟨l2, i + 1, K1, K2, f1, f2, D.set q true, by go_num, hlt, (HFN.out nq).1, HLD2, (HFN.out nq).2.1, (HFN.out nq).2.2, HDA2, HNE2⟩, by simp [intOf]; omega⟩
              · have HM := Lib.hid (mem_step HLD.out.1 HQL.out HE2.out (by rw [HPH.out]; exact h7) (by rw [HPH.out]; exact h10))
                as_aux_lemma =>
                have HDA2 := Lib.hid (didA_same HLD.out.1 HDA.out HQL.out HE2.out (by rw [HPH.out]; exact h7) (by rw [HPH.out]; exact h10))
                have hd7 : (pp == 7) = false := by simpa using h7
                have hd10 : (pp == 10) = false := by simpa using h10
                clear h7 h10
                have hk : k6 = k5 := by rw [← HK6.out, ← HK5.out, HM.out]
                subst hk
                go_wp2_with fail
                refine (rsameInts_self A5 A6 (nat2 (memV l)) k6 c5 c6 0 0 V7 HK5.out HO57.out (by have := HO67.out; rw [HM.out] at this; exact this) (by omega)).mono ?_
                rintro e w8 ⟨rfl, hb8⟩
                have HL8 := Lib.hid (HL7.out.below hb8)
                have HX8 := Lib.hid (HX7.out.below hb8)
                have HT8 := Lib.hid (HT7.out.below hb8)
                have HD8 := Lib.hid (MutR.below HD7.out hb8)
                clear hb8 u1 u2 HL7 HX7 HT7 HD7
                have HDL2 : Hid (q < (D).length) := Lib.hid (by exact HDL.out)
                obtain ⟨bx, ox, ex, -, -, g0, g1, g2, g3, g4, g5, g6⟩ := HX8.out.rd.proc (i := q) (by rw [HLN2.out.2]; exact hq)
                injection ex with ex
                injection ex with ex1 ex2 _
                subst ex1 ex2
                rw [Nat.zero_add] at g0 g1 g2 g3 g4 g5 g6
                have y2 := HX8.out.x0
                have y3 := HX8.out.x1
                have hen := did_end (HDA2.out.2 q (by rw [HLN2.out.2]; exact hq))
                obtain ⟨Y, hY⟩ : ∃ Y, Y = l2.pr q := ⟨_, rfl⟩
                rw [← hY] at g0 g1 g2 g3 g4 g5 g6 hen
                clear hY
                obtain ⟨yk, yc, yp, yd, ys, yn, yr⟩ := Y
                simp only at g0 g1 g2 g3 g4 g5 g6 hen
                obtain ⟨dq, hdq⟩ : ∃ dq, dq = (D).getD q false := ⟨_, rfl⟩
                rw [← hdq] at hen
                have HDQ := Lib.hid hdq
                have HEN := Lib.hid hen
                clear hdq hen
                go_upto_region 30 with fail
                have hYb := (Below.refl (w8).heap.size w8).alloc (Nat.le_refl _) (.cells #[.int .i64 yk, .int .i64 yc, .int .i64 yp, .int .i64 yd, .int .i64 ys, .int .i64 yn, .bool yr] 52)
                have HL9 := Lib.hid (HL8.out.below hYb)
                have HX9 := Lib.hid (HX8.out.below hYb)
                have HT9 := Lib.hid (HT8.out.below hYb)
                have HD9 := Lib.hid (MutR.below HD8.out hYb)
                have HYX := Lib.hid (Has.new (w8) 52 #[.int .i64 yk, .int .i64 yc, .int .i64 yp, .int .i64 yd, .int .i64 ys, .int .i64 yn, .bool yr])
                clear hYb g0 g1 g2 g3 g4 g5 g6 y2 y3 HL8 HX8 HT8 HD8
                generalize (w8).alloc (.cells #[.int .i64 yk, .int .i64 yc, .int .i64 yp, .int .i64 yd, .int .i64 ys, .int .i64 yn, .bool yr] 52) = V9 at *
                have j0 := HYX.out.cell 0
                have j2 := HYX.out.cell 2
                have j6 := HYX.out.cell 6
                have y0 := HL9.out.x0
                have y1 := HL9.out.x1
                have z0 := HL9.out.fz 0
                have z1 := HL9.out.fz 1
                have y2 := HX9.out.x0
                have y3 := HX9.out.x1
                have v0 := cellB HD9.out HDL2.out
                rw [← HDQ.out] at v0
                have hlo9 := rd_lo HX9.out.rd HLD2.out.1
                have HNE2 : Hid (K1 ≠ DB ∧ K2 ≠ DB) := Lib.hid (by omega)
                have HFN : Hid (∀ nq, HoL (((V9.drewN nq).setCell ⟨B, 0, none⟩ (.slice (some ⟨K1, 0, none⟩) n f1)).setCell ⟨B, 1, none⟩ (.slice (some ⟨K2, 0, none⟩) m f2)) B w1.heap.size l2 n m K1 K2 f1 f2 ∧ TStep w1 g (((V9.drewN nq).setCell ⟨B, 0, none⟩ (.slice (some ⟨K1, 0, none⟩) n f1)).setCell ⟨B, 1, none⟩ (.slice (some ⟨K2, 0, none⟩) m f2)) ∧ MutR brow 1 4 (((V9.drewN nq).setCell ⟨B, 0, none⟩ (.slice (some ⟨K1, 0, none⟩) n f1)).setCell ⟨B, 1, none⟩ (.slice (some ⟨K2, 0, none⟩) m f2)) DB m (D)) := Lib.hid (fun nq => by
                  have hbd : Below V9.heap.size V9 (V9.drewN nq) := below_drw (Below.refl _ _) nq
                  have hl := HL9.out.below hbd
                  exact ⟨HoL.mk2 (by rw [hl.x0]; simp) (by rw [hl.x1]; simp) hl.fz hl.lB (((HX9.out.below hbd).rd).low (by omega)) (by omega) (by omega) HLN2.out.1 HLN2.out.2, ((HT9.out.below hbd).set (p := ⟨B, 0, none⟩) hl.lB hgw _).set (p := ⟨B, 1, none⟩) hl.lB hgw _, ((MutR.below HD9.out hbd).far (p := ⟨B, 0, none⟩) (by simp only; omega) _).far (p := ⟨B, 1, none⟩) (by simp only; omega) _⟩)
                clear hlo9
                go_cut [172] (fun s wx => s = .bool false ∧ ∃ nq, wx = V9.drewN nq)
                case first =>
                  as_aux_lemma =>
                  by_cases e18 : yp = 18
                  · subst e18
                    have hy18 : ((18 : Int) == 18) = true := rfl
                    by_cases e3 : yk = 3
                    · subst e3
                      have hy3 : ((3 : Int) != 3) = false := rfl
                      clear HEN
                      go_quiet (fail)
                      go_wp2_with fail
                      go_meet
                      exact ⟨rfl, _, rfl⟩
                    · have hrd := HEN.out rfl e3
                      subst hrd
                      have hy3 : (yk != 3) = true := by simpa using e3
                      have hyr : (yr != yr) = false := by simp
                      clear HEN e3
                      go_quiet (fail)
                      go_wp2_with fail
                      go_meet
                      exact ⟨rfl, _, rfl⟩
                  · have hy18 : (yp == 18) = false := by simpa using e18
                    clear HEN e18
                    go_quiet (fail)
                    go_wp2_with fail
                    go_meet
                    exact ⟨rfl, _, rfl⟩
                case rest =>
                obtain ⟨rfl, nq, rfl⟩ := hcut
                go_wp2_with fail
                exact ⟨⟨l2, i + 1, K1, K2, f1, f2, D, by go_num, hlt, (HFN.out nq).1, HLD2, (HFN.out nq).2.1, (HFN.out nq).2.2, HDA2, HNE2⟩, by simp [intOf]; omega⟩
      | false =>
        go_wp2_with fail
        refine (sane11_any wa).mono ?_
        rintro e w' ⟨rfl, hb⟩
        go_wp2_with fail
        go_ret
        exact ⟨rfl, (HB1.out.grown HTa.out.2 HB1.out.size (fun j e => by have := Option.some.inj e; omega)).trans (hb.mono (by have := HTa.out.2.size; have := HB1.out.size; omega))⟩
    · have hd : decide ((i : Int) < 90) = false := by simp; omega
      go_wp2_with fail
      refine (sane11_any wr).mono ?_
      rintro e w' ⟨rfl, hb⟩
      go_wp2_with fail
      go_ret
      exact ⟨rfl, (HB1.out.grown HT.out.2 HB1.out.size (fun j e => by have := Option.some.inj e; omega)).trans (hb.mono (by have := HT.out.2.size; have := HB1.out.size; omega))⟩
end Lk
end Go.Proofs.YtgmffgdhijcfcaaDoor
