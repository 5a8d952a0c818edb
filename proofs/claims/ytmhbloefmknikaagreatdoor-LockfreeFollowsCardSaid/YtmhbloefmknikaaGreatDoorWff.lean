/-
  The walk of LockfreeFollows: from whatever numbers it answers true and only makes memory. Conditions: the argument can be read; 'letters' is as its initialiser lays it.
-/
import Derived.Test.YtmhbloefmknikaaGreatDoorOcA
import Derived.Test.YtmhbloefmknikaaGreatDoorOeB
import Derived.Test.YtmhbloefmknikaaGreatDoorOeC
import Derived.Test.YtmhbloefmknikaaGreatDoorOeH
import Derived.Test.YtmhbloefmknikaaGreatDoorOeI
import Derived.Test.YtmhbloefmknikaaGreatDoorOeL
import Derived.Test.YtmhbloefmknikaaGreatDoorLwQ
import Derived.Deep.RegionHeld3
namespace Go.Proofs.YtmhbloefmknikaaGreatDoor
open Go.RowKit Go.Maps
namespace Lf
open Lk
/-- Another block is stored to. -/
theorem rdl_far {w : World} {lo : Nat} {l : Ls} {G1 G2 : Nat} (h : RdL w lo (some ⟨G1, 0, none⟩) (some ⟨G2, 0, none⟩) l) {p : Addr} (h1 : p.block ≠ G1) (h2 : p.block ≠ G2) (v : Value) : RdL (w.setCell p v) lo (some ⟨G1, 0, none⟩) (some ⟨G2, 0, none⟩) l := by
  have hb : ∀ i, i ≠ p.block → (w.setCell p v).heap[i]? = w.heap[i]? := fun i hi => Below.heap_setCell w p v i hi
  refine ⟨fun hc => ?_, fun hc => ?_⟩
  · obtain ⟨b, o, q1, q2, q3, q4⟩ := h.cs hc
    injection q1 with q1
    injection q1 with q5 q6
    subst q5
    exact ⟨_, o, by rw [q6], q2, by simpa using q3, fun i hi j u hu => (World.cell?_of_block (hb _ (fun q => h1 q.symm))).trans (q4 i hi j u hu)⟩
  · obtain ⟨b, o, q1, q2, q3, q4⟩ := h.ps hc
    injection q1 with q1
    injection q1 with q5 q6
    subst q5
    exact ⟨_, o, by rw [q6], q2, by simpa using q3, fun i hi j u hu => (World.cell?_of_block (hb _ (fun q => h2 q.symm))).trans (q4 i hi j u hu)⟩
theorem sta_nat {l : Ls} {p kd c : Int} (h : staE l p kd c = 0) : ∃ k : Nat, p = (k : Int) := by
  unfold staE at h
  by_cases q0 : vldB l = false
  · rw [if_pos q0] at h; cases h
  · rw [if_neg q0] at h
    by_cases q1 : p < 0 ∨ p ≥ (l.ps.length : Int)
    · rw [if_pos q1] at h; cases h
    · exact ⟨p.toNat, by omega⟩
theorem trv_len (l : Ls) : ∀ f seen a, (trv l f seen a).length ≤ f
  | 0, _, _ => Nat.le_refl _
  | f + 1, seen, a => by
    have h := trv_len l f (a :: seen) (l.at_ a).right.toNat
    rw [trv]
    split
    · exact Nat.zero_le _
    · split
      · rw [List.length_cons]; omega
      · omega
theorem memV_len (l : Ls) : (memV l).length ≤ l.cs.length := trv_len l _ _ _
/-- Two boxes, one after the other, are stored to: each holds the same list, with rows elsewhere. -/
theorem two_put {w : World} {B C lo : Nat} {l l' : Ls} {n m G1 G2 d1 d2 K1 K2 e1 e2 n' m' g1 g2 f1 f2 k1 k2 h1 h2 : Nat} (hB : HoL w B lo l n m G1 G2 d1 d2) (hC : HoL w C lo l n m K1 K2 e1 e2) (hBC : B ≠ C) (ra : RdL w lo (some ⟨g1, 0, none⟩) (some ⟨g2, 0, none⟩) l') (rb : RdL w lo (some ⟨k1, 0, none⟩) (some ⟨k2, 0, none⟩) l') (a1 : g1 ≠ B ∧ g2 ≠ B ∧ g1 ≠ C ∧ g2 ≠ C) (a2 : k1 ≠ B ∧ k2 ≠ B ∧ k1 ≠ C ∧ k2 ≠ C) (a3 : K1 ≠ B ∧ K2 ≠ B) (hn : l'.cs.length = n') (hm : l'.ps.length = m') :
    HoL ((((w.setCell ⟨B, 0, none⟩ (.slice (some ⟨g1, 0, none⟩) n' f1)).setCell ⟨B, 1, none⟩ (.slice (some ⟨g2, 0, none⟩) m' f2)).setCell ⟨C, 0, none⟩ (.slice (some ⟨k1, 0, none⟩) n' h1)).setCell ⟨C, 1, none⟩ (.slice (some ⟨k2, 0, none⟩) m' h2)) B lo l' n' m' g1 g2 f1 f2 ∧
    HoL ((((w.setCell ⟨B, 0, none⟩ (.slice (some ⟨g1, 0, none⟩) n' f1)).setCell ⟨B, 1, none⟩ (.slice (some ⟨g2, 0, none⟩) m' f2)).setCell ⟨C, 0, none⟩ (.slice (some ⟨k1, 0, none⟩) n' h1)).setCell ⟨C, 1, none⟩ (.slice (some ⟨k2, 0, none⟩) m' h2)) C lo l' n' m' k1 k2 h1 h2 := by
  have hB1 := HoL.mk2 (w := w) (d1 := f1) (d2 := f2) (by rw [hB.x0]; simp) (by rw [hB.x1]; simp) hB.fz hB.lB ra a1.1 a1.2.1 hn hm
  have hC1 := (hC.far (p := ⟨B, 0, none⟩) hBC (fun e => a3.1 e.symm) (fun e => a3.2 e.symm) (.slice (some ⟨g1, 0, none⟩) n' f1)).far (p := ⟨B, 1, none⟩) hBC (fun e => a3.1 e.symm) (fun e => a3.2 e.symm) (.slice (some ⟨g2, 0, none⟩) m' f2)
  have rb1 := rdl_far (p := ⟨B, 1, none⟩) (rdl_far (p := ⟨B, 0, none⟩) rb (fun e => a2.1 e.symm) (fun e => a2.2.1 e.symm) (.slice (some ⟨g1, 0, none⟩) n' f1)) (fun e => a2.1 e.symm) (fun e => a2.2.1 e.symm) (.slice (some ⟨g2, 0, none⟩) m' f2)
  exact ⟨(hB1.far (p := ⟨C, 0, none⟩) (fun e => hBC e.symm) (fun e => a1.2.2.1 e.symm) (fun e => a1.2.2.2 e.symm) _).far (p := ⟨C, 1, none⟩) (fun e => hBC e.symm) (fun e => a1.2.2.1 e.symm) (fun e => a1.2.2.2 e.symm) _, HoL.mk2 (by rw [hC1.x0]; simp) (by rw [hC1.x1]; simp) hC1.fz hC1.lB rb1 a2.2.2.1 a2.2.2.2 hn hm⟩
set_option maxRecDepth 100000 in
set_option maxHeartbeats 12800000 in
theorem follows_walk (A : Option Addr) (n0 cp : Nat) (p0 k0 i0 : Int) (w : World) (hL : Lets w) (hnc : n0 ≤ cp) (hc : cp ≤ maxLen) (hN : Nums w w.heap.size A n0) :
    Calls Tryz.prog 5 #[.slice A n0 cp, .int .i64 p0, .int .i64 k0, .int .i64 i0] w (LawP w) := by
  go_enter Tryz.func5, Tryz.ntmps5
  go_wp2_with fail
  refine (Go.Proofs.YtmhbloefmknikaaGreatDoor.new_any A n0 cp _ hnc hc hN).mono ?_
  rintro e w1 ⟨g, hg1, rfl, hTp, hb1⟩
  have hne2 : 0 ≠ g := by have := hL.lt; omega
  have l1 := hL.below hb1
  have hgw := hTp.lt
  have HB1 := Lib.hid hb1
  clear hN hnc hc hL hb1
  go_wp2_with fail
  refine (made_any g w1 hTp l1 hne2 hgw).mono ?_
  rintro e w2 ⟨l0, n, m, J1, J2, c1, c2, rfl, hfr, hrd, hst⟩
  have HFR := Lib.hid hfr
  have HLA := Lib.hid (HoL.newF (d1 := c1) (d2 := c2) (t := 28) (n := n) (m := m) (RdL.low hrd (Nat.le_refl _)) hfr.led.1 hst.2.size hfr.hn hfr.hm)
  have HTA := Lib.hid (hst.below ((Below.refl w2.heap.size w2).alloc (Nat.le_refl _) (.cells #[.slice (some ⟨J1, 0, none⟩) n c1, .slice (some ⟨J2, 0, none⟩) m c2] 28)))
  have hsz : (w2.alloc (.cells #[.slice (some ⟨J1, 0, none⟩) n c1, .slice (some ⟨J2, 0, none⟩) m c2] 28)).heap.size = w2.heap.size + 1 := World.size_alloc _ _
  have hs2 := hst.2.size
  have n8 := hfr.n8
  have m2 := hfr.m2
  have m4 := hfr.m4
  have n2 : 2 ≤ n := by rw [← hfr.hn]; exact hfr.led.1.n2
  clear hfr hrd hst hTp l1
  go_upto_region 3 with fail
  generalize w2.alloc (.cells #[.slice (some ⟨J1, 0, none⟩) n c1, .slice (some ⟨J2, 0, none⟩) m c2] 28) = W at *
  obtain ⟨B, hB⟩ : ∃ B, B = w2.heap.size := ⟨_, rfl⟩
  rw [← hB] at HLA hsz hs2 ⊢
  clear hB
  have y0 := HLA.out.x0
  have y1 := HLA.out.x1
  go_wp2_with fail
  refine (Lk.rcopy_any (some ⟨J1, 0, none⟩) (some ⟨J2, 0, none⟩) l0 n m c1 c2 0 W HLA.out.hn HLA.out.hm (HLA.out.rd.low (Nat.zero_le _)) (by omega) (by omega)).mono ?_
  intro e w3 h3
  obtain ⟨K1, K2, f1, f2, rfl, hmem, hb3⟩ := copG_mem h3 n m HLA.out.hn HLA.out.hm (by omega) (by omega)
  have hv := HFR.out.led.1
  have HLA3 := Lib.hid ((HLA.out.below hb3).below ((Below.refl w3.heap.size w3).alloc (Nat.le_refl _) (.cells #[.slice (some ⟨K1, 0, none⟩) n f1, .slice (some ⟨K2, 0, none⟩) m f2] 28)))
  have HLB3 := Lib.hid (HoL.newF (d1 := f1) (d2 := f2) (t := 28) (n := n) (m := m) (lo := w1.heap.size) (hmem.rd.low (by omega)) hv (by have := hb3.size; omega) HLA.out.hn HLA.out.hm)
  have HTA3 := Lib.hid ((HTA.out.below hb3).below ((Below.refl w3.heap.size w3).alloc (Nat.le_refl _) (.cells #[.slice (some ⟨K1, 0, none⟩) n f1, .slice (some ⟨K2, 0, none⟩) m f2] 28)))
  have hkl := rd_loF hmem.rd hv
  have hjl := HLA.out.gltF hv
  have hs3 := hb3.size
  have hsz3 : (w3.alloc (.cells #[.slice (some ⟨K1, 0, none⟩) n f1, .slice (some ⟨K2, 0, none⟩) m f2] 28)).heap.size = w3.heap.size + 1 := World.size_alloc _ _
  clear h3 hmem hb3 y0 y1 hv
  go_upto_region 6 with fail
  generalize w3.alloc (.cells #[.slice (some ⟨K1, 0, none⟩) n f1, .slice (some ⟨K2, 0, none⟩) m f2] 28) = V at *
  obtain ⟨C, hC⟩ : ∃ C, C = w3.heap.size := ⟨_, rfl⟩
  rw [← hC] at HLB3 hsz3 hs3 ⊢
  clear hC HLA HTA
  have HBC : Hid (B + 1 ≤ C ∧ J1 ≠ C ∧ J2 ≠ C ∧ K1 ≠ B ∧ K2 ≠ B) := Lib.hid ⟨by omega, by omega, by omega, by omega, by omega⟩
  have hBC : B + 1 ≤ C := HBC.out.1
  have hVs : C + 1 ≤ V.heap.size := by omega
  clear hkl hjl hs3 hsz3 hsz
  go_wp2_with fail
  go_loopw [13] (fun v13 wr => ∃ (l : Ls) (i G1 G2 d1 d2 H1 H2 e1 e2 : Nat), v13 = .int .i64 (i : Int) ∧ i ≤ 90 ∧ HoL wr B w1.heap.size l n m G1 G2 d1 d2 ∧ HoL wr C w1.heap.size l n m H1 H2 e1 e2 ∧ Hid (Led l) ∧ TStep w1 g wr ∧ C + 1 ≤ wr.heap.size ∧ Hid (G1 ≠ C ∧ G2 ≠ C ∧ H1 ≠ B ∧ H2 ≠ B)) (fun v13 _ => 90 - (intOf v13).toNat)
  case atStart => exact ⟨l0, 0, J1, J2, c1, c2, K1, K2, f1, f2, rfl, Nat.zero_le _, HLA3.out, HLB3.out, Lib.hid HFR.out.led, HTA3.out, hVs, Lib.hid HBC.out.2⟩
  case round =>
    clear HLA3 HLB3 HTA3 hVs HBC HFR
    obtain ⟨l, i, G1, G2, d1, d2, H1, H2, e1, e2, rfl, hi, hla, hlb, HLD, ht, hs, HDS⟩ := hrel
    have HA := Lib.hid hla
    have HC := Lib.hid hlb
    have HT := Lib.hid ht
    clear hla hlb ht
    by_cases hlt : i < 90
    · have hd : decide ((i : Int) < 90) = true := by simp; omega
      go_wp2_with fail
      refine (left_any g wr HT.out.1).mono ?_
      rintro e w4 ⟨b4, rfl, hst4⟩
      have HA4 := Lib.hid (HA.out.step hgw hst4)
      have HC4 := Lib.hid (HC.out.step hgw hst4)
      have HT4 := Lib.hid (HT.out.trans hst4)
      have hs4 : C + 1 ≤ w4.heap.size := by have := hst4.2.size; omega
      clear hst4
      cases b4 with
      | true =>
        have y1 := HA4.out.x1
        go_wp2_with fail
        refine (next_any g _ w4 HT4.out.1 (by omega)).mono ?_
        rintro e w5 ⟨r5, -, -, rfl, hst5⟩
        have HA5 := Lib.hid (HA4.out.step hgw hst5)
        have HC5 := Lib.hid (HC4.out.step hgw hst5)
        have HT5 := Lib.hid (HT4.out.trans hst5)
        have hs5 : C + 1 ≤ w5.heap.size := by have := hst5.2.size; omega
        clear hst5 y1
        go_wp2_with fail
        refine (next_any g _ w5 HT5.out.1 (by omega)).mono ?_
        rintro e w6 ⟨r6, -, -, rfl, hst6⟩
        have HA6 := Lib.hid (HA5.out.step hgw hst6)
        have HC6 := Lib.hid (HC5.out.step hgw hst6)
        have HT6 := Lib.hid (HT5.out.trans hst6)
        have hs6 : C + 1 ≤ w6.heap.size := by have := hst6.2.size; omega
        clear hst6
        go_wp2_with fail
        refine (bool_any g _ w6 HT6.out.1 (by omega) (by omega)).mono ?_
        rintro e w7 ⟨b7, rfl, hst7⟩
        have HA7 := Lib.hid (HA6.out.step hgw hst7)
        have HC7 := Lib.hid (HC6.out.step hgw hst7)
        have HT7 := Lib.hid (HT6.out.trans hst7)
        have hs7 : C + 1 ≤ w7.heap.size := by have := hst7.2.size; omega
        clear hst7 HA HC HT HA4 HC4 HT4 HA5 HC5 HT5 HA6 HC6 HT6
        cases b7 with
        | true =>
          have y0 := HA7.out.x0
          go_upto_region 11 with fail
          have hal := ((Below.refl w7.heap.size w7).alloc (Nat.le_refl _) (.cells #[.int .i64 1, .int .i64 2, .int .i64 3, .int .i64 1, .int .i64 2, .int .i64 0] 3)).drew
          have HAF := Lib.hid (HA7.out.below hal)
          have HCF := Lib.hid (HC7.out.below hal)
          have HTF := Lib.hid (HT7.out.below hal)
          have hsF : C + 1 ≤ (w7.alloc (.cells #[.int .i64 1, .int .i64 2, .int .i64 3, .int .i64 1, .int .i64 2, .int .i64 0] 3)).drew.heap.size := by have := hal.size; omega
          have HPK : Hid (Calls Tryz.prog 13 #[.pointer (some ⟨g, 0, none⟩), .slice (some ⟨w7.heap.size, 0, none⟩) 6 6] (w7.alloc (.cells #[.int .i64 1, .int .i64 2, .int .i64 3, .int .i64 1, .int .i64 2, .int .i64 0] 3)).drew (PickP [1, 2, 3, 1, 2, 0] g (w7.alloc (.cells #[.int .i64 1, .int .i64 2, .int .i64 3, .int .i64 1, .int .i64 2, .int .i64 0] 3)).drew)) := Lib.hid (by
            have hV := (Has.new w7 3 #[.int .i64 1, .int .i64 2, .int .i64 3, .int .i64 1, .int .i64 2, .int .i64 0]).below (Below.refl _ _).drew
            refine pick_any g w7.heap.size 6 [1, 2, 3, 1, 2, 0] _ HTF.out.1 (by simp) (by simp) hV.lt (by have := HT7.out.2.size; omega) (fun i hi => ?_)
            rw [hV.cell]
            have h5 : i = 0 ∨ i = 1 ∨ i = 2 ∨ i = 3 ∨ i = 4 ∨ i = 5 := by simp at hi; omega
            rcases h5 with rfl | rfl | rfl | rfl | rfl | rfl <;> rfl)
          clear hal
          go_cut [14, 15, 16] (fun s14 s15 s16 wx => ∃ q c d : Int, s14 = .int .i64 q ∧ s15 = .int .i64 c ∧ s16 = .int .i64 d ∧ HoL wx B w1.heap.size l n m G1 G2 d1 d2 ∧ HoL wx C w1.heap.size l n m H1 H2 e1 e2 ∧ TStep w1 g wx ∧ C + 1 ≤ wx.heap.size)
          case first =>
            have hS7 : w7.drew.cell? ⟨B, 0, none⟩ = some (.slice (some ⟨G1, 0, none⟩) n d1) := HA7.out.x0
            have hSF : (w7.alloc (.cells #[.int .i64 1, .int .i64 2, .int .i64 3, .int .i64 1, .int .i64 2, .int .i64 0] 3)).drew.cell? ⟨B, 0, none⟩ = some (.slice (some ⟨G1, 0, none⟩) n d1) := HAF.out.x0
            clear y0
            go_region_held3 (fun U => U.cell? ⟨B, 0, none⟩ = some (.slice (some ⟨G1, 0, none⟩) n d1)) (first | with_reducible exact hS9 | with_reducible exact hS8 | with_reducible exact hSF | with_reducible exact hS7 | with_reducible assumption) (first | (go_at_call 13; (with_reducible refine HPK.out.mono ?_); rintro e w8 ⟨v8, -, rfl, hst8⟩; have HA8 := Lib.hid (HAF.out.step hgw hst8); have HC8 := Lib.hid (HCF.out.step hgw hst8); have HT8 := Lib.hid (HTF.out.trans hst8); have hs8 : C + 1 ≤ w8.heap.size := (by have := hst8.2.size; omega); have hS8 : w8.cell? ⟨B, 0, none⟩ = some (.slice (some ⟨G1, 0, none⟩) n d1) := HA8.out.x0; clear hst8) | (go_at_call 11; (with_reducible refine (next_any g _ w8 (tstp_tape HT8.out) (by omega)).mono ?_); rintro e w9 ⟨r9, -, -, rfl, hst9⟩; have HA9 := Lib.hid (HA8.out.step hgw hst9); have HC9 := Lib.hid (HC8.out.step hgw hst9); have HT9 := Lib.hid (HT8.out.trans hst9); have hs9 : C + 1 ≤ w9.heap.size := (by have := hst9.2.size; omega); have hS9 : w9.cell? ⟨B, 0, none⟩ = some (.slice (some ⟨G1, 0, none⟩) n d1) := HA9.out.x0; clear hst9))
            all_goals (go_wp2_with fail; go_meet)
            all_goals exact ⟨_, _, _, rfl, rfl, rfl, HA9.out, HC9.out, HT9.out, hs9⟩
          case rest =>
            obtain ⟨q, cc, dd, rfl, rfl, rfl, ha8, hc8, ht8, hs8⟩ := hcut
            have HA8 := Lib.hid ha8
            have HC8 := Lib.hid hc8
            have HT8 := Lib.hid ht8
            clear ha8 hc8 ht8 y0 HAF HCF HTF HPK hsF HA7 HC7 HT7
            go_wp2_with fail
            refine (bool_any g _ wc HT8.out.1 (by omega) (by omega)).mono ?_
            rintro e w9 ⟨b9, rfl, hst9⟩
            have HA9 := Lib.hid (HA8.out.step hgw hst9)
            have HC9 := Lib.hid (HC8.out.step hgw hst9)
            have HT9 := Lib.hid (HT8.out.trans hst9)
            have hs9 : C + 1 ≤ w9.heap.size := by have := hst9.2.size; omega
            have y0 := HA9.out.x0
            have y1 := HA9.out.x1
            have z0 := HC9.out.x0
            have z1 := HC9.out.x1
            clear hst9 HA8 HC8 HT8
            cases b9 with
            | true =>
              obtain ⟨E, hE⟩ : ∃ E, E = staE l (p0) (k0) (i0) := ⟨_, rfl⟩
              obtain ⟨l', hl'⟩ : ∃ l', l' = begV l (p0 : Int).toNat (k0) (i0) := ⟨_, rfl⟩
              have HS1 := Lib.hid (start_any (some ⟨G1, 0, none⟩) ⟨G2, 0, none⟩ l (p0) (k0) (i0) n m d1 d2 w9 HA9.out.hn HA9.out.hm (HA9.out.rd.low (Nat.zero_le _)) (by omega) (by omega) (by omega))
              have HS2 := Lib.hid (fun (U : World) (k : Below w9.heap.size w9 U) => rstartF_any (some ⟨H1, 0, none⟩) (some ⟨H2, 0, none⟩) l (p0) (k0) (i0) n m e1 e2 U HC9.out.hn HC9.out.hm ((HC9.out.below k).rd.low (Nat.zero_le _)) (by omega) (by omega))
              have HBG : Hid (E = 0 → Led l' ∧ l'.cs.length = n ∧ l'.ps.length = m) := Lib.hid (fun h => by
                rw [hE] at h
                obtain ⟨qn, hqn⟩ := sta_nat h
                rw [hqn] at h
                rw [hl', hqn, Int.toNat_natCast]
                exact ⟨sta_led HLD.out h, (beg_len l _ _ _).1.trans HA9.out.hn, (beg_len l _ _ _).2.trans HA9.out.hm⟩)
              unfold StaP at HS1 HS2
              rw [← hE, ← hl'] at HS1
              simp only [← hE, ← hl'] at HS2
              clear hE hl'
              go_wp2_with fail
              refine (HS1.out).mono ?_
              intro e w10 h10
              clear HS1
              have y0 := HC9.out.x0
              by_cases h0 : E = 0
              · obtain ⟨-, g1, g2, f1, f2, rfl, hr10, hb10⟩ := h10.resolve_left (fun q => q.1 h0)
                obtain ⟨HLD', hn', hm'⟩ := HBG.out h0
                have gl := rd_loF hr10 HLD'.1
                have hal := (Below.refl w10.heap.size w10).alloc (Nat.le_refl _) (.cells #[.slice (some ⟨g1, 0, none⟩) n f1, .slice (some ⟨g2, 0, none⟩) m f2] 28)
                have HXN := Lib.hid (Has.new w10 28 #[.slice (some ⟨g1, 0, none⟩) n f1, .slice (some ⟨g2, 0, none⟩) m f2])
                have hzz : (w10.alloc (.cells #[.slice (some ⟨g1, 0, none⟩) n f1, .slice (some ⟨g2, 0, none⟩) m f2] 28)).heap.size = w10.heap.size + 1 := World.size_alloc _ _
                have hb11 := hb10.trans (hal.mono hb10.size)
                have HA11 := Lib.hid (HA9.out.below hb11)
                have HC11 := Lib.hid (HC9.out.below hb11)
                have HT11 := Lib.hid (HT9.out.below hb11)
                have HR11 := Lib.hid (hr10.below hal)
                have HSS2 := Lib.hid (HS2.out _ hb11)
                have hsA := hb10.size
                subst h0
                clear hal hr10 hb10 hb11 y0 y1 z0 z1 HS2
                go_upto_region 15 with fail
                generalize w10.alloc (.cells #[.slice (some ⟨g1, 0, none⟩) n f1, .slice (some ⟨g2, 0, none⟩) m f2] 28) = w11 at *
                have z0 := HC11.out.x0
                have z1 := HC11.out.x1
                go_wp2_with fail
                refine (HSS2.out).mono ?_
                intro e w12 h12
                obtain ⟨-, k1, k2, h1, h2, rfl, hr12, hb12⟩ := h12.resolve_left (fun q => q.1 rfl)
                have kl := rd_loF hr12 HLD'.1
                have hal := (Below.refl w12.heap.size w12).alloc (Nat.le_refl _) (.cells #[.slice (some ⟨k1, 0, none⟩) n h1, .slice (some ⟨k2, 0, none⟩) m h2] 28)
                have HYN := Lib.hid (Has.new w12 28 #[.slice (some ⟨k1, 0, none⟩) n h1, .slice (some ⟨k2, 0, none⟩) m h2])
                have hzz : (w12.alloc (.cells #[.slice (some ⟨k1, 0, none⟩) n h1, .slice (some ⟨k2, 0, none⟩) m h2] 28)).heap.size = w12.heap.size + 1 := World.size_alloc _ _
                have hb13 := hb12.trans (hal.mono hb12.size)
                have HA13 := Lib.hid (HA11.out.below hb13)
                have HC13 := Lib.hid (HC11.out.below hb13)
                have HT13 := Lib.hid (HT11.out.below hb13)
                have HR13 := Lib.hid (HR11.out.below hb13)
                have HQ13 := Lib.hid (hr12.below hal)
                have HX13 := Lib.hid (HXN.out.below hb13)
                have hsB := hb12.size
                clear hal hr12 hb12 hb13 z0 z1 HSS2 HXN HA11 HC11 HT11 HR11 h12
                go_upto_region 16 with fail
                generalize w12.alloc (.cells #[.slice (some ⟨k1, 0, none⟩) n h1, .slice (some ⟨k2, 0, none⟩) m h2] 28) = w13 at *
                obtain ⟨X, hX⟩ : ∃ X, X = w10.heap.size := ⟨_, rfl⟩
                obtain ⟨Y, hY⟩ : ∃ Y, Y = w12.heap.size := ⟨_, rfl⟩
                rw [← hX] at HX13 ⊢
                rw [← hY] at HYN ⊢
                have o1 : C + 1 ≤ X ∧ X + 1 ≤ Y ∧ Y + 1 ≤ w13.heap.size ∧ C + 1 ≤ g1 ∧ C + 1 ≤ g2 ∧ C + 1 ≤ k1 ∧ C + 1 ≤ k2 ∧ w1.heap.size ≤ w11.heap.size := by have := HT9.out.2.size; omega
                have HO1 := Lib.hid o1
                have x0 := HX13.out.cell 0
                have x1 := HX13.out.cell 1
                have y0 := HYN.out.cell 0
                have y1 := HYN.out.cell 1
                clear hX hY hsA hsB gl kl
                go_wp2_with fail
                refine (rsame_self (some ⟨g1, 0, none⟩) (some ⟨g2, 0, none⟩) (some ⟨k1, 0, none⟩) (some ⟨k2, 0, none⟩) l' n m f1 f2 h1 h2 _ _ w13 hn' hm' HR13.out HQ13.out (by omega) (by omega)).mono ?_
                rintro e w14 ⟨rfl, hb14⟩
                have HA14 := Lib.hid (HA13.out.below hb14)
                have HC14 := Lib.hid (HC13.out.below hb14)
                have HT14 := Lib.hid (HT13.out.below hb14)
                have HR14 := Lib.hid ((HR13.out.below hb14).low (lo' := w1.heap.size) (by have := HT9.out.2.size; omega))
                have HQ14 := Lib.hid ((HQ13.out.below hb14).low (lo' := w1.heap.size) (by have := HT9.out.2.size; have := HO1.out; omega))
                have HX14 := Lib.hid (HX13.out.below hb14)
                have HY14 := Lib.hid (HYN.out.below hb14)
                have HLE := Lib.hid HLD'
                have hs14 := hb14.size
                clear hb14 x0 x1 y0 y1 HA13 HC13 HT13 HR13 HQ13 HX13 HYN HA9 HC9 HLD'
                go_upto_region 19 with fail
                have x0 := HX14.out.cell 0
                have x1 := HX14.out.cell 1
                have y0 := HY14.out.cell 0
                have y1 := HY14.out.cell 1
                have u0 := HA14.out.x0
                have u1 := HA14.out.x1
                have u2 := HC14.out.x0
                have u3 := HC14.out.x1
                have u4 := HA14.out.fz 0
                have u5 := HA14.out.fz 1
                have u6 := HC14.out.fz 0
                have u7 := HC14.out.fz 1
                have n1 : ¬ X = B := by have := HO1.out; omega
                have n2' : ¬ X = C := by have := HO1.out; omega
                have n3 : ¬ Y = B := by have := HO1.out; omega
                have n4 : ¬ Y = C := by have := HO1.out; omega
                have n5 : ¬ B = C := by omega
                have n6 : ¬ C = B := by omega
                have n7 : ¬ B = X := by have := HO1.out; omega
                have n8' : ¬ C = X := by have := HO1.out; omega
                have n9 : ¬ B = Y := by have := HO1.out; omega
                have n10 : ¬ C = Y := by have := HO1.out; omega
                go_cut [13] (fun s13 wx => s13 = .int .i64 (i : Int) ∧ HoL wx B w1.heap.size l' n m g1 g2 f1 f2 ∧ HoL wx C w1.heap.size l' n m k1 k2 h1 h2 ∧ TStep w1 g wx ∧ C + 1 ≤ wx.heap.size)
                case first =>
                  have hTB : TStep w1 g w14 := HT14.out
                  have HKA : Hid (∀ u v u' v', TStep w1 g ((((w14.setCell ⟨B, 0, none⟩ u).setCell ⟨B, 1, none⟩ v).setCell ⟨C, 0, none⟩ u').setCell ⟨C, 1, none⟩ v').drew) := Lib.hid (fun u v u' v' => (tover hTB hgw (((((Below.refl _ w14).mono hTB.2.size).setCell (p := ⟨B, 0, none⟩) HA14.out.lB u).setCell (p := ⟨B, 1, none⟩) HA14.out.lB v).setCell (p := ⟨C, 0, none⟩) HC14.out.lB u' |>.setCell (p := ⟨C, 1, none⟩) HC14.out.lB v')).below (Below.refl _ _).drew)
                  have HZA : Hid (∀ u v u' v', C + 1 ≤ ((((w14.setCell ⟨B, 0, none⟩ u).setCell ⟨B, 1, none⟩ v).setCell ⟨C, 0, none⟩ u').setCell ⟨C, 1, none⟩ v').drew.heap.size) := Lib.hid (fun u v u' v' => by show C + 1 ≤ (((((w14.setCell ⟨B, 0, none⟩ u).setCell ⟨B, 1, none⟩ v).setCell ⟨C, 0, none⟩ u').setCell ⟨C, 1, none⟩ v')).heap.size; simp only [World.size_setCell]; have := HO1.out; omega)
                  have HKB : Hid (∀ u v u' v', TStep w1 g ((((w14.setCell ⟨C, 0, none⟩ u).setCell ⟨C, 1, none⟩ v).setCell ⟨B, 0, none⟩ u').setCell ⟨B, 1, none⟩ v').drew) := Lib.hid (fun u v u' v' => (tover hTB hgw (((((Below.refl _ w14).mono hTB.2.size).setCell (p := ⟨C, 0, none⟩) HC14.out.lB u).setCell (p := ⟨C, 1, none⟩) HC14.out.lB v).setCell (p := ⟨B, 0, none⟩) HA14.out.lB u' |>.setCell (p := ⟨B, 1, none⟩) HA14.out.lB v')).below (Below.refl _ _).drew)
                  have HZB : Hid (∀ u v u' v', C + 1 ≤ ((((w14.setCell ⟨C, 0, none⟩ u).setCell ⟨C, 1, none⟩ v).setCell ⟨B, 0, none⟩ u').setCell ⟨B, 1, none⟩ v').drew.heap.size) := Lib.hid (fun u v u' v' => by show C + 1 ≤ (((((w14.setCell ⟨C, 0, none⟩ u).setCell ⟨C, 1, none⟩ v).setCell ⟨B, 0, none⟩ u').setCell ⟨B, 1, none⟩ v')).heap.size; simp only [World.size_setCell]; have := HO1.out; omega)
                  have HTA := Lib.hid (have z := (two_put (f1 := f1) (f2 := f2) (h1 := h1) (h2 := h2) HA14.out HC14.out n5 HR14.out HQ14.out (by have := HO1.out; omega) (by have := HO1.out; omega) HDS.out.2.2 hn' hm'); And.intro z.1.drew z.2.drew)
                  have HTC := Lib.hid (have z := (two_put (f1 := h1) (f2 := h2) (h1 := f1) (h2 := f2) HC14.out HA14.out n6 HQ14.out HR14.out (by have := HO1.out; omega) (by have := HO1.out; omega) ⟨HDS.out.1, HDS.out.2.1⟩ hn' hm'); And.intro z.1.drew z.2.drew)
                  clear hTB
                  go_region
                  all_goals (go_wp2_with fail; go_meet)
                  all_goals first
                    | with_reducible exact ⟨rfl, HTA.out.1, HTA.out.2, HKA.out _ _ _ _, HZA.out _ _ _ _⟩
                    | with_reducible exact ⟨rfl, HTC.out.2, HTC.out.1, HKB.out _ _ _ _, HZB.out _ _ _ _⟩
                case rest =>
                  obtain ⟨rfl, ha15, hc15, ht15, hs15⟩ := hcut
                  have HA15 := Lib.hid ha15
                  have HC15 := Lib.hid hc15
                  have HT15 := Lib.hid ht15
                  have HDS' : Hid (g1 ≠ C ∧ g2 ≠ C ∧ k1 ≠ B ∧ k2 ≠ B) := Lib.hid (by have := HO1.out; omega)
                  clear ha15 hc15 ht15 x0 x1 y0 y1 u0 u1 u2 u3 u4 u5 u6 u7
                  go_wp2_with fail
                  exact ⟨⟨l', i + 1, g1, g2, f1, f2, k1, k2, h1, h2, by go_num, hlt, HA15.out, HC15.out, HLE, HT15.out, hs15, HDS'⟩, by simp [intOf]; omega⟩
              · obtain ⟨-, he, hb10⟩ := h10.resolve_right (fun q => h0 q.1)
                rw [show zeroL = .agg #[.slice none 0 0, .slice none 0 0] from rfl] at he
                subst he
                have hal := (Below.refl w10.heap.size w10).alloc (Nat.le_refl _) (.cells #[.slice none 0 0, .slice none 0 0] 28)
                have HXN := Lib.hid (Has.new w10 28 #[.slice none 0 0, .slice none 0 0])
                have hzz : (w10.alloc (.cells #[.slice none 0 0, .slice none 0 0] 28)).heap.size = w10.heap.size + 1 := World.size_alloc _ _
                have hb11 := hb10.trans (hal.mono hb10.size)
                have HA11 := Lib.hid (HA9.out.below hb11)
                have HC11 := Lib.hid (HC9.out.below hb11)
                have HT11 := Lib.hid (HT9.out.below hb11)
                have HSS2 := Lib.hid (HS2.out _ hb11)
                have hsA := hb10.size
                clear hal hb10 hb11 y0 y1 z0 z1 HS2
                go_upto_region 15 with fail
                generalize w10.alloc (.cells #[.slice none 0 0, .slice none 0 0] 28) = w11 at *
                have z0 := HC11.out.x0
                have z1 := HC11.out.x1
                go_wp2_with fail
                refine (HSS2.out).mono ?_
                intro e w12 h12
                obtain ⟨-, he, hb12⟩ := h12.resolve_right (fun q => h0 q.1)
                rw [show zeroL = .agg #[.slice none 0 0, .slice none 0 0] from rfl] at he
                subst he
                have hal := (Below.refl w12.heap.size w12).alloc (Nat.le_refl _) (.cells #[.slice none 0 0, .slice none 0 0] 28)
                have HYN := Lib.hid (Has.new w12 28 #[.slice none 0 0, .slice none 0 0])
                have hzz : (w12.alloc (.cells #[.slice none 0 0, .slice none 0 0] 28)).heap.size = w12.heap.size + 1 := World.size_alloc _ _
                have hb13 := hb12.trans (hal.mono hb12.size)
                have HA13 := Lib.hid (HA11.out.below hb13)
                have HC13 := Lib.hid (HC11.out.below hb13)
                have HT13 := Lib.hid (HT11.out.below hb13)
                have HX13 := Lib.hid (HXN.out.below hb13)
                have hsB := hb12.size
                clear hal hb12 hb13 z0 z1 HSS2 HXN HA11 HC11 HT11 h12
                go_upto_region 16 with fail
                generalize w12.alloc (.cells #[.slice none 0 0, .slice none 0 0] 28) = w13 at *
                have x0 := HX13.out.cell 0
                have x1 := HX13.out.cell 1
                have y0 := HYN.out.cell 0
                have y1 := HYN.out.cell 1
                have hEE : (E != E) = false := by simp
                have hE0 : (E == 0) = false := by simpa using h0
                have hE1 : decide (E = 0) = false := decide_eq_false h0
                go_wp2_with fail
                refine (rsame_self none none none none ⟨[], []⟩ 0 0 0 0 0 0 0 0 w13 rfl rfl ⟨fun q => absurd rfl q, fun q => absurd rfl q⟩ ⟨fun q => absurd rfl q, fun q => absurd rfl q⟩ (by omega) (by omega)).mono ?_
                rintro e w14 ⟨rfl, hb14⟩
                have HA14 := Lib.hid (HA13.out.below hb14)
                have HC14 := Lib.hid (HC13.out.below hb14)
                have HT14 := Lib.hid (HT13.out.below hb14)
                have hs14 := hb14.size
                clear hb14 x0 x1 y0 y1 h0
                go_wp2_with fail
                exact ⟨⟨l, i + 1, G1, G2, d1, d2, H1, H2, e1, e2, by go_num, hlt, HA14.out, HC14.out, HLD, HT14.out, by omega, HDS⟩, by simp [intOf]; omega⟩
            | false =>
              obtain ⟨E, hE⟩ : ∃ E, E = staE l (q) (cc) (dd) := ⟨_, rfl⟩
              obtain ⟨l', hl'⟩ : ∃ l', l' = begV l (q : Int).toNat (cc) (dd) := ⟨_, rfl⟩
              have HS1 := Lib.hid (start_any (some ⟨G1, 0, none⟩) ⟨G2, 0, none⟩ l (q) (cc) (dd) n m d1 d2 w9 HA9.out.hn HA9.out.hm (HA9.out.rd.low (Nat.zero_le _)) (by omega) (by omega) (by omega))
              have HS2 := Lib.hid (fun (U : World) (k : Below w9.heap.size w9 U) => rstartF_any (some ⟨H1, 0, none⟩) (some ⟨H2, 0, none⟩) l (q) (cc) (dd) n m e1 e2 U HC9.out.hn HC9.out.hm ((HC9.out.below k).rd.low (Nat.zero_le _)) (by omega) (by omega))
              have HBG : Hid (E = 0 → Led l' ∧ l'.cs.length = n ∧ l'.ps.length = m) := Lib.hid (fun h => by
                rw [hE] at h
                obtain ⟨qn, hqn⟩ := sta_nat h
                rw [hqn] at h
                rw [hl', hqn, Int.toNat_natCast]
                exact ⟨sta_led HLD.out h, (beg_len l _ _ _).1.trans HA9.out.hn, (beg_len l _ _ _).2.trans HA9.out.hm⟩)
              unfold StaP at HS1 HS2
              rw [← hE, ← hl'] at HS1
              simp only [← hE, ← hl'] at HS2
              clear hE hl'
              go_wp2_with fail
              refine (HS1.out).mono ?_
              intro e w10 h10
              clear HS1
              have y0 := HC9.out.x0
              by_cases h0 : E = 0
              · obtain ⟨-, g1, g2, f1, f2, rfl, hr10, hb10⟩ := h10.resolve_left (fun q => q.1 h0)
                obtain ⟨HLD', hn', hm'⟩ := HBG.out h0
                have gl := rd_loF hr10 HLD'.1
                have hal := (Below.refl w10.heap.size w10).alloc (Nat.le_refl _) (.cells #[.slice (some ⟨g1, 0, none⟩) n f1, .slice (some ⟨g2, 0, none⟩) m f2] 28)
                have HXN := Lib.hid (Has.new w10 28 #[.slice (some ⟨g1, 0, none⟩) n f1, .slice (some ⟨g2, 0, none⟩) m f2])
                have hzz : (w10.alloc (.cells #[.slice (some ⟨g1, 0, none⟩) n f1, .slice (some ⟨g2, 0, none⟩) m f2] 28)).heap.size = w10.heap.size + 1 := World.size_alloc _ _
                have hb11 := hb10.trans (hal.mono hb10.size)
                have HA11 := Lib.hid (HA9.out.below hb11)
                have HC11 := Lib.hid (HC9.out.below hb11)
                have HT11 := Lib.hid (HT9.out.below hb11)
                have HR11 := Lib.hid (hr10.below hal)
                have HSS2 := Lib.hid (HS2.out _ hb11)
                have hsA := hb10.size
                subst h0
                clear hal hr10 hb10 hb11 y0 y1 z0 z1 HS2
                go_upto_region 15 with fail
                generalize w10.alloc (.cells #[.slice (some ⟨g1, 0, none⟩) n f1, .slice (some ⟨g2, 0, none⟩) m f2] 28) = w11 at *
                have z0 := HC11.out.x0
                have z1 := HC11.out.x1
                go_wp2_with fail
                refine (HSS2.out).mono ?_
                intro e w12 h12
                obtain ⟨-, k1, k2, h1, h2, rfl, hr12, hb12⟩ := h12.resolve_left (fun q => q.1 rfl)
                have kl := rd_loF hr12 HLD'.1
                have hal := (Below.refl w12.heap.size w12).alloc (Nat.le_refl _) (.cells #[.slice (some ⟨k1, 0, none⟩) n h1, .slice (some ⟨k2, 0, none⟩) m h2] 28)
                have HYN := Lib.hid (Has.new w12 28 #[.slice (some ⟨k1, 0, none⟩) n h1, .slice (some ⟨k2, 0, none⟩) m h2])
                have hzz : (w12.alloc (.cells #[.slice (some ⟨k1, 0, none⟩) n h1, .slice (some ⟨k2, 0, none⟩) m h2] 28)).heap.size = w12.heap.size + 1 := World.size_alloc _ _
                have hb13 := hb12.trans (hal.mono hb12.size)
                have HA13 := Lib.hid (HA11.out.below hb13)
                have HC13 := Lib.hid (HC11.out.below hb13)
                have HT13 := Lib.hid (HT11.out.below hb13)
                have HR13 := Lib.hid (HR11.out.below hb13)
                have HQ13 := Lib.hid (hr12.below hal)
                have HX13 := Lib.hid (HXN.out.below hb13)
                have hsB := hb12.size
                clear hal hr12 hb12 hb13 z0 z1 HSS2 HXN HA11 HC11 HT11 HR11 h12
                go_upto_region 16 with fail
                generalize w12.alloc (.cells #[.slice (some ⟨k1, 0, none⟩) n h1, .slice (some ⟨k2, 0, none⟩) m h2] 28) = w13 at *
                obtain ⟨X, hX⟩ : ∃ X, X = w10.heap.size := ⟨_, rfl⟩
                obtain ⟨Y, hY⟩ : ∃ Y, Y = w12.heap.size := ⟨_, rfl⟩
                rw [← hX] at HX13 ⊢
                rw [← hY] at HYN ⊢
                have o1 : C + 1 ≤ X ∧ X + 1 ≤ Y ∧ Y + 1 ≤ w13.heap.size ∧ C + 1 ≤ g1 ∧ C + 1 ≤ g2 ∧ C + 1 ≤ k1 ∧ C + 1 ≤ k2 ∧ w1.heap.size ≤ w11.heap.size := by have := HT9.out.2.size; omega
                have HO1 := Lib.hid o1
                have x0 := HX13.out.cell 0
                have x1 := HX13.out.cell 1
                have y0 := HYN.out.cell 0
                have y1 := HYN.out.cell 1
                clear hX hY hsA hsB gl kl
                go_wp2_with fail
                refine (rsame_self (some ⟨g1, 0, none⟩) (some ⟨g2, 0, none⟩) (some ⟨k1, 0, none⟩) (some ⟨k2, 0, none⟩) l' n m f1 f2 h1 h2 _ _ w13 hn' hm' HR13.out HQ13.out (by omega) (by omega)).mono ?_
                rintro e w14 ⟨rfl, hb14⟩
                have HA14 := Lib.hid (HA13.out.below hb14)
                have HC14 := Lib.hid (HC13.out.below hb14)
                have HT14 := Lib.hid (HT13.out.below hb14)
                have HR14 := Lib.hid ((HR13.out.below hb14).low (lo' := w1.heap.size) (by have := HT9.out.2.size; omega))
                have HQ14 := Lib.hid ((HQ13.out.below hb14).low (lo' := w1.heap.size) (by have := HT9.out.2.size; have := HO1.out; omega))
                have HX14 := Lib.hid (HX13.out.below hb14)
                have HY14 := Lib.hid (HYN.out.below hb14)
                have HLE := Lib.hid HLD'
                have hs14 := hb14.size
                clear hb14 x0 x1 y0 y1 HA13 HC13 HT13 HR13 HQ13 HX13 HYN HA9 HC9 HLD'
                go_upto_region 19 with fail
                have x0 := HX14.out.cell 0
                have x1 := HX14.out.cell 1
                have y0 := HY14.out.cell 0
                have y1 := HY14.out.cell 1
                have u0 := HA14.out.x0
                have u1 := HA14.out.x1
                have u2 := HC14.out.x0
                have u3 := HC14.out.x1
                have u4 := HA14.out.fz 0
                have u5 := HA14.out.fz 1
                have u6 := HC14.out.fz 0
                have u7 := HC14.out.fz 1
                have n1 : ¬ X = B := by have := HO1.out; omega
                have n2' : ¬ X = C := by have := HO1.out; omega
                have n3 : ¬ Y = B := by have := HO1.out; omega
                have n4 : ¬ Y = C := by have := HO1.out; omega
                have n5 : ¬ B = C := by omega
                have n6 : ¬ C = B := by omega
                have n7 : ¬ B = X := by have := HO1.out; omega
                have n8' : ¬ C = X := by have := HO1.out; omega
                have n9 : ¬ B = Y := by have := HO1.out; omega
                have n10 : ¬ C = Y := by have := HO1.out; omega
                go_cut [13] (fun s13 wx => s13 = .int .i64 (i : Int) ∧ HoL wx B w1.heap.size l' n m g1 g2 f1 f2 ∧ HoL wx C w1.heap.size l' n m k1 k2 h1 h2 ∧ TStep w1 g wx ∧ C + 1 ≤ wx.heap.size)
                case first =>
                  have hTB : TStep w1 g w14 := HT14.out
                  have HKA : Hid (∀ u v u' v', TStep w1 g ((((w14.setCell ⟨B, 0, none⟩ u).setCell ⟨B, 1, none⟩ v).setCell ⟨C, 0, none⟩ u').setCell ⟨C, 1, none⟩ v').drew) := Lib.hid (fun u v u' v' => (tover hTB hgw (((((Below.refl _ w14).mono hTB.2.size).setCell (p := ⟨B, 0, none⟩) HA14.out.lB u).setCell (p := ⟨B, 1, none⟩) HA14.out.lB v).setCell (p := ⟨C, 0, none⟩) HC14.out.lB u' |>.setCell (p := ⟨C, 1, none⟩) HC14.out.lB v')).below (Below.refl _ _).drew)
                  have HZA : Hid (∀ u v u' v', C + 1 ≤ ((((w14.setCell ⟨B, 0, none⟩ u).setCell ⟨B, 1, none⟩ v).setCell ⟨C, 0, none⟩ u').setCell ⟨C, 1, none⟩ v').drew.heap.size) := Lib.hid (fun u v u' v' => by show C + 1 ≤ (((((w14.setCell ⟨B, 0, none⟩ u).setCell ⟨B, 1, none⟩ v).setCell ⟨C, 0, none⟩ u').setCell ⟨C, 1, none⟩ v')).heap.size; simp only [World.size_setCell]; have := HO1.out; omega)
                  have HKB : Hid (∀ u v u' v', TStep w1 g ((((w14.setCell ⟨C, 0, none⟩ u).setCell ⟨C, 1, none⟩ v).setCell ⟨B, 0, none⟩ u').setCell ⟨B, 1, none⟩ v').drew) := Lib.hid (fun u v u' v' => (tover hTB hgw (((((Below.refl _ w14).mono hTB.2.size).setCell (p := ⟨C, 0, none⟩) HC14.out.lB u).setCell (p := ⟨C, 1, none⟩) HC14.out.lB v).setCell (p := ⟨B, 0, none⟩) HA14.out.lB u' |>.setCell (p := ⟨B, 1, none⟩) HA14.out.lB v')).below (Below.refl _ _).drew)
                  have HZB : Hid (∀ u v u' v', C + 1 ≤ ((((w14.setCell ⟨C, 0, none⟩ u).setCell ⟨C, 1, none⟩ v).setCell ⟨B, 0, none⟩ u').setCell ⟨B, 1, none⟩ v').drew.heap.size) := Lib.hid (fun u v u' v' => by show C + 1 ≤ (((((w14.setCell ⟨C, 0, none⟩ u).setCell ⟨C, 1, none⟩ v).setCell ⟨B, 0, none⟩ u').setCell ⟨B, 1, none⟩ v')).heap.size; simp only [World.size_setCell]; have := HO1.out; omega)
                  have HTA := Lib.hid (have z := (two_put (f1 := f1) (f2 := f2) (h1 := h1) (h2 := h2) HA14.out HC14.out n5 HR14.out HQ14.out (by have := HO1.out; omega) (by have := HO1.out; omega) HDS.out.2.2 hn' hm'); And.intro z.1.drew z.2.drew)
                  have HTC := Lib.hid (have z := (two_put (f1 := h1) (f2 := h2) (h1 := f1) (h2 := f2) HC14.out HA14.out n6 HQ14.out HR14.out (by have := HO1.out; omega) (by have := HO1.out; omega) ⟨HDS.out.1, HDS.out.2.1⟩ hn' hm'); And.intro z.1.drew z.2.drew)
                  clear hTB
                  go_region
                  all_goals (go_wp2_with fail; go_meet)
                  all_goals first
                    | with_reducible exact ⟨rfl, HTA.out.1, HTA.out.2, HKA.out _ _ _ _, HZA.out _ _ _ _⟩
                    | with_reducible exact ⟨rfl, HTC.out.2, HTC.out.1, HKB.out _ _ _ _, HZB.out _ _ _ _⟩
                case rest =>
                  obtain ⟨rfl, ha15, hc15, ht15, hs15⟩ := hcut
                  have HA15 := Lib.hid ha15
                  have HC15 := Lib.hid hc15
                  have HT15 := Lib.hid ht15
                  have HDS' : Hid (g1 ≠ C ∧ g2 ≠ C ∧ k1 ≠ B ∧ k2 ≠ B) := Lib.hid (by have := HO1.out; omega)
                  clear ha15 hc15 ht15 x0 x1 y0 y1 u0 u1 u2 u3 u4 u5 u6 u7
                  go_wp2_with fail
                  exact ⟨⟨l', i + 1, g1, g2, f1, f2, k1, k2, h1, h2, by go_num, hlt, HA15.out, HC15.out, HLE, HT15.out, hs15, HDS'⟩, by simp [intOf]; omega⟩
              · obtain ⟨-, he, hb10⟩ := h10.resolve_right (fun q => h0 q.1)
                rw [show zeroL = .agg #[.slice none 0 0, .slice none 0 0] from rfl] at he
                subst he
                have hal := (Below.refl w10.heap.size w10).alloc (Nat.le_refl _) (.cells #[.slice none 0 0, .slice none 0 0] 28)
                have HXN := Lib.hid (Has.new w10 28 #[.slice none 0 0, .slice none 0 0])
                have hzz : (w10.alloc (.cells #[.slice none 0 0, .slice none 0 0] 28)).heap.size = w10.heap.size + 1 := World.size_alloc _ _
                have hb11 := hb10.trans (hal.mono hb10.size)
                have HA11 := Lib.hid (HA9.out.below hb11)
                have HC11 := Lib.hid (HC9.out.below hb11)
                have HT11 := Lib.hid (HT9.out.below hb11)
                have HSS2 := Lib.hid (HS2.out _ hb11)
                have hsA := hb10.size
                clear hal hb10 hb11 y0 y1 z0 z1 HS2
                go_upto_region 15 with fail
                generalize w10.alloc (.cells #[.slice none 0 0, .slice none 0 0] 28) = w11 at *
                have z0 := HC11.out.x0
                have z1 := HC11.out.x1
                go_wp2_with fail
                refine (HSS2.out).mono ?_
                intro e w12 h12
                obtain ⟨-, he, hb12⟩ := h12.resolve_right (fun q => h0 q.1)
                rw [show zeroL = .agg #[.slice none 0 0, .slice none 0 0] from rfl] at he
                subst he
                have hal := (Below.refl w12.heap.size w12).alloc (Nat.le_refl _) (.cells #[.slice none 0 0, .slice none 0 0] 28)
                have HYN := Lib.hid (Has.new w12 28 #[.slice none 0 0, .slice none 0 0])
                have hzz : (w12.alloc (.cells #[.slice none 0 0, .slice none 0 0] 28)).heap.size = w12.heap.size + 1 := World.size_alloc _ _
                have hb13 := hb12.trans (hal.mono hb12.size)
                have HA13 := Lib.hid (HA11.out.below hb13)
                have HC13 := Lib.hid (HC11.out.below hb13)
                have HT13 := Lib.hid (HT11.out.below hb13)
                have HX13 := Lib.hid (HXN.out.below hb13)
                have hsB := hb12.size
                clear hal hb12 hb13 z0 z1 HSS2 HXN HA11 HC11 HT11 h12
                go_upto_region 16 with fail
                generalize w12.alloc (.cells #[.slice none 0 0, .slice none 0 0] 28) = w13 at *
                have x0 := HX13.out.cell 0
                have x1 := HX13.out.cell 1
                have y0 := HYN.out.cell 0
                have y1 := HYN.out.cell 1
                have hEE : (E != E) = false := by simp
                have hE0 : (E == 0) = false := by simpa using h0
                have hE1 : decide (E = 0) = false := decide_eq_false h0
                go_wp2_with fail
                refine (rsame_self none none none none ⟨[], []⟩ 0 0 0 0 0 0 0 0 w13 rfl rfl ⟨fun q => absurd rfl q, fun q => absurd rfl q⟩ ⟨fun q => absurd rfl q, fun q => absurd rfl q⟩ (by omega) (by omega)).mono ?_
                rintro e w14 ⟨rfl, hb14⟩
                have HA14 := Lib.hid (HA13.out.below hb14)
                have HC14 := Lib.hid (HC13.out.below hb14)
                have HT14 := Lib.hid (HT13.out.below hb14)
                have hs14 := hb14.size
                clear hb14 x0 x1 y0 y1 h0
                go_wp2_with fail
                exact ⟨⟨l, i + 1, G1, G2, d1, d2, H1, H2, e1, e2, by go_num, hlt, HA14.out, HC14.out, HLD, HT14.out, by omega, HDS⟩, by simp [intOf]; omega⟩
        | false =>
          have y0 := HA7.out.x0
          have y1 := HA7.out.x1
          have HA9 := HA7
          have HC9 := HC7
          have HT9 := HT7
          go_upto_region 20 with fail
          generalize wrap64 (r5 - wrap64 (r6.tdiv 11)) = q at *
          obtain ⟨l', hl'⟩ : ∃ l', l' = (stpO l q).getD l := ⟨_, rfl⟩
          obtain ⟨sb, hsb⟩ : ∃ sb, sb = (stpO l q).isSome := ⟨_, rfl⟩
          have HS1 := Lib.hid (step_any ⟨G1, 0, none⟩ ⟨G2, 0, none⟩ l q n m d1 d2 w7 HA9.out.hn HA9.out.hm (HA9.out.rd.low (Nat.zero_le _)) HLD.out.1)
          have HS2 := Lib.hid (fun (U : World) (k : Below w7.heap.size w7 U) => (rstepF_any (some ⟨H1, 0, none⟩) (some ⟨H2, 0, none⟩) l q n m e1 e2 U HC9.out.hn HC9.out.hm ((HC9.out.below k).rd.low (Nat.zero_le _)) (by omega) (by omega)).mono fun e w' h => (h.resolve_left fun z => z.1 HLD.out.1).2)
          have HLD' : Led l' := by rw [hl']; exact getD_led HLD.out q
          have hn' : l'.cs.length = n := by rw [hl']; exact (getD_len HLD.out.1 q).1.trans HA9.out.hn
          have hm' : l'.ps.length = m := by rw [hl']; exact (getD_len HLD.out.1 q).2.trans HA9.out.hm
          unfold StpP at HS1 HS2
          rw [← hl', ← hsb] at HS1
          simp only [← hl', ← hsb] at HS2
          clear hl' hsb
          go_wp2_with fail
          refine (HS1.out).mono ?_
          rintro e w10 ⟨g1, g2, f1, f2, rfl, hr10, hb10⟩
          clear HS1
          have gl := rd_loF hr10 HLD'.1
          have hal := (Below.refl w10.heap.size w10).alloc (Nat.le_refl _) (.cells #[.slice (some ⟨g1, 0, none⟩) n f1, .slice (some ⟨g2, 0, none⟩) m f2] 28)
          have HXN := Lib.hid (Has.new w10 28 #[.slice (some ⟨g1, 0, none⟩) n f1, .slice (some ⟨g2, 0, none⟩) m f2])
          have hzz : (w10.alloc (.cells #[.slice (some ⟨g1, 0, none⟩) n f1, .slice (some ⟨g2, 0, none⟩) m f2] 28)).heap.size = w10.heap.size + 1 := World.size_alloc _ _
          have hb11 := hb10.trans (hal.mono hb10.size)
          have HA11 := Lib.hid (HA9.out.below hb11)
          have HC11 := Lib.hid (HC9.out.below hb11)
          have HT11 := Lib.hid (HT9.out.below hb11)
          have HR11 := Lib.hid (hr10.below hal)
          have HSS2 := Lib.hid (HS2.out _ hb11)
          have hsA := hb10.size
          clear hal hr10 hb10 hb11 y0 y1 HS2
          go_upto_region 21 with fail
          generalize w10.alloc (.cells #[.slice (some ⟨g1, 0, none⟩) n f1, .slice (some ⟨g2, 0, none⟩) m f2] 28) = w11 at *
          have z0 := HC11.out.x0
          have z1 := HC11.out.x1
          go_wp2_with fail
          refine (HSS2.out).mono ?_
          rintro e w12 ⟨k1, k2, h1, h2, rfl, hr12, hb12⟩
          have kl := rd_loF hr12 HLD'.1
          have hal := (Below.refl w12.heap.size w12).alloc (Nat.le_refl _) (.cells #[.slice (some ⟨k1, 0, none⟩) n h1, .slice (some ⟨k2, 0, none⟩) m h2] 28)
          have HYN := Lib.hid (Has.new w12 28 #[.slice (some ⟨k1, 0, none⟩) n h1, .slice (some ⟨k2, 0, none⟩) m h2])
          have hzz : (w12.alloc (.cells #[.slice (some ⟨k1, 0, none⟩) n h1, .slice (some ⟨k2, 0, none⟩) m h2] 28)).heap.size = w12.heap.size + 1 := World.size_alloc _ _
          have hb13 := hb12.trans (hal.mono hb12.size)
          have HA13 := Lib.hid (HA11.out.below hb13)
          have HC13 := Lib.hid (HC11.out.below hb13)
          have HT13 := Lib.hid (HT11.out.below hb13)
          have HR13 := Lib.hid (HR11.out.below hb13)
          have HQ13 := Lib.hid (hr12.below hal)
          have HX13 := Lib.hid (HXN.out.below hb13)
          have hsB := hb12.size
          clear hal hr12 hb12 hb13 z0 z1 HSS2 HXN HA11 HC11 HT11 HR11
          go_upto_region 22 with fail
          generalize w12.alloc (.cells #[.slice (some ⟨k1, 0, none⟩) n h1, .slice (some ⟨k2, 0, none⟩) m h2] 28) = w13 at *
          obtain ⟨X, hX⟩ : ∃ X, X = w10.heap.size := ⟨_, rfl⟩
          obtain ⟨Y, hY⟩ : ∃ Y, Y = w12.heap.size := ⟨_, rfl⟩
          rw [← hX] at HX13 ⊢
          rw [← hY] at HYN ⊢
          have o1 : C + 1 ≤ X ∧ X + 1 ≤ Y ∧ Y + 1 ≤ w13.heap.size ∧ C + 1 ≤ g1 ∧ C + 1 ≤ g2 ∧ C + 1 ≤ k1 ∧ C + 1 ≤ k2 ∧ w1.heap.size ≤ w11.heap.size := by have := HT9.out.2.size; omega
          have HO1 := Lib.hid o1
          clear hX hY hsA hsB gl kl
          have HBD := Lib.hid (fun (U : World) (k : Below w13.heap.size w13 U) => ((HR13.out.below k).low (Nat.zero_le _) : RdL U 0 (some ⟨g1, 0, none⟩) (some ⟨g2, 0, none⟩) l'))
          have HBE := Lib.hid (fun (U : World) (k : Below w13.heap.size w13 U) => ((HQ13.out.below k).low (Nat.zero_le _) : RdL U 0 (some ⟨k1, 0, none⟩) (some ⟨k2, 0, none⟩) l'))
          obtain ⟨L, hL⟩ : ∃ L : List Int, L = if vldB l' then nat2 (memV l') else [] := ⟨_, rfl⟩
          obtain ⟨N0, hN0⟩ : ∃ N0, N0 = L.length := ⟨_, rfl⟩
          obtain ⟨bv, hbv⟩ : ∃ bv : Int, bv = if vldB l' then (bndV l' : Int) else 0 := ⟨_, rfl⟩
          have HLN : Hid (L.length = N0) := Lib.hid hN0.symm
          have hNb : N0 ≤ 1000 := by
            rw [hN0, hL]
            split
            · rw [nat2_len]
              have h1 := memV_len l'
              omega
            · simp
          have HSM := Lib.hid (fun (U : World) (k : Below w13.heap.size w13 U) => rsame_self (some ⟨g1, 0, none⟩) (some ⟨g2, 0, none⟩) (some ⟨k1, 0, none⟩) (some ⟨k2, 0, none⟩) l' n m f1 f2 h1 h2 0 0 U hn' hm' (HBD.out U k) (HBE.out U k) (by omega) (by omega))
          have HMP := Lib.hid (fun (U : World) (k : Below w13.heap.size w13 U) => Members_any (some ⟨g1, 0, none⟩) ⟨g2, 0, none⟩ l' n m f1 f2 U hn' hm' (HBD.out U k) (by omega) (by omega) (by omega))
          have HMR := Lib.hid (fun (U : World) (k : Below w13.heap.size w13 U) => rmemF_any (some ⟨k1, 0, none⟩) (some ⟨k2, 0, none⟩) l' n m h1 h2 U hn' hm' (HBE.out U k) (by omega) (by omega))
          have HCP := Lib.hid (fun (U : World) (k : Below w13.heap.size w13 U) => (check_any (some ⟨g1, 0, none⟩) ⟨g2, 0, none⟩ l' n m f1 f2 U hn' hm' (HBD.out U k) (by omega) (by omega) (by omega)).mono fun e w' h => h.yes (led_chk HLD'))
          have HCR := Lib.hid (fun (U : World) (k : Below w13.heap.size w13 U) => rcheckF_led (some ⟨k1, 0, none⟩) (some ⟨k2, 0, none⟩) l' n m h1 h2 U hn' hm' (HBE.out U k) HLD' (by omega) (by omega))
          have HBP := Lib.hid (fun (U : World) (k : Below w13.heap.size w13 U) => bound_any (some ⟨g1, 0, none⟩) ⟨g2, 0, none⟩ l' n m f1 f2 U hn' hm' (HBD.out U k) (by omega) (by omega) (by omega))
          have HBR := Lib.hid (fun (U : World) (k : Below w13.heap.size w13 U) => rboundF_any (some ⟨k1, 0, none⟩) (some ⟨k2, 0, none⟩) l' n m h1 h2 U hn' hm' (HBE.out U k) (by omega) (by omega))
          simp only [← hL] at HMP HMR
          simp only [← hbv] at HBP HBR
          clear hL hN0 hbv
          have HSS := Lib.hid (fun (U : World) (k : Below w13.heap.size w13 U) => (⟨(HX13.out.below k).cell 0, (HX13.out.below k).cell 1, (HYN.out.below k).cell 0, (HYN.out.below k).cell 1, k⟩ : U.cell? ⟨X, 0, none⟩ = some (.slice (some ⟨g1, 0, none⟩) n f1) ∧ U.cell? ⟨X, 1, none⟩ = some (.slice (some ⟨g2, 0, none⟩) m f2) ∧ U.cell? ⟨Y, 0, none⟩ = some (.slice (some ⟨k1, 0, none⟩) n h1) ∧ U.cell? ⟨Y, 1, none⟩ = some (.slice (some ⟨k2, 0, none⟩) m h2) ∧ Below w13.heap.size w13 U))
          have HLE := Lib.hid HLD'
          clear HLD'
          have hbw13 : Below w13.heap.size w13 w13.drew := (Below.refl _ _).drew
          have hS13 := HSS.out _ hbw13
          have hsb0 : (sb != sb) = false := by simp
          have hbv0 : (bv != bv) = false := by simp
          go_region_held3 (fun U => U.cell? ⟨X, 0, none⟩ = some (.slice (some ⟨g1, 0, none⟩) n f1) ∧ U.cell? ⟨X, 1, none⟩ = some (.slice (some ⟨g2, 0, none⟩) m f2) ∧ U.cell? ⟨Y, 0, none⟩ = some (.slice (some ⟨k1, 0, none⟩) n h1) ∧ U.cell? ⟨Y, 1, none⟩ = some (.slice (some ⟨k2, 0, none⟩) m h2) ∧ Below w13.heap.size w13 U) (first | with_reducible exact hS26 | with_reducible exact hS25 | with_reducible exact hS24 | with_reducible exact hS23 | with_reducible exact hS22 | with_reducible exact hS21 | with_reducible exact hS20 | with_reducible exact hS13 | with_reducible assumption) (first | (go_at_call 16; refine (HSM.out _ (show Below w13.heap.size w13 _ by with_reducible assumption)).mono ?_; rintro e w20 ⟨rfl, hb20⟩; have hbw20 : Below w13.heap.size w13 w20 := Below.trans (show Below w13.heap.size w13 _ by with_reducible assumption) (hb20.mono (Below.size (show Below w13.heap.size w13 _ by with_reducible assumption))); have hS20 := HSS.out _ hbw20) | (go_at_call 35; refine (HMP.out _ (show Below w13.heap.size w13 _ by with_reducible assumption)).mono ?_; rintro e w21 ⟨A21, k21, c21, rfl, hk21, -, -, hr21, hb21⟩; have hbw21 : Below w13.heap.size w13 w21 := Below.trans (show Below w13.heap.size w13 _ by with_reducible assumption) (hb21.mono (Below.size (show Below w13.heap.size w13 _ by with_reducible assumption))); have hS21 := HSS.out _ hbw21; rw [HLN.out] at hk21; subst hk21; have HRP := Lib.hid hr21; (try replace HRR := Lib.hid (RdR.below HRR.out hb21)); clear hr21) | (go_at_call 36; refine (HMR.out _ (show Below w13.heap.size w13 _ by with_reducible assumption)).mono ?_; rintro e w22 ⟨A22, k22, c22, rfl, hk22, -, -, hr22, hb22⟩; have hbw22 : Below w13.heap.size w13 w22 := Below.trans (show Below w13.heap.size w13 _ by with_reducible assumption) (hb22.mono (Below.size (show Below w13.heap.size w13 _ by with_reducible assumption))); have hS22 := HSS.out _ hbw22; rw [HLN.out] at hk22; subst hk22; have HRR := Lib.hid hr22; (try replace HRP := Lib.hid (RdR.below HRP.out hb22)); clear hr22) | (go_at_call 19; refine (rsameInts_self _ _ L N0 _ _ _ _ _ HLN.out HRP.out HRR.out (by omega)).mono ?_; rintro e w23 ⟨rfl, hb23⟩; have hbw23 : Below w13.heap.size w13 w23 := Below.trans (show Below w13.heap.size w13 _ by with_reducible assumption) (hb23.mono (Below.size (show Below w13.heap.size w13 _ by with_reducible assumption))); have hS23 := HSS.out _ hbw23) | (go_at_call 37; refine (HCP.out _ (show Below w13.heap.size w13 _ by with_reducible assumption)).mono ?_; rintro e w24 ⟨rfl, hb24⟩; have hbw24 : Below w13.heap.size w13 w24 := Below.trans (show Below w13.heap.size w13 _ by with_reducible assumption) (hb24.mono (Below.size (show Below w13.heap.size w13 _ by with_reducible assumption))); have hS24 := HSS.out _ hbw24) | (go_at_call 38; refine (HCR.out _ (show Below w13.heap.size w13 _ by with_reducible assumption)).mono ?_; rintro e w25 ⟨rfl, hb25⟩; have hbw25 : Below w13.heap.size w13 w25 := Below.trans (show Below w13.heap.size w13 _ by with_reducible assumption) (hb25.mono (Below.size (show Below w13.heap.size w13 _ by with_reducible assumption))); have hS25 := HSS.out _ hbw25) | (go_at_call 39; refine (HBP.out _ (show Below w13.heap.size w13 _ by with_reducible assumption)).mono ?_; rintro e w26 ⟨rfl, hb26⟩; have hbw26 : Below w13.heap.size w13 w26 := Below.trans (show Below w13.heap.size w13 _ by with_reducible assumption) (hb26.mono (Below.size (show Below w13.heap.size w13 _ by with_reducible assumption))); have hS26 := HSS.out _ hbw26) | (go_at_call 40; refine (HBR.out _ (show Below w13.heap.size w13 _ by with_reducible assumption)).mono ?_; rintro e w26 ⟨rfl, hb26⟩; have hbw26 : Below w13.heap.size w13 w26 := Below.trans (show Below w13.heap.size w13 _ by with_reducible assumption) (hb26.mono (Below.size (show Below w13.heap.size w13 _ by with_reducible assumption))); have hS26 := HSS.out _ hbw26))
          all_goals
            have hb14 := hbw26
            clear hS26 hS25 hS24 hS23 hS22 hS21 hS20 hS13 hbw13 hb20 hb21 hb22 hb23 hb24 hb25 hb26 hbw20 hbw21 hbw22 hbw23 hbw24 hbw25
            have HA14 := Lib.hid (HA13.out.below hb14)
            have HC14 := Lib.hid (HC13.out.below hb14)
            have HT14 := Lib.hid (HT13.out.below hb14)
            have HR14 := Lib.hid ((HR13.out.below hb14).low (lo' := w1.heap.size) (by have := HT9.out.2.size; omega))
            have HQ14 := Lib.hid ((HQ13.out.below hb14).low (lo' := w1.heap.size) (by have := HT9.out.2.size; have := HO1.out; omega))
            have HX14 := Lib.hid (HX13.out.below hb14)
            have HY14 := Lib.hid (HYN.out.below hb14)
            have hs14 := hb14.size
            clear hb14 hbw26 HA13 HC13 HT13 HR13 HQ13 HX13 HYN HA9 HC9 HSS HSM HMP HMR HCP HCR HBP HBR HBD HBE HRP HRR
            go_upto_region 24 with fail
            have x0 := HX14.out.cell 0
            have x1 := HX14.out.cell 1
            have y0 := HY14.out.cell 0
            have y1 := HY14.out.cell 1
            have u0 := HA14.out.x0
            have u1 := HA14.out.x1
            have u2 := HC14.out.x0
            have u3 := HC14.out.x1
            have u4 := HA14.out.fz 0
            have u5 := HA14.out.fz 1
            have u6 := HC14.out.fz 0
            have u7 := HC14.out.fz 1
            have n1 : ¬ X = B := by have := HO1.out; omega
            have n2' : ¬ X = C := by have := HO1.out; omega
            have n3 : ¬ Y = B := by have := HO1.out; omega
            have n4 : ¬ Y = C := by have := HO1.out; omega
            have n5 : ¬ B = C := by omega
            have n6 : ¬ C = B := by omega
            have n7 : ¬ B = X := by have := HO1.out; omega
            have n8' : ¬ C = X := by have := HO1.out; omega
            have n9 : ¬ B = Y := by have := HO1.out; omega
            have n10 : ¬ C = Y := by have := HO1.out; omega
            have HDS' : Hid (g1 ≠ C ∧ g2 ≠ C ∧ k1 ≠ B ∧ k2 ≠ B) := Lib.hid (by have := HO1.out; omega)
            have hTB : TStep w1 g w26 := HT14.out
            have HKA : Hid (∀ u v u' v', TStep w1 g ((((w26.setCell ⟨B, 0, none⟩ u).setCell ⟨B, 1, none⟩ v).setCell ⟨C, 0, none⟩ u').setCell ⟨C, 1, none⟩ v').drew) := Lib.hid (fun u v u' v' => (tover hTB hgw (((((Below.refl _ w26).mono hTB.2.size).setCell (p := ⟨B, 0, none⟩) HA14.out.lB u).setCell (p := ⟨B, 1, none⟩) HA14.out.lB v).setCell (p := ⟨C, 0, none⟩) HC14.out.lB u' |>.setCell (p := ⟨C, 1, none⟩) HC14.out.lB v')).below (Below.refl _ _).drew)
            have HZA : Hid (∀ u v u' v', C + 1 ≤ ((((w26.setCell ⟨B, 0, none⟩ u).setCell ⟨B, 1, none⟩ v).setCell ⟨C, 0, none⟩ u').setCell ⟨C, 1, none⟩ v').drew.heap.size) := Lib.hid (fun u v u' v' => by show C + 1 ≤ (((((w26.setCell ⟨B, 0, none⟩ u).setCell ⟨B, 1, none⟩ v).setCell ⟨C, 0, none⟩ u').setCell ⟨C, 1, none⟩ v')).heap.size; simp only [World.size_setCell]; have := HO1.out; omega)
            have HKB : Hid (∀ u v u' v', TStep w1 g ((((w26.setCell ⟨C, 0, none⟩ u).setCell ⟨C, 1, none⟩ v).setCell ⟨B, 0, none⟩ u').setCell ⟨B, 1, none⟩ v').drew) := Lib.hid (fun u v u' v' => (tover hTB hgw (((((Below.refl _ w26).mono hTB.2.size).setCell (p := ⟨C, 0, none⟩) HC14.out.lB u).setCell (p := ⟨C, 1, none⟩) HC14.out.lB v).setCell (p := ⟨B, 0, none⟩) HA14.out.lB u' |>.setCell (p := ⟨B, 1, none⟩) HA14.out.lB v')).below (Below.refl _ _).drew)
            have HZB : Hid (∀ u v u' v', C + 1 ≤ ((((w26.setCell ⟨C, 0, none⟩ u).setCell ⟨C, 1, none⟩ v).setCell ⟨B, 0, none⟩ u').setCell ⟨B, 1, none⟩ v').drew.heap.size) := Lib.hid (fun u v u' v' => by show C + 1 ≤ (((((w26.setCell ⟨C, 0, none⟩ u).setCell ⟨C, 1, none⟩ v).setCell ⟨B, 0, none⟩ u').setCell ⟨B, 1, none⟩ v')).heap.size; simp only [World.size_setCell]; have := HO1.out; omega)
            have HTA := Lib.hid (have z := (two_put (f1 := f1) (f2 := f2) (h1 := h1) (h2 := h2) HA14.out HC14.out n5 HR14.out HQ14.out (by have := HO1.out; omega) (by have := HO1.out; omega) HDS.out.2.2 hn' hm'); And.intro z.1.drew z.2.drew)
            have HTC := Lib.hid (have z := (two_put (f1 := h1) (f2 := h2) (h1 := f1) (h2 := f2) HC14.out HA14.out n6 HQ14.out HR14.out (by have := HO1.out; omega) (by have := HO1.out; omega) ⟨HDS.out.1, HDS.out.2.1⟩ hn' hm'); And.intro z.1.drew z.2.drew)
            clear hTB
            go_region
            all_goals go_wp2_with fail
            all_goals first
              | with_reducible refine ⟨⟨l', i + 1, g1, g2, f1, f2, k1, k2, h1, h2, ?_, ?_, HTA.out.1, HTA.out.2, HLE, HKA.out _ _ _ _, HZA.out _ _ _ _, HDS'⟩, ?_⟩
              | with_reducible refine ⟨⟨l', i + 1, g1, g2, f1, f2, k1, k2, h1, h2, ?_, ?_, HTC.out.2, HTC.out.1, HLE, HKB.out _ _ _ _, HZB.out _ _ _ _, HDS'⟩, ?_⟩
            all_goals first
              | exact hlt
              | go_num
              | (simp [intOf]; omega)
      | false =>
        go_wp2_with fail
        refine (sane12_any w4).mono ?_
        rintro e w' ⟨rfl, hb⟩
        go_wp2_with fail
        go_ret
        exact ⟨rfl, (HB1.out.grown HT4.out.2 HB1.out.size (fun j e => by have := Option.some.inj e; omega)).trans (hb.mono (by have := HT4.out.2.size; have := HB1.out.size; omega))⟩
    · have hd : decide ((i : Int) < 90) = false := by simp; omega
      go_wp2_with fail
      refine (sane12_any wr).mono ?_
      rintro e w' ⟨rfl, hb⟩
      go_wp2_with fail
      go_ret
      exact ⟨rfl, (HB1.out.grown HT.out.2 HB1.out.size (fun j e => by have := Option.some.inj e; omega)).trans (hb.mono (by have := HT.out.2.size; have := HB1.out.size; omega))⟩
end Lf
end Go.Proofs.YtmhbloefmknikaaGreatDoor
