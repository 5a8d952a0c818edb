/-
  made, play and has of chapter 11's statements. Conditions: the block is a tape, the letters are there.
-/
import Derived.Test.YtmhbloefmknikaaGreatDoorLaD
import Derived.Test.YtmhbloefmknikaaGreatDoorLaH
namespace Go.Proofs.YtmhbloefmknikaaGreatDoor
open Go.RowKit Go.Maps
namespace Lk
/-- A list that nobody works on, with two to four processes. -/
structure Fresh (l : Ls) (n m : Nat) : Prop where
  n8 : n ≤ 8
  led : Led l
  hn : l.cs.length = n
  hm : l.ps.length = m
  m2 : 2 ≤ m
  m4 : m ≤ 4
  pr : ∀ p, l.pr p = Po.zero
theorem fresh_new {ks : List ByteArray} {mm : Nat} (ok : NwOk ks mm) (sel : Nat → Bool) (h6 : ks.length ≤ 6) (h2 : 2 ≤ mm) (h4 : mm ≤ 4) : Fresh (newV ks mm sel) (ks.length + 2) mm :=
  ⟨by omega, led_new ok sel, newV_len _ _ _, by simp [newV], h2, h4, fun p => nw_pr _ _ _⟩
def MadP (g : Nat) (w : World) (e : Ending) (w' : World) : Prop := ∃ (l : Ls) (n m G1 G2 d1 d2 : Nat), e = .returned (.tuple #[.agg #[.slice (some ⟨G1, 0, none⟩) n d1, .slice (some ⟨G2, 0, none⟩) m d2], .bool true]) ∧ Fresh l n m ∧ RdL w' w.heap.size (some ⟨G1, 0, none⟩) (some ⟨G2, 0, none⟩) l ∧ TStep w g w'
theorem NewP.ok {ks : List ByteArray} {is : List Bool} {mm kn : Nat} {w : World} {e : Ending} {w' : World} (h : NewP ks is (mm : Int) kn w e w') (h0 : newE ks is (mm : Int) = 0) : ∃ G1 G2 d1 d2, e = .returned (.tuple #[.agg #[.slice (some ⟨G1, 0, none⟩) (kn + 2) d1, .slice (some ⟨G2, 0, none⟩) mm d2], .int .i64 0]) ∧ RdL w' w.heap.size (some ⟨G1, 0, none⟩) (some ⟨G2, 0, none⟩) (newV ks mm (selV is)) ∧ Below w.heap.size w w' := by
  rcases h with ⟨q, -, -⟩ | ⟨-, q⟩
  · exact absurd h0 q
  · exact q
set_option maxRecDepth 100000 in
set_option maxHeartbeats 6400000 in
theorem made_any (g : Nat) (w : World) (ht : Tape w g) (hl : Lets w) (hne : 0 ≠ g) (hg : g < w.heap.size) :
    Calls Tryz.prog 8 #[.pointer (some ⟨g, 0, none⟩)] w (MadP g w) := by
  have hb := (Below.refl w.heap.size w).alloc (Nat.le_refl _) (.cells #[.slice none 0 0, .slice none 0 0] 28)
  have HB := Lib.hid hb
  have HY := Lib.hid (Has.new w 28 #[.slice none 0 0, .slice none 0 0])
  have HS0 := Lib.hid ((TStep.refl ht).below hb)
  have HL0 := Lib.hid (hl.below hb)
  have hsz : (w.alloc (.cells #[.slice none 0 0, .slice none 0 0] 28)).heap.size = w.heap.size + 1 := World.size_alloc _ _
  clear hb ht hl
  go_enter Tryz.func8, Tryz.ntmps8
  go_upto_region 1 with fail
  generalize w.alloc (.cells #[.slice none 0 0, .slice none 0 0] 28) = W at *
  obtain ⟨B, hB⟩ : ∃ B, B = w.heap.size := ⟨_, rfl⟩
  have HBB := Lib.hid hB
  rw [← hB] at HB HY hsz hg ⊢
  clear hB
  go_wp2_with (first | (go_at_call 45; (refine (keys_any g W HS0.out.1 HL0.out hne (by omega)).mono ?_); rintro e w1 ⟨v1, v2, ks, is, rfl, hil, hk6, hnd, hvk, ho1, ho2, hdj, hst⟩; obtain ⟨A1, c1, hv1, _, _, hr1⟩ := ho1.read (fun _ => rfl); obtain ⟨A2, c2, hv2, _, _, hr2⟩ := ho2.read (fun _ => rfl); rw [hil] at hv2; obtain ⟨kn, hkn⟩ : ∃ kn, kn = ks.length := ⟨_, rfl⟩; rw [← hkn] at hv1 hv2 hil hk6; subst hv1 hv2; have HKN := Lib.hid hkn; have HIL := Lib.hid hil; have HND := Lib.hid hnd; have HVK := Lib.hid hvk; have HR1 := Lib.hid hr1; have HR2 := Lib.hid hr2; have HS1 := Lib.hid hst; have hs1 := hst.2.size; have HY1 := Lib.hid (show Has w1 B 28 #[.slice none 0 0, .slice none 0 0] from (hst.2.block B (by omega) (fun e => (by have := Option.some.inj e; omega))).trans HY.out); clear hkn hil hnd hvk ho1 ho2 hr1 hr2 hst hdj) | (go_at_call 11; (refine (next_any g _ w1 HS1.out.1 (by omega)).mono ?_); rintro e w2 ⟨r, r0, r1, rfl, hst⟩; obtain ⟨q, rfl⟩ := Int.eq_ofNat_of_zero_le r0; have hq : q ≤ 2 := (by omega); have HS2 := Lib.hid (HS1.out.trans hst); have hs2 := hst.2.size; have HQ1 := Lib.hid (RdR.low (RdR.step HR1.out (by omega) hst) (Nat.zero_le _)); have HQ2 := Lib.hid (RdR.low (RdR.step HR2.out (by omega) hst) (Nat.zero_le _)); have HY2 := Lib.hid (show Has w2 B 28 #[.slice none 0 0, .slice none 0 0] from (hst.2.block B (by omega) (fun e => (by have := Option.some.inj e; omega))).trans HY1.out); have hwq : IntKind.i64.wrap (2 + (q : Int)) = ((q + 2 : Nat) : Int) := (by rw [show ((q + 2 : Nat) : Int) = 2 + (q : Int) by omega]; exact IntWalk.i64_in _ (by omega)); clear hst r1 r0; have HOK : Hid (NwOk ks (q + 2)) := Lib.hid ⟨by rw [← HKN.out]; omega, by omega, by omega, HVK.out, HND.out⟩; have HE0 : Hid (newE ks is ((q + 2 : Nat) : Int) = 0) := (Lib.hid (by unfold newE; rw [if_neg (by rw [← HKN.out]; omega), if_neg (by omega), if_neg (fun z => z.elim (fun z => z (by rw [HIL.out, ← HKN.out])) (fun z => z HVK.out)), if_neg (fun z => z HND.out)]))) | (go_at_call 46; (refine (new_any A1 A2 ks is kn kn c1 c2 ((q + 2 : Nat) : Int) w2 HKN.out.symm HIL.out HQ1.out HQ2.out (by omega) (by omega)).mono ?_); intro e w3 h3; obtain ⟨G1, G2, d1, d2, rfl, hr, hb3⟩ := h3.ok HE0.out; have HLA := Lib.hid (HoL.new (d1 := d1) (d2 := d2) (t := 28) (n := kn + 2) (m := q + 2) (RdL.low hr (by omega : B + 1 ≤ w2.heap.size)) (led_new HOK.out (selV is)).1 (by have := hb3.size; omega) (by rw [newV_len, ← HKN.out]) (by simp [newV])); have hba := (Below.refl w3.heap.size w3).alloc (Nat.le_refl _) (.cells #[.slice (some ⟨G1, 0, none⟩) (kn + 2) d1, .slice (some ⟨G2, 0, none⟩) (q + 2) d2] 28); have HT3 := Lib.hid ((HS2.out.below hb3).below hba); have HB3 := Lib.hid (hb3.trans (hba.mono hb3.size)); have hs3 := hb3.size; clear hr hb3 h3 hba) | (go_at_call 47; (refine (rnew_any A1 A2 ks is kn kn c1 c2 ((q + 2 : Nat) : Int) _ HKN.out.symm HIL.out (RdR.below HQ1.out HB3.out) (RdR.below HQ2.out HB3.out) (by omega) (by omega)).mono ?_); intro e w4 h4; obtain ⟨J1, J2, e1, e2, rfl, hr, hb4⟩ := h4.ok HE0.out; have hx4 := hb4.size; rw [World.size_alloc] at hx4; have HLA4 := Lib.hid (HLA.out.below hb4); have HLB := Lib.hid (HoL.new (d1 := e1) (d2 := e2) (t := 28) (n := kn + 2) (m := q + 2) (RdL.low hr (by rw [World.size_alloc]; omega : B + 1 ≤ _)) (led_new HOK.out (selV is)).1 (by omega) (by rw [newV_len, ← HKN.out]) (by simp [newV])); have hba := (Below.refl w4.heap.size w4).alloc (Nat.le_refl _) (.cells #[.slice (some ⟨J1, 0, none⟩) (kn + 2) e1, .slice (some ⟨J2, 0, none⟩) (q + 2) e2] 28); have HT4 := Lib.hid ((HT3.out.below hb4).below hba); have HLA5 := Lib.hid (HLA4.out.below hba); have HY4 := Lib.hid (((HY2.out.below HB3.out).below hb4).below hba); clear hr hb4 h4 hba))
  have hbx := HB.out.size
  have hC1 : B < w3.heap.size := by have := hs3; have := hs2; have := hs1; omega
  have hC2 : B < w4.heap.size := by omega
  generalize w4.alloc (.cells #[.slice (some ⟨J1, 0, none⟩) (kn + 2) e1, .slice (some ⟨J2, 0, none⟩) (q + 2) e2] 28) = V at *
  obtain ⟨C1, hc1⟩ : ∃ C1, C1 = w3.heap.size := ⟨_, rfl⟩
  obtain ⟨C2, hc2⟩ : ∃ C2, C2 = w4.heap.size := ⟨_, rfl⟩
  rw [← hc1] at HLA5 hC1 ⊢
  rw [← hc2] at HLB hC2 ⊢
  have a0 := HLA5.out.x0
  have a1 := HLA5.out.x1
  have b0 := HLB.out.x0
  have b1 := HLB.out.x1
  have y0 := HY4.out.cell 0
  have y1 := HY4.out.cell 1
  have z0 := HY4.out.frozen 0
  have z1 := HY4.out.frozen 1
  have n1 : ¬ B = C1 := by omega
  have n2 : ¬ B = C2 := by omega
  have n3 : ¬ C1 = B := by omega
  have n4 : ¬ C2 = B := by omega
  have hl1 := rd_lo HLA5.out.rd (led_new HOK.out (selV is)).1
  have hl2 := rd_lo HLB.out.rd (led_new HOK.out (selV is)).1
  have HLA6 := HLA5
  have g1B : ¬ B = G1 := by omega
  have g2B : ¬ B = G2 := by omega
  have j1B : ¬ B = J1 := by omega
  have j2B : ¬ B = J2 := by omega
  have HFR : Hid (Fresh (newV ks (q + 2) (selV is)) (kn + 2) (q + 2)) := Lib.hid (by rw [HKN.out]; exact fresh_new HOK.out _ (by rw [← HKN.out]; exact hk6) (by omega) (by omega))
  have hcs : (newV ks (q + 2) (selV is)).cs.length = kn + 2 := HFR.out.hn
  have hps : (newV ks (q + 2) (selV is)).ps.length = q + 2 := HFR.out.hm
  have HLD : Hid (HoL V.drew C1 (B + 1) (newV ks (q + 2) (selV is)) (kn + 2) (q + 2) G1 G2 d1 d2) := Lib.hid HLA5.out.drew
  have HLE : Hid (HoL V.drew C2 (B + 1) (newV ks (q + 2) (selV is)) (kn + 2) (q + 2) J1 J2 e1 e2) := Lib.hid HLB.out.drew
  have HYD : Hid (Has V.drew B 28 #[.slice none 0 0, .slice none 0 0]) := Lib.hid (HY4.out.below (Below.refl _ V).drew)
  have HLD2 : Hid (HoL ((V.setCell ⟨B, 0, none⟩ (.slice (some ⟨G1, 0, none⟩) (kn + 2) d1)).setCell ⟨B, 1, none⟩ (.slice (some ⟨G2, 0, none⟩) (q + 2) d2)).drew C1 (B + 1) (newV ks (q + 2) (selV is)) (kn + 2) (q + 2) G1 G2 d1 d2) := Lib.hid ((HLA5.out.far (p := ⟨B, 0, none⟩) n1 g1B g2B _).far (p := ⟨B, 1, none⟩) n1 g1B g2B _).drew
  have HLE2 : Hid (HoL ((V.setCell ⟨B, 0, none⟩ (.slice (some ⟨G1, 0, none⟩) (kn + 2) d1)).setCell ⟨B, 1, none⟩ (.slice (some ⟨G2, 0, none⟩) (q + 2) d2)).drew C2 (B + 1) (newV ks (q + 2) (selV is)) (kn + 2) (q + 2) J1 J2 e1 e2) := Lib.hid ((HLB.out.far (p := ⟨B, 0, none⟩) n2 j1B j2B _).far (p := ⟨B, 1, none⟩) n2 j1B j2B _).drew
  have HYD2 : Hid (Has ((V.setCell ⟨B, 0, none⟩ (.slice (some ⟨G1, 0, none⟩) (kn + 2) d1)).setCell ⟨B, 1, none⟩ (.slice (some ⟨G2, 0, none⟩) (q + 2) d2)).drew B 28 #[.slice (some ⟨G1, 0, none⟩) (kn + 2) d1, .slice (some ⟨G2, 0, none⟩) (q + 2) d2]) := Lib.hid (((HY4.out.set_ 0 _).set_ 1 _).below (Below.refl _ _).drew)
  have HSM1 := Lib.hid (rsame_self (some ⟨G1, 0, none⟩) (some ⟨G2, 0, none⟩) (some ⟨J1, 0, none⟩) (some ⟨J2, 0, none⟩) (newV ks (q + 2) (selV is)) (kn + 2) (q + 2) d1 d2 e1 e2 (B + 1) (B + 1) V.drew hcs hps HLD.out.rd HLE.out.rd (by omega) (by omega))
  have HSM2 := Lib.hid (rsame_self (some ⟨G1, 0, none⟩) (some ⟨G2, 0, none⟩) (some ⟨J1, 0, none⟩) (some ⟨J2, 0, none⟩) (newV ks (q + 2) (selV is)) (kn + 2) (q + 2) d1 d2 e1 e2 (B + 1) (B + 1) ((V.setCell ⟨B, 0, none⟩ (.slice (some ⟨G1, 0, none⟩) (kn + 2) d1)).setCell ⟨B, 1, none⟩ (.slice (some ⟨G2, 0, none⟩) (q + 2) d2)).drew hcs hps HLD2.out.rd HLE2.out.rd (by omega) (by omega))
  have hg9 : g < w.heap.size := by rw [← HBB.out]; exact hg
  have HTV := Lib.hid (HS0.out.trans HT4.out)
  have HBV := Lib.hid ((Below.refl V.heap.size V).drew.mono (show w.heap.size ≤ V.heap.size from HTV.out.2.size))
  have HBV2 : Hid (Below w.heap.size V ((V.setCell ⟨B, 0, none⟩ (.slice (some ⟨G1, 0, none⟩) (kn + 2) d1)).setCell ⟨B, 1, none⟩ (.slice (some ⟨G2, 0, none⟩) (q + 2) d2)).drew) := Lib.hid ((((Below.refl V.heap.size V).mono (show w.heap.size ≤ V.heap.size from HTV.out.2.size)).setCell (p := ⟨B, 0, none⟩) (by have := HBB.out; simp only; omega) _).setCell (p := ⟨B, 1, none⟩) (by have := HBB.out; simp only; omega) _).drew
  have c0 := HLD2.out.x0
  have c1' := HLD2.out.x1
  have c2' := HLE2.out.x0
  have c3' := HLE2.out.x1
  clear HLA HLA4 HB3 HT3 HY2 HY1 hx4 hc1 hc2 hcs hps
  have hS0 : (V.drew.cell? ⟨C1, 0, none⟩ = some (.slice (some ⟨G1, 0, none⟩) (kn + 2) d1) ∧ V.drew.cell? ⟨C1, 1, none⟩ = some (.slice (some ⟨G2, 0, none⟩) (q + 2) d2) ∧ V.drew.cell? ⟨C2, 0, none⟩ = some (.slice (some ⟨J1, 0, none⟩) (kn + 2) e1) ∧ V.drew.cell? ⟨C2, 1, none⟩ = some (.slice (some ⟨J2, 0, none⟩) (q + 2) e2)) := ⟨HLD.out.x0, HLD.out.x1, HLE.out.x0, HLE.out.x1⟩
  have hS1 : (V.cell? ⟨C1, 0, none⟩ = some (.slice (some ⟨G1, 0, none⟩) (kn + 2) d1) ∧ V.cell? ⟨C1, 1, none⟩ = some (.slice (some ⟨G2, 0, none⟩) (q + 2) d2) ∧ V.cell? ⟨C2, 0, none⟩ = some (.slice (some ⟨J1, 0, none⟩) (kn + 2) e1) ∧ V.cell? ⟨C2, 1, none⟩ = some (.slice (some ⟨J2, 0, none⟩) (q + 2) e2)) := ⟨a0, a1, b0, b1⟩
  have hS2 : (((V.setCell ⟨B, 0, none⟩ (.slice (some ⟨G1, 0, none⟩) (kn + 2) d1)).setCell ⟨B, 1, none⟩ (.slice (some ⟨G2, 0, none⟩) (q + 2) d2)).drew.cell? ⟨C1, 0, none⟩ = some (.slice (some ⟨G1, 0, none⟩) (kn + 2) d1) ∧ ((V.setCell ⟨B, 0, none⟩ (.slice (some ⟨G1, 0, none⟩) (kn + 2) d1)).setCell ⟨B, 1, none⟩ (.slice (some ⟨G2, 0, none⟩) (q + 2) d2)).drew.cell? ⟨C1, 1, none⟩ = some (.slice (some ⟨G2, 0, none⟩) (q + 2) d2) ∧ ((V.setCell ⟨B, 0, none⟩ (.slice (some ⟨G1, 0, none⟩) (kn + 2) d1)).setCell ⟨B, 1, none⟩ (.slice (some ⟨G2, 0, none⟩) (q + 2) d2)).drew.cell? ⟨C2, 0, none⟩ = some (.slice (some ⟨J1, 0, none⟩) (kn + 2) e1) ∧ ((V.setCell ⟨B, 0, none⟩ (.slice (some ⟨G1, 0, none⟩) (kn + 2) d1)).setCell ⟨B, 1, none⟩ (.slice (some ⟨G2, 0, none⟩) (q + 2) d2)).drew.cell? ⟨C2, 1, none⟩ = some (.slice (some ⟨J2, 0, none⟩) (q + 2) e2)) := ⟨HLD2.out.x0, HLD2.out.x1, HLE2.out.x0, HLE2.out.x1⟩
  have hS3 : (((V.setCell ⟨B, 0, none⟩ (.slice (some ⟨G1, 0, none⟩) (kn + 2) d1)).setCell ⟨B, 1, none⟩ (.slice (some ⟨G2, 0, none⟩) (q + 2) d2)).cell? ⟨C1, 0, none⟩ = some (.slice (some ⟨G1, 0, none⟩) (kn + 2) d1) ∧ ((V.setCell ⟨B, 0, none⟩ (.slice (some ⟨G1, 0, none⟩) (kn + 2) d1)).setCell ⟨B, 1, none⟩ (.slice (some ⟨G2, 0, none⟩) (q + 2) d2)).cell? ⟨C1, 1, none⟩ = some (.slice (some ⟨G2, 0, none⟩) (q + 2) d2) ∧ ((V.setCell ⟨B, 0, none⟩ (.slice (some ⟨G1, 0, none⟩) (kn + 2) d1)).setCell ⟨B, 1, none⟩ (.slice (some ⟨G2, 0, none⟩) (q + 2) d2)).cell? ⟨C2, 0, none⟩ = some (.slice (some ⟨J1, 0, none⟩) (kn + 2) e1) ∧ ((V.setCell ⟨B, 0, none⟩ (.slice (some ⟨G1, 0, none⟩) (kn + 2) d1)).setCell ⟨B, 1, none⟩ (.slice (some ⟨G2, 0, none⟩) (q + 2) d2)).cell? ⟨C2, 1, none⟩ = some (.slice (some ⟨J2, 0, none⟩) (q + 2) e2)) := ⟨HLD2.out.x0, HLD2.out.x1, HLE2.out.x0, HLE2.out.x1⟩
  go_region_held3 (fun w' => (w'.cell? ⟨C1, 0, none⟩ = some (.slice (some ⟨G1, 0, none⟩) (kn + 2) d1) ∧ w'.cell? ⟨C1, 1, none⟩ = some (.slice (some ⟨G2, 0, none⟩) (q + 2) d2) ∧ w'.cell? ⟨C2, 0, none⟩ = some (.slice (some ⟨J1, 0, none⟩) (kn + 2) e1) ∧ w'.cell? ⟨C2, 1, none⟩ = some (.slice (some ⟨J2, 0, none⟩) (q + 2) e2)))
    (first | with_reducible exact hF5 _ _ | with_reducible exact hS5 | with_reducible exact hS2 | with_reducible exact hS3 | with_reducible exact hS0 | with_reducible exact hS1 | with_reducible assumption)
    (first | (go_at_call 16; (with_reducible refine (HSM1.out).mono ?_); rintro e w5 ⟨rfl, hb5⟩; have HB5 := Lib.hid hb5; have a0 := (HLD.out.below hb5).x0; have a1 := (HLD.out.below hb5).x1; have b0 := (HLE.out.below hb5).x0; have b1 := (HLE.out.below hb5).x1; have y0 := (HYD.out.below hb5).cell 0; have y1 := (HYD.out.below hb5).cell 1; have z0 := (HYD.out.below hb5).frozen 0; have z1 := (HYD.out.below hb5).frozen 1; have HC := Lib.hid (twice0 w5 B (.slice (some ⟨G1, 0, none⟩) (kn + 2) d1) (.slice (some ⟨G2, 0, none⟩) (q + 2) d2) _ _ y0 y1); have HRF := Lib.hid (((HLD.out.below hb5).far (p := ⟨B, 0, none⟩) n1 g1B g2B (.slice (some ⟨G1, 0, none⟩) (kn + 2) d1)).far (p := ⟨B, 1, none⟩) n1 g1B g2B (.slice (some ⟨G2, 0, none⟩) (q + 2) d2)).rd; have HTF := Lib.hid (tover HTV.out hg9 ((HBV.out.trans (hb5.mono (Nat.le_trans HTV.out.2.size HBV.out.size))).setCell (p := ⟨B, 0, none⟩) (by have := HBB.out; simp only; omega) (.slice (some ⟨G1, 0, none⟩) (kn + 2) d1) |>.setCell (p := ⟨B, 1, none⟩) (by have := HBB.out; simp only; omega) (.slice (some ⟨G2, 0, none⟩) (q + 2) d2))); have hS5 : (w5.cell? ⟨C1, 0, none⟩ = some (.slice (some ⟨G1, 0, none⟩) (kn + 2) d1) ∧ w5.cell? ⟨C1, 1, none⟩ = some (.slice (some ⟨G2, 0, none⟩) (q + 2) d2) ∧ w5.cell? ⟨C2, 0, none⟩ = some (.slice (some ⟨J1, 0, none⟩) (kn + 2) e1) ∧ w5.cell? ⟨C2, 1, none⟩ = some (.slice (some ⟨J2, 0, none⟩) (q + 2) e2)) := ⟨a0, a1, b0, b1⟩; have hF5 : ∀ u v, (((w5.setCell ⟨B, 0, none⟩ u).setCell ⟨B, 1, none⟩ v).cell? ⟨C1, 0, none⟩ = some (.slice (some ⟨G1, 0, none⟩) (kn + 2) d1) ∧ ((w5.setCell ⟨B, 0, none⟩ u).setCell ⟨B, 1, none⟩ v).cell? ⟨C1, 1, none⟩ = some (.slice (some ⟨G2, 0, none⟩) (q + 2) d2) ∧ ((w5.setCell ⟨B, 0, none⟩ u).setCell ⟨B, 1, none⟩ v).cell? ⟨C2, 0, none⟩ = some (.slice (some ⟨J1, 0, none⟩) (kn + 2) e1) ∧ ((w5.setCell ⟨B, 0, none⟩ u).setCell ⟨B, 1, none⟩ v).cell? ⟨C2, 1, none⟩ = some (.slice (some ⟨J2, 0, none⟩) (q + 2) e2)) := (fun u v => ⟨(((HLD.out.below hb5).far (p := ⟨B, 0, none⟩) n1 g1B g2B u).far (p := ⟨B, 1, none⟩) n1 g1B g2B v).x0, (((HLD.out.below hb5).far (p := ⟨B, 0, none⟩) n1 g1B g2B u).far (p := ⟨B, 1, none⟩) n1 g1B g2B v).x1, (((HLE.out.below hb5).far (p := ⟨B, 0, none⟩) n2 j1B j2B u).far (p := ⟨B, 1, none⟩) n2 j1B j2B v).x0, (((HLE.out.below hb5).far (p := ⟨B, 0, none⟩) n2 j1B j2B u).far (p := ⟨B, 1, none⟩) n2 j1B j2B v).x1⟩); clear hb5) | (go_at_call 16; (with_reducible refine (HSM2.out).mono ?_); rintro e w5 ⟨rfl, hb5⟩; have HB5 := Lib.hid hb5; have a0 := (HLD2.out.below hb5).x0; have a1 := (HLD2.out.below hb5).x1; have b0 := (HLE2.out.below hb5).x0; have b1 := (HLE2.out.below hb5).x1; have y0 := (HYD2.out.below hb5).cell 0; have y1 := (HYD2.out.below hb5).cell 1; have z0 := (HYD2.out.below hb5).frozen 0; have z1 := (HYD2.out.below hb5).frozen 1; have HC := Lib.hid (show w5.cell? ⟨B, 0, none⟩ = some (.slice (some ⟨G1, 0, none⟩) (kn + 2) d1) ∧ w5.cell? ⟨B, 1, none⟩ = some (.slice (some ⟨G2, 0, none⟩) (q + 2) d2) from ⟨y0, y1⟩); have HRF := Lib.hid (HLD2.out.below hb5).rd; have HTF := Lib.hid (tover HTV.out hg9 (HBV2.out.trans (hb5.mono (Nat.le_trans HTV.out.2.size HBV2.out.size)))); have hS5 : (w5.cell? ⟨C1, 0, none⟩ = some (.slice (some ⟨G1, 0, none⟩) (kn + 2) d1) ∧ w5.cell? ⟨C1, 1, none⟩ = some (.slice (some ⟨G2, 0, none⟩) (q + 2) d2) ∧ w5.cell? ⟨C2, 0, none⟩ = some (.slice (some ⟨J1, 0, none⟩) (kn + 2) e1) ∧ w5.cell? ⟨C2, 1, none⟩ = some (.slice (some ⟨J2, 0, none⟩) (q + 2) e2)) := ⟨a0, a1, b0, b1⟩; clear hb5))
  all_goals (go_wp2_with fail; refine bodyPost_ret (results_list1 rfl _ _ B rfl HC.out.1 HC.out.2) rfl ⟨_, _, _, G1, G2, d1, d2, rfl, HFR.out, RdL.low HRF.out (by have := HBB.out; omega), HTF.out⟩)
end Lk
end Go.Proofs.YtmhbloefmknikaaGreatDoor
