/-
  damage of the law of chapter 11: some list comes of it, not longer than before. Conditions: the list can be read, no list is long; the tape goes on; 'letters' is as its initialiser lays it.
-/
import Derived.Test.YtmhbloefmknikaaGreatDoorLaH
import Derived.Test.YtmhbloefmknikaaGreatDoorMbI
import Derived.Test.YtmhbloefmknikaaGreatDoorLwG
import Derived.Deep.RegionLaw
import Derived.Deep.AppendLies
import Derived.Deep.RegionHeld3
namespace Go.Proofs.YtmhbloefmknikaaGreatDoor
open Go.RowKit Go.Maps
namespace Lk
theorem once0 (w : World) (B : Nat) (u x y : Value) (h0 : w.cell? ⟨B, 0, none⟩ = some x) (h1 : w.cell? ⟨B, 1, none⟩ = some y) : (w.setCell ⟨B, 0, none⟩ u).cell? ⟨B, 0, none⟩ = some u ∧ (w.setCell ⟨B, 0, none⟩ u).cell? ⟨B, 1, none⟩ = some y := by
  constructor
  · simp [go_sem, h0]
  · simp [go_sem, h1]
/-- What damage answers. -/
def DmgP (g n m : Nat) (w : World) (e : Ending) (w' : World) : Prop := ∃ (l' : Ls) (n' m' : Nat) (P1 P2 : Option Addr) (d1 d2 : Nat), e = .returned (.agg #[.slice P1 n' d1, .slice P2 m' d2]) ∧ l'.cs.length = n' ∧ l'.ps.length = m' ∧ n' ≤ n ∧ m' ≤ m ∧ RdL w' w.heap.size P1 P2 l' ∧ TStep w g w'
theorem dmg_end {w w7 w8 : World} {g B n m n' m' d1 d2 : Nat} {l' : Ls} {P1 P2 : Option Addr} (hB : B = w.heap.size) (ht : TStep w g w7) (hg : g < w.heap.size) (hb : Below w.heap.size w7 w8) (hr : RdL w8 (B + 1 + 1) P1 P2 l') (hn : l'.cs.length = n') (hm : l'.ps.length = m') (h1 : n' ≤ n) (h2 : m' ≤ m) (u v : Value) :
    DmgP g n m w (.returned (.agg #[.slice P1 n' d1, .slice P2 m' d2])) ((w8.setCell ⟨B + 1, 0, none⟩ u).setCell ⟨B + 1, 1, none⟩ v) := by
  subst hB
  exact ⟨l', n', m', P1, P2, d1, d2, rfl, hn, hm, h1, h2, (RdL.mk (rdr_set2 hr.cs (by omega) u v) (rdr_set2 hr.ps (by omega) u v)).low (by omega), tover ht hg ((hb.setCell (p := ⟨w.heap.size + 1, 0, none⟩) (by simp only; omega) u).setCell (p := ⟨w.heap.size + 1, 1, none⟩) (by simp only; omega) v)⟩
theorem MemL.tst {w w' : World} {base G1 G2 c1 c2 g : Nat} {l : Ls} (h : MemL w base G1 G2 c1 c2 l) (hg : g < base) (q : TStep w g w') : MemL w' base G1 G2 c1 c2 l := h.keep fun i h1 h2 => q.2.block i h2 (fun e => by have := Option.some.inj e; omega)
theorem rdl_take {w : World} {lo : Nat} {A1 A2 : Option Addr} {l : Ls} (h : RdL w lo A1 A2 l) (k : Nat) : RdL w lo A1 A2 ⟨l.cs.take k, l.ps⟩ := ⟨fun hc => by
  have hne : l.cs ≠ [] := fun e => hc (by show l.cs.take k = []; rw [e]; simp)
  obtain ⟨b, o, e, h1, h2, h3⟩ := h.cs hne
  refine ⟨b, o, e, h1, h2, fun i hi j u hu => ?_⟩
  have hi2 : i < l.cs.length := by have : i < (l.cs.take k).length := hi; rw [List.length_take] at this; omega
  have he : (l.cs.take k)[i]'hi = l.cs[i] := List.getElem_take
  exact h3 i hi2 j u (by rw [← he]; exact hu), h.ps⟩
theorem mem_keyC {w : World} {base G1 G2 c1 c2 i : Nat} {l : Ls} (h : MemL w base G1 G2 c1 c2 l) (hi : i < l.cs.length) (x : ByteArray) : RdL (w.setCell ⟨G1, i * 5, none⟩ (.string x)) base (some ⟨G1, 0, none⟩) (some ⟨G2, 0, none⟩) (l.setC i { l.at_ i with key := x }) := (h.setC hi 0 (by decide) (.string x) { l.at_ i with key := x } rfl).rd
theorem mem_leftC {w : World} {base G1 G2 c1 c2 i : Nat} {l : Ls} (h : MemL w base G1 G2 c1 c2 l) (hi : i < l.cs.length) (x : Int) : RdL (w.setCell ⟨G1, i * 5 + 1, none⟩ (.int .i64 x)) base (some ⟨G1, 0, none⟩) (some ⟨G2, 0, none⟩) (l.setC i { l.at_ i with left := x }) := (h.setC hi 1 (by decide) (.int .i64 x) { l.at_ i with left := x } rfl).rd
theorem mem_rightC {w : World} {base G1 G2 c1 c2 i : Nat} {l : Ls} (h : MemL w base G1 G2 c1 c2 l) (hi : i < l.cs.length) (x : Int) : RdL (w.setCell ⟨G1, i * 5 + 2, none⟩ (.int .i64 x)) base (some ⟨G1, 0, none⟩) (some ⟨G2, 0, none⟩) (l.setC i { l.at_ i with right := x }) := (h.setC hi 2 (by decide) (.int .i64 x) { l.at_ i with right := x } rfl).rd
theorem mem_lockC {w : World} {base G1 G2 c1 c2 i : Nat} {l : Ls} (h : MemL w base G1 G2 c1 c2 l) (hi : i < l.cs.length) (x : Int) : RdL (w.setCell ⟨G1, i * 5 + 3, none⟩ (.int .i64 x)) base (some ⟨G1, 0, none⟩) (some ⟨G2, 0, none⟩) (l.setC i { l.at_ i with lock := x }) := (h.setC hi 3 (by decide) (.int .i64 x) { l.at_ i with lock := x } rfl).rd
theorem mem_goneC {w : World} {base G1 G2 c1 c2 i : Nat} {l : Ls} (h : MemL w base G1 G2 c1 c2 l) (hi : i < l.cs.length) (x : Bool) : RdL (w.setCell ⟨G1, i * 5 + 4, none⟩ (.bool x)) base (some ⟨G1, 0, none⟩) (some ⟨G2, 0, none⟩) (l.setC i { l.at_ i with gone := x }) := (h.setC hi 4 (by decide) (.bool x) { l.at_ i with gone := x } rfl).rd
theorem mem_kindP {w : World} {base G1 G2 c1 c2 i : Nat} {l : Ls} (h : MemL w base G1 G2 c1 c2 l) (hi : i < l.ps.length) (x : Int) : RdL (w.setCell ⟨G2, i * 7, none⟩ (.int .i64 x)) base (some ⟨G1, 0, none⟩) (some ⟨G2, 0, none⟩) (l.setP i { l.pr i with kind := x }) := (h.setP hi 0 (by decide) (.int .i64 x) { l.pr i with kind := x } rfl).rd
theorem mem_cellP {w : World} {base G1 G2 c1 c2 i : Nat} {l : Ls} (h : MemL w base G1 G2 c1 c2 l) (hi : i < l.ps.length) (x : Int) : RdL (w.setCell ⟨G2, i * 7 + 1, none⟩ (.int .i64 x)) base (some ⟨G1, 0, none⟩) (some ⟨G2, 0, none⟩) (l.setP i { l.pr i with cell := x }) := (h.setP hi 1 (by decide) (.int .i64 x) { l.pr i with cell := x } rfl).rd
theorem mem_phaseP {w : World} {base G1 G2 c1 c2 i : Nat} {l : Ls} (h : MemL w base G1 G2 c1 c2 l) (hi : i < l.ps.length) (x : Int) : RdL (w.setCell ⟨G2, i * 7 + 2, none⟩ (.int .i64 x)) base (some ⟨G1, 0, none⟩) (some ⟨G2, 0, none⟩) (l.setP i { l.pr i with phase := x }) := (h.setP hi 2 (by decide) (.int .i64 x) { l.pr i with phase := x } rfl).rd
theorem mem_predP {w : World} {base G1 G2 c1 c2 i : Nat} {l : Ls} (h : MemL w base G1 G2 c1 c2 l) (hi : i < l.ps.length) (x : Int) : RdL (w.setCell ⟨G2, i * 7 + 3, none⟩ (.int .i64 x)) base (some ⟨G1, 0, none⟩) (some ⟨G2, 0, none⟩) (l.setP i { l.pr i with pred := x }) := (h.setP hi 3 (by decide) (.int .i64 x) { l.pr i with pred := x } rfl).rd
theorem mem_succP {w : World} {base G1 G2 c1 c2 i : Nat} {l : Ls} (h : MemL w base G1 G2 c1 c2 l) (hi : i < l.ps.length) (x : Int) : RdL (w.setCell ⟨G2, i * 7 + 4, none⟩ (.int .i64 x)) base (some ⟨G1, 0, none⟩) (some ⟨G2, 0, none⟩) (l.setP i { l.pr i with succ := x }) := (h.setP hi 4 (by decide) (.int .i64 x) { l.pr i with succ := x } rfl).rd
theorem mem_nextP {w : World} {base G1 G2 c1 c2 i : Nat} {l : Ls} (h : MemL w base G1 G2 c1 c2 l) (hi : i < l.ps.length) (x : Int) : RdL (w.setCell ⟨G2, i * 7 + 5, none⟩ (.int .i64 x)) base (some ⟨G1, 0, none⟩) (some ⟨G2, 0, none⟩) (l.setP i { l.pr i with next := x }) := (h.setP hi 5 (by decide) (.int .i64 x) { l.pr i with next := x } rfl).rd
set_option maxRecDepth 100000 in
set_option maxHeartbeats 12800000 in
theorem damage_any (g : Nat) (A1 A2 : Option Addr) (l : Ls) (n m c1 c2 : Nat) (w : World) (ht : Tape w g) (hlt : Lets w) (hne : 0 ≠ g) (hg : g < w.heap.size) (hn : l.cs.length = n) (hm : l.ps.length = m) (h : RdL w 0 A1 A2 l) (n9 : n ≤ 1000000) (m9 : m ≤ 1000000) :
    Calls Tryz.prog 29 #[.pointer (some ⟨g, 0, none⟩), .agg #[.slice A1 n c1, .slice A2 m c2]] w (DmgP g n m w) := by
  have hb1 := (Below.refl w.heap.size w).alloc (Nat.le_refl _) (.cells #[.slice A1 n c1, .slice A2 m c2] 28)
  have hb2 := (Below.refl (w.alloc (.cells #[.slice A1 n c1, .slice A2 m c2] 28)).heap.size _).alloc (Nat.le_refl _) (.cells #[.slice none 0 0, .slice none 0 0] 28)
  have HX := Lib.hid ((Has.new w 28 #[.slice A1 n c1, .slice A2 m c2]).below hb2)
  have HY := Lib.hid (Has.new (w.alloc (.cells #[.slice A1 n c1, .slice A2 m c2] 28)) 28 #[.slice none 0 0, .slice none 0 0])
  have HT := Lib.hid (((TStep.refl ht).below hb1).below hb2)
  have HLE := Lib.hid ((hlt.below hb1).below hb2)
  have HL := Lib.hid ((h.below hb1).below hb2)
  have HLW := Lib.hid hlt.lt
  have HN := Lib.hid hn
  have HM := Lib.hid hm
  have hsz : ((w.alloc (.cells #[.slice A1 n c1, .slice A2 m c2] 28)).alloc (.cells #[.slice none 0 0, .slice none 0 0] 28)).heap.size = w.heap.size + 1 + 1 := by rw [World.size_alloc, World.size_alloc]
  rw [World.size_alloc] at HY
  clear hb1 hb2 h hn hm hlt ht
  go_enter Tryz.func29, Tryz.ntmps29
  go_upto_region 1 with fail
  generalize (w.alloc (.cells #[.slice A1 n c1, .slice A2 m c2] 28)).alloc (.cells #[.slice none 0 0, .slice none 0 0] 28) = W at *
  obtain ⟨B, hB⟩ : ∃ B, B = w.heap.size := ⟨_, rfl⟩
  have HBB := Lib.hid hB
  rw [← hB] at HX HY hsz hg ⊢
  clear hB
  have x0 := HX.out.cell 0
  have x1 := HX.out.cell 1
  go_wp2_with fail
  refine (rcopy_any A1 A2 l n m c1 c2 0 W HN.out HM.out HL.out n9 m9).mono ?_
  intro e w2 h2
  by_cases hsm : 2 ≤ n ∧ 1 ≤ m
  · obtain ⟨G1, G2, d1, d2, rfl, hmem, hb2⟩ := copG_mem h2 n m HN.out HM.out (by omega) (by omega)
    have HX2 := Lib.hid (HX.out.below hb2)
    have HY2 := Lib.hid (HY.out.below hb2)
    have HT2 := Lib.hid (HT.out.below hb2)
    have HL2 := Lib.hid (HLE.out.below hb2)
    have HM2 := Lib.hid hmem
    have hs2 := hb2.size
    replace x0 := HX2.out.cell 0
    replace x1 := HX2.out.cell 1
    have z0 := HX2.out.frozen 0
    have z1 := HX2.out.frozen 1
    have hlg : 0 < B := by rw [HBB.out]; exact HLW.out
    have g1 : n ≤ d1 := by have := hmem.cs.1; have := HN.out; omega
    have gd : d1 ≤ 9223372036854775807 := by have := hmem.cs.2.1; unfold maxLen at this; omega
    clear hb2 hmem h2
    go_upto_region 2 with fail
    have hw2 : w.heap.size ≤ w2.heap.size := by have := HBB.out; omega
    have h2 := twice0 w2 B (.slice (some ⟨G1, 0, none⟩) n d1) (.slice (some ⟨G2, 0, none⟩) m d2) _ _ x0 x1
    have hBV : Below w.heap.size w2 ((w2.setCell ⟨B, 0, none⟩ (.slice (some ⟨G1, 0, none⟩) n d1)).setCell ⟨B, 1, none⟩ (.slice (some ⟨G2, 0, none⟩) m d2)) := (((Below.refl w2.heap.size w2).mono hw2).setCell (p := ⟨B, 0, none⟩) (by have := HBB.out; simp only; omega) _).setCell (p := ⟨B, 1, none⟩) (by have := HBB.out; simp only; omega) _
    have HTV := Lib.hid (tover HT2.out (by have := HBB.out; omega) hBV)
    have HLV : Hid (Lets ((w2.setCell ⟨B, 0, none⟩ (.slice (some ⟨G1, 0, none⟩) n d1)).setCell ⟨B, 1, none⟩ (.slice (some ⟨G2, 0, none⟩) m d2))) := Lib.hid (HL2.out.keep (hBV.block _ (by have := HBB.out; omega)))
    have HMV : Hid (MemL ((w2.setCell ⟨B, 0, none⟩ (.slice (some ⟨G1, 0, none⟩) n d1)).setCell ⟨B, 1, none⟩ (.slice (some ⟨G2, 0, none⟩) m d2)) (B + 1 + 1) G1 G2 d1 d2 l) := Lib.hid (MemL.keep (by rw [← hsz]; exact HM2.out) fun i h3 h4 => by
      rw [Below.heap_setCell _ ⟨B, 1, none⟩ _ _ (by simp only; omega), Below.heap_setCell _ ⟨B, 0, none⟩ _ _ (by simp only; omega)])
    have HYV := Lib.hid (has_far (p := ⟨B, 1, none⟩) (has_far (p := ⟨B, 0, none⟩) HY2.out (by simp) (.slice (some ⟨G1, 0, none⟩) n d1)) (by simp) (.slice (some ⟨G2, 0, none⟩) m d2))
    have HZV : Hid (∀ o, ((w2.setCell ⟨B, 0, none⟩ (.slice (some ⟨G1, 0, none⟩) n d1)).setCell ⟨B, 1, none⟩ (.slice (some ⟨G2, 0, none⟩) m d2)).frozen? ⟨B, o, none⟩ = false) := Lib.hid fun o => by rw [World.frozen?_setCell, World.frozen?_setCell]; exact HX2.out.frozen o
    have hsV : B + 1 + 1 ≤ ((w2.setCell ⟨B, 0, none⟩ (.slice (some ⟨G1, 0, none⟩) n d1)).setCell ⟨B, 1, none⟩ (.slice (some ⟨G2, 0, none⟩) m d2)).heap.size := by simp only [World.size_setCell]; omega
    have q0 := h2.1
    have q1 := h2.2
    clear h2 hBV x0 x1 z0 z1 HX2 HY2 HT2 HL2 HM2 hsz HX HY HT HL hs2
    generalize (w2.setCell ⟨B, 0, none⟩ (.slice (some ⟨G1, 0, none⟩) n d1)).setCell ⟨B, 1, none⟩ (.slice (some ⟨G2, 0, none⟩) m d2) = V at *
    have HBX := Lib.hid (And.intro q0 q1)
    have HBV := Lib.hid (World.block_lt_of_cell? V _ HBX.out.1)
    have hV1 : ¬ (n : Int) < 2 := by omega
    have hV2 : ¬ (m : Int) < 1 := by omega
    have hV3 : decide ((n : Int) < 2) = false := by simp; omega
    have hV4 : decide ((m : Int) < 1) = false := by simp; omega
    obtain ⟨hn2, hm1⟩ := hsm
    go_upto_region 4 with fail
    have HST := Lib.hid (fun (U : World) (k : TStep V g U) => (⟨(World.cell?_of_block (a := ⟨B, 0, none⟩) (k.2.block B (World.block_lt_of_cell? V _ HBX.out.1) (fun e => by have := Option.some.inj e; omega))).trans HBX.out.1, (World.cell?_of_block (a := ⟨B, 1, none⟩) (k.2.block B (World.block_lt_of_cell? V _ HBX.out.1) (fun e => by have := Option.some.inj e; omega))).trans HBX.out.2⟩ : U.cell? ⟨B, 0, none⟩ = some (.slice (some ⟨G1, 0, none⟩) n d1) ∧ U.cell? ⟨B, 1, none⟩ = some (.slice (some ⟨G2, 0, none⟩) m d2)))
    have hT0 : TStep V g V.drew := (TStep.refl HTV.out.1).below (Below.refl _ _).drew
    have hS0 := HST.out _ hT0
    clear q0 q1
    go_region_held3 (fun U => U.cell? ⟨B, 0, none⟩ = some (.slice (some ⟨G1, 0, none⟩) n d1) ∧ U.cell? ⟨B, 1, none⟩ = some (.slice (some ⟨G2, 0, none⟩) m d2)) (first | with_reducible exact hS5 | with_reducible exact hS4 | with_reducible exact hS0 | with_reducible assumption) (first | (go_at_call 11; (with_reducible refine (next_any g _ _ (tstp_tape hT0) (by omega)).mono ?_); rintro e w4 ⟨i, i0, i9, rfl, hst4⟩; obtain ⟨i, rfl⟩ := Int.eq_ofNat_of_zero_le i0; have i1 : (i : Int) < (n : Int) := (by omega); have hT4 := hT0.trans hst4; have hS4 := HST.out _ hT4; clear hst4 i9) | (go_at_call 11; (with_reducible refine (next_any g _ _ (tstp_tape hT4) (by omega)).mono ?_); rintro e w5 ⟨j, j0, j9, rfl, hst5⟩; obtain ⟨j, rfl⟩ := Int.eq_ofNat_of_zero_le j0; have j1 : (j : Int) < (m : Int) := (by omega); have hT5 := hT4.trans hst5; have hS5 := HST.out _ hT5; clear hst5 j9))
    have q0 := hS5.1
    have q1 := hS5.2
    go_wp2_with fail
    refine (next_any g _ w5 (tstp_tape hT5) (by omega)).mono ?_
    rintro e w6 ⟨r6, -, -, rfl, hst6⟩
    have hT6 := hT5.trans hst6
    replace q0 := (HST.out _ hT6).1
    replace q1 := (HST.out _ hT6).2
    go_upto_region 6 with fail
    generalize wrap64 (r6 - 1) = x7 at *
    go_wp2_with fail
    refine (next_any g _ w6 (tstp_tape hT6) (by omega)).mono ?_
    rintro e w7 ⟨r7, r0, r1, rfl, hst7⟩
    have hT7 := hT6.trans hst7
    replace q0 := (HST.out _ hT7).1
    replace q1 := (HST.out _ hT7).2
    have HT7 := Lib.hid (HTV.out.trans hT7)
    have HTV7 := Lib.hid hT7
    have HM7 := Lib.hid (HMV.out.tst (by omega) hT7)
    have HL7 := Lib.hid (HLV.out.step hne hT7)
    have HY7 := Lib.hid (show Has w7 (B + 1) 28 #[.slice none 0 0, .slice none 0 0] from (hT7.2.block (B + 1) HYV.out.lt (fun e => by have := Option.some.inj e; omega)).trans HYV.out)
    have y0 := HY7.out.cell 0
    have y1 := HY7.out.cell 1
    have u0 := HY7.out.frozen 0
    have u1 := HY7.out.frozen 1
    have hil : i < l.cs.length := by rw [HN.out]; omega
    have hjl : j < l.ps.length := by rw [HM.out]; omega
    obtain ⟨f0, f1, f2, f3, f4⟩ := HM7.out.cell hil
    obtain ⟨p0, p1, p2, p3, p4, p5, p6⟩ := HM7.out.proc hjl
    have zc := fun o => HM7.out.fz.1 o
    have zp := fun o => HM7.out.fz.2 o
    have HGB := Lib.hid (show B + 1 + 1 ≤ G1 ∧ B + 1 + 1 ≤ G2 from ⟨HM7.out.b1, HM7.out.b2⟩)
    have g3 : ¬ G1 = B := by have := HGB.out; omega
    have g4 : ¬ G2 = B := by have := HGB.out; omega
    have g5 : ¬ B = G1 := by have := HGB.out; omega
    have g6 : ¬ B = G2 := by have := HGB.out; omega
    have g7 : ¬ B + 1 = G1 := by have := HGB.out; omega
    have g8 : ¬ B + 1 = G2 := by have := HGB.out; omega
    have g9 : ¬ G1 = B + 1 := by have := HGB.out; omega
    have g10 : ¬ G2 = B + 1 := by have := HGB.out; omega
    have HBW := Lib.hid (show Below w.heap.size w7 w7 from (Below.refl _ w7).mono HT7.out.2.size)
    have hr : r7 = 0 ∨ r7 = 1 ∨ r7 = 2 ∨ r7 = 3 ∨ r7 = 4 ∨ r7 = 5 ∨ r7 = 6 ∨ r7 = 7 ∨ r7 = 8 ∨ r7 = 9 ∨ r7 = 10 ∨ r7 = 11 := by omega
    clear r0 r1 hst6 hst7 hT0 hT4 hT5 hT6 hT7 hS0 hS4 hS5 HMV HLV HYV HTV HBX
    have HQ0 := Lib.hid q0
    have HQ1 := Lib.hid q1
    have HFB : Hid (∀ o, w7.frozen? ⟨B, o, none⟩ = false) := Lib.hid (fun o => (World.frozen?_of_block (a := ⟨B, o, none⟩) (HTV7.out.2.block B HBV.out (fun e => by have := Option.some.inj e; omega))).trans (HZV.out o))
    rcases hr with rfl | rfl | rfl | rfl | rfl | rfl | rfl | rfl | rfl | rfl | rfl | rfl
    · have HYF := Lib.hid (fun o v => has_far (p := ⟨G1, o, none⟩) HY7.out (by simp only; omega) v)
      go_wp2_with fail
      refine bodyPost_ret (results_list rfl _ _ (B + 1) rfl (twice0 _ (B + 1) _ _ _ _ ((HYF.out _ _).cell 0) ((HYF.out _ _).cell 1)).1 (twice0 _ (B + 1) _ _ _ _ ((HYF.out _ _).cell 0) ((HYF.out _ _).cell 1)).2) rfl ?_
      exact dmg_end HBB.out HT7.out (by have := HBB.out; omega) (HBW.out.setCell (p := ⟨G1, i * 5 + 1, none⟩) (by have := HBB.out; have := HGB.out; simp only; omega) _) (mem_leftC HM7.out hil _) ((Ls.len_setC _ _ _).trans HN.out) HM.out (Nat.le_refl _) (Nat.le_refl _) _ _
    · have HYF := Lib.hid (fun o v => has_far (p := ⟨G1, o, none⟩) HY7.out (by simp only; omega) v)
      go_wp2_with fail
      refine bodyPost_ret (results_list rfl _ _ (B + 1) rfl (twice0 _ (B + 1) _ _ _ _ ((HYF.out _ _).cell 0) ((HYF.out _ _).cell 1)).1 (twice0 _ (B + 1) _ _ _ _ ((HYF.out _ _).cell 0) ((HYF.out _ _).cell 1)).2) rfl ?_
      exact dmg_end HBB.out HT7.out (by have := HBB.out; omega) (HBW.out.setCell (p := ⟨G1, i * 5 + 2, none⟩) (by have := HBB.out; have := HGB.out; simp only; omega) _) (mem_rightC HM7.out hil _) ((Ls.len_setC _ _ _).trans HN.out) HM.out (Nat.le_refl _) (Nat.le_refl _) _ _
    · go_wp2_with fail
      refine (next_any g _ w7 HT7.out.1 (by omega)).mono ?_
      rintro e w8 ⟨r8, -, -, rfl, hst8⟩
      have HT8 := Lib.hid (HT7.out.trans hst8)
      have HM8 := Lib.hid (HM7.out.tst (by omega) hst8)
      have HY8 := Lib.hid (show Has w8 (B + 1) 28 #[.slice none 0 0, .slice none 0 0] from (hst8.2.block (B + 1) HY7.out.lt (fun e => by have := Option.some.inj e; omega)).trans HY7.out)
      replace q0 := (World.cell?_of_block (a := ⟨B, 0, none⟩) (hst8.2.block B (World.block_lt_of_cell? w7 _ q0) (fun e => by have := Option.some.inj e; omega))).trans q0
      replace q1 := (World.cell?_of_block (a := ⟨B, 1, none⟩) (hst8.2.block B (World.block_lt_of_cell? w7 _ q1) (fun e => by have := Option.some.inj e; omega))).trans q1
      have y0 := HY8.out.cell 0
      have y1 := HY8.out.cell 1
      have u0 := HY8.out.frozen 0
      have u1 := HY8.out.frozen 1
      obtain ⟨f0, f1, f2, f3, f4⟩ := HM8.out.cell hil
      obtain ⟨p0, p1, p2, p3, p4, p5, p6⟩ := HM8.out.proc hjl
      have zc := fun o => HM8.out.fz.1 o
      have zp := fun o => HM8.out.fz.2 o
      have HBW := Lib.hid (show Below w.heap.size w8 w8 from (Below.refl _ w8).mono HT8.out.2.size)
      clear hst8
      have HYF := Lib.hid (fun o v => has_far (p := ⟨G1, o, none⟩) HY8.out (by simp only; omega) v)
      go_wp2_with fail
      refine bodyPost_ret (results_list rfl _ _ (B + 1) rfl (twice0 _ (B + 1) _ _ _ _ ((HYF.out _ _).cell 0) ((HYF.out _ _).cell 1)).1 (twice0 _ (B + 1) _ _ _ _ ((HYF.out _ _).cell 0) ((HYF.out _ _).cell 1)).2) rfl ?_
      exact dmg_end HBB.out HT8.out (by have := HBB.out; omega) (HBW.out.setCell (p := ⟨G1, i * 5 + 3, none⟩) (by have := HBB.out; have := HGB.out; simp only; omega) _) (mem_lockC HM8.out hil _) ((Ls.len_setC _ _ _).trans HN.out) HM.out (Nat.le_refl _) (Nat.le_refl _) _ _
    · have HYF := Lib.hid (fun o v => has_far (p := ⟨G1, o, none⟩) HY7.out (by simp only; omega) v)
      go_wp2_with fail
      refine bodyPost_ret (results_list rfl _ _ (B + 1) rfl (twice0 _ (B + 1) _ _ _ _ ((HYF.out _ _).cell 0) ((HYF.out _ _).cell 1)).1 (twice0 _ (B + 1) _ _ _ _ ((HYF.out _ _).cell 0) ((HYF.out _ _).cell 1)).2) rfl ?_
      exact dmg_end HBB.out HT7.out (by have := HBB.out; omega) (HBW.out.setCell (p := ⟨G1, i * 5 + 4, none⟩) (by have := HBB.out; have := HGB.out; simp only; omega) _) (mem_goneC HM7.out hil _) ((Ls.len_setC _ _ _).trans HN.out) HM.out (Nat.le_refl _) (Nat.le_refl _) _ _
    · go_wp2_with fail
      refine (oddKey_any g w7 HT7.out.1 HL7.out hne).mono ?_
      rintro e w8 ⟨ks, -, rfl, hst8⟩
      have HT8 := Lib.hid (HT7.out.trans hst8)
      have HM8 := Lib.hid (HM7.out.tst (by omega) hst8)
      have HY8 := Lib.hid (show Has w8 (B + 1) 28 #[.slice none 0 0, .slice none 0 0] from (hst8.2.block (B + 1) HY7.out.lt (fun e => by have := Option.some.inj e; omega)).trans HY7.out)
      replace q0 := (World.cell?_of_block (a := ⟨B, 0, none⟩) (hst8.2.block B (World.block_lt_of_cell? w7 _ q0) (fun e => by have := Option.some.inj e; omega))).trans q0
      replace q1 := (World.cell?_of_block (a := ⟨B, 1, none⟩) (hst8.2.block B (World.block_lt_of_cell? w7 _ q1) (fun e => by have := Option.some.inj e; omega))).trans q1
      have y0 := HY8.out.cell 0
      have y1 := HY8.out.cell 1
      have u0 := HY8.out.frozen 0
      have u1 := HY8.out.frozen 1
      obtain ⟨f0, f1, f2, f3, f4⟩ := HM8.out.cell hil
      obtain ⟨p0, p1, p2, p3, p4, p5, p6⟩ := HM8.out.proc hjl
      have zc := fun o => HM8.out.fz.1 o
      have zp := fun o => HM8.out.fz.2 o
      have HBW := Lib.hid (show Below w.heap.size w8 w8 from (Below.refl _ w8).mono HT8.out.2.size)
      clear hst8
      have HYF := Lib.hid (fun o v => has_far (p := ⟨G1, o, none⟩) HY8.out (by simp only; omega) v)
      go_wp2_with fail
      refine bodyPost_ret (results_list rfl _ _ (B + 1) rfl (twice0 _ (B + 1) _ _ _ _ ((HYF.out _ _).cell 0) ((HYF.out _ _).cell 1)).1 (twice0 _ (B + 1) _ _ _ _ ((HYF.out _ _).cell 0) ((HYF.out _ _).cell 1)).2) rfl ?_
      exact dmg_end HBB.out HT8.out (by have := HBB.out; omega) (HBW.out.setCell (p := ⟨G1, i * 5, none⟩) (by have := HBB.out; have := HGB.out; simp only; omega) _) (mem_keyC HM8.out hil _) ((Ls.len_setC _ _ _).trans HN.out) HM.out (Nat.le_refl _) (Nat.le_refl _) _ _
    · have HYF := Lib.hid (fun o v => has_far (p := ⟨G2, o, none⟩) HY7.out (by simp only; omega) v)
      go_wp2_with fail
      refine bodyPost_ret (results_list rfl _ _ (B + 1) rfl (twice0 _ (B + 1) _ _ _ _ ((HYF.out _ _).cell 0) ((HYF.out _ _).cell 1)).1 (twice0 _ (B + 1) _ _ _ _ ((HYF.out _ _).cell 0) ((HYF.out _ _).cell 1)).2) rfl ?_
      exact dmg_end HBB.out HT7.out (by have := HBB.out; omega) (HBW.out.setCell (p := ⟨G2, j * 7 + 3, none⟩) (by have := HBB.out; have := HGB.out; simp only; omega) _) (mem_predP HM7.out hjl _) HN.out ((Ls.len_setP _ _ _).trans HM.out) (Nat.le_refl _) (Nat.le_refl _) _ _
    · have HYF := Lib.hid (fun o v => has_far (p := ⟨G2, o, none⟩) HY7.out (by simp only; omega) v)
      go_wp2_with fail
      refine bodyPost_ret (results_list rfl _ _ (B + 1) rfl (twice0 _ (B + 1) _ _ _ _ ((HYF.out _ _).cell 0) ((HYF.out _ _).cell 1)).1 (twice0 _ (B + 1) _ _ _ _ ((HYF.out _ _).cell 0) ((HYF.out _ _).cell 1)).2) rfl ?_
      exact dmg_end HBB.out HT7.out (by have := HBB.out; omega) (HBW.out.setCell (p := ⟨G2, j * 7 + 4, none⟩) (by have := HBB.out; have := HGB.out; simp only; omega) _) (mem_succP HM7.out hjl _) HN.out ((Ls.len_setP _ _ _).trans HM.out) (Nat.le_refl _) (Nat.le_refl _) _ _
    · have HYF := Lib.hid (fun o v => has_far (p := ⟨G2, o, none⟩) HY7.out (by simp only; omega) v)
      go_wp2_with fail
      refine bodyPost_ret (results_list rfl _ _ (B + 1) rfl (twice0 _ (B + 1) _ _ _ _ ((HYF.out _ _).cell 0) ((HYF.out _ _).cell 1)).1 (twice0 _ (B + 1) _ _ _ _ ((HYF.out _ _).cell 0) ((HYF.out _ _).cell 1)).2) rfl ?_
      exact dmg_end HBB.out HT7.out (by have := HBB.out; omega) (HBW.out.setCell (p := ⟨G2, j * 7 + 5, none⟩) (by have := HBB.out; have := HGB.out; simp only; omega) _) (mem_nextP HM7.out hjl _) HN.out ((Ls.len_setP _ _ _).trans HM.out) (Nat.le_refl _) (Nat.le_refl _) _ _
    · go_wp2_with fail
      refine (next_any g _ w7 HT7.out.1 (by omega)).mono ?_
      rintro e w8 ⟨r8, -, -, rfl, hst8⟩
      have HT8 := Lib.hid (HT7.out.trans hst8)
      have HM8 := Lib.hid (HM7.out.tst (by omega) hst8)
      have HY8 := Lib.hid (show Has w8 (B + 1) 28 #[.slice none 0 0, .slice none 0 0] from (hst8.2.block (B + 1) HY7.out.lt (fun e => by have := Option.some.inj e; omega)).trans HY7.out)
      replace q0 := (World.cell?_of_block (a := ⟨B, 0, none⟩) (hst8.2.block B (World.block_lt_of_cell? w7 _ q0) (fun e => by have := Option.some.inj e; omega))).trans q0
      replace q1 := (World.cell?_of_block (a := ⟨B, 1, none⟩) (hst8.2.block B (World.block_lt_of_cell? w7 _ q1) (fun e => by have := Option.some.inj e; omega))).trans q1
      have y0 := HY8.out.cell 0
      have y1 := HY8.out.cell 1
      have u0 := HY8.out.frozen 0
      have u1 := HY8.out.frozen 1
      obtain ⟨f0, f1, f2, f3, f4⟩ := HM8.out.cell hil
      obtain ⟨p0, p1, p2, p3, p4, p5, p6⟩ := HM8.out.proc hjl
      have zc := fun o => HM8.out.fz.1 o
      have zp := fun o => HM8.out.fz.2 o
      have HBW := Lib.hid (show Below w.heap.size w8 w8 from (Below.refl _ w8).mono HT8.out.2.size)
      clear hst8
      have HYF := Lib.hid (fun o v => has_far (p := ⟨G2, o, none⟩) HY8.out (by simp only; omega) v)
      go_wp2_with fail
      refine bodyPost_ret (results_list rfl _ _ (B + 1) rfl (twice0 _ (B + 1) _ _ _ _ ((HYF.out _ _).cell 0) ((HYF.out _ _).cell 1)).1 (twice0 _ (B + 1) _ _ _ _ ((HYF.out _ _).cell 0) ((HYF.out _ _).cell 1)).2) rfl ?_
      exact dmg_end HBB.out HT8.out (by have := HBB.out; omega) (HBW.out.setCell (p := ⟨G2, j * 7 + 2, none⟩) (by have := HBB.out; have := HGB.out; simp only; omega) _) (mem_phaseP HM8.out hjl _) HN.out ((Ls.len_setP _ _ _).trans HM.out) (Nat.le_refl _) (Nat.le_refl _) _ _
    · go_wp2_with fail
      refine (next_any g _ w7 HT7.out.1 (by omega)).mono ?_
      rintro e w8 ⟨r8, -, -, rfl, hst8⟩
      have HT8 := Lib.hid (HT7.out.trans hst8)
      have HM8 := Lib.hid (HM7.out.tst (by omega) hst8)
      have HY8 := Lib.hid (show Has w8 (B + 1) 28 #[.slice none 0 0, .slice none 0 0] from (hst8.2.block (B + 1) HY7.out.lt (fun e => by have := Option.some.inj e; omega)).trans HY7.out)
      replace q0 := (World.cell?_of_block (a := ⟨B, 0, none⟩) (hst8.2.block B (World.block_lt_of_cell? w7 _ q0) (fun e => by have := Option.some.inj e; omega))).trans q0
      replace q1 := (World.cell?_of_block (a := ⟨B, 1, none⟩) (hst8.2.block B (World.block_lt_of_cell? w7 _ q1) (fun e => by have := Option.some.inj e; omega))).trans q1
      have y0 := HY8.out.cell 0
      have y1 := HY8.out.cell 1
      have u0 := HY8.out.frozen 0
      have u1 := HY8.out.frozen 1
      obtain ⟨f0, f1, f2, f3, f4⟩ := HM8.out.cell hil
      obtain ⟨p0, p1, p2, p3, p4, p5, p6⟩ := HM8.out.proc hjl
      have zc := fun o => HM8.out.fz.1 o
      have zp := fun o => HM8.out.fz.2 o
      have HBW := Lib.hid (show Below w.heap.size w8 w8 from (Below.refl _ w8).mono HT8.out.2.size)
      clear hst8
      have HYF := Lib.hid (fun o v => has_far (p := ⟨G2, o, none⟩) HY8.out (by simp only; omega) v)
      go_wp2_with fail
      refine bodyPost_ret (results_list rfl _ _ (B + 1) rfl (twice0 _ (B + 1) _ _ _ _ ((HYF.out _ _).cell 0) ((HYF.out _ _).cell 1)).1 (twice0 _ (B + 1) _ _ _ _ ((HYF.out _ _).cell 0) ((HYF.out _ _).cell 1)).2) rfl ?_
      exact dmg_end HBB.out HT8.out (by have := HBB.out; omega) (HBW.out.setCell (p := ⟨G2, j * 7, none⟩) (by have := HBB.out; have := HGB.out; simp only; omega) _) (mem_kindP HM8.out hjl _) HN.out ((Ls.len_setP _ _ _).trans HM.out) (Nat.le_refl _) (Nat.le_refl _) _ _
    · have HYF := Lib.hid (fun o v => has_far (p := ⟨G2, o, none⟩) HY7.out (by simp only; omega) v)
      go_wp2_with fail
      refine bodyPost_ret (results_list rfl _ _ (B + 1) rfl (twice0 _ (B + 1) _ _ _ _ ((HYF.out _ _).cell 0) ((HYF.out _ _).cell 1)).1 (twice0 _ (B + 1) _ _ _ _ ((HYF.out _ _).cell 0) ((HYF.out _ _).cell 1)).2) rfl ?_
      exact dmg_end HBB.out HT7.out (by have := HBB.out; omega) (HBW.out.setCell (p := ⟨G2, j * 7 + 1, none⟩) (by have := HBB.out; have := HGB.out; simp only; omega) _) (mem_cellP HM7.out hjl _) HN.out ((Ls.len_setP _ _ _).trans HM.out) (Nat.le_refl _) (Nat.le_refl _) _ _
    · have hfB : ∀ o, w7.frozen? ⟨B, o, none⟩ = false := HFB.out
      have zb := hfB 0
      go_upto_region 7 with fail
      have hT0 : TStep w7 g w7.drew := (TStep.refl HT7.out.1).below (Below.refl _ _).drew
      have HST := Lib.hid (fun (U : World) (k : TStep w7 g U) => (⟨(World.cell?_of_block (a := ⟨B, 0, none⟩) (k.2.block B (World.block_lt_of_cell? w7 _ HQ0.out) (fun e => by have := Option.some.inj e; omega))).trans HQ0.out, (World.cell?_of_block (a := ⟨B, 1, none⟩) (k.2.block B (World.block_lt_of_cell? w7 _ HQ0.out) (fun e => by have := Option.some.inj e; omega))).trans HQ1.out⟩ : U.cell? ⟨B, 0, none⟩ = some (.slice (some ⟨G1, 0, none⟩) n d1) ∧ U.cell? ⟨B, 1, none⟩ = some (.slice (some ⟨G2, 0, none⟩) m d2)))
      have hS0 := HST.out _ hT0
      have hS0' : w7.drew.cell? ⟨B, 0, none⟩ = some (.slice (some ⟨G1, 0, none⟩) n d1) ∧ w7.drew.cell? ⟨B, 1, none⟩ = some (.slice (some ⟨G2, 0, none⟩) m d2) ∧ w7.drew.frozen? ⟨B, 0, none⟩ = false := ⟨hS0.1, hS0.2, HFB.out 0⟩
      clear q0 q1 y0 y1 u0 u1 f0 f1 f2 f3 f4 p0 p1 p2 p3 p4 p5 p6 zc zp zb
      have HW1 : Hid (IntKind.i64.wrap ((n : Int) + 1) = (n : Int) + 1) := Lib.hid (IntWalk.i64_in _ (by omega))
      obtain ⟨q0, q1, zb⟩ := hS0'
      have hz0 : w7.drew.frozen? ⟨B, 0, none⟩ = false := zb
      refine wp_region_noPanic ?_
      refine wp_region_held_drew (S := fun U => U.frozen? ⟨B, 0, none⟩ = false) (by kernel_rfl) hz0 (fun hHeld => ?_)
      refine wpAnyH_take (i := 0) (v := ?_) rfl (by kernel_rfl) (by kernel_rfl) (by kernel_rfl) (fun _ _ _ h => h) (Or.inl ⟨by rfl, ?_⟩) (by assumption) ?_
      rotate_left
      · intro w hSw; (try dsimp only at hSw); go_simp; try with_reducible rfl
      try simp only [Act.put, List.setIfInBounds_toArray]
      refine wpAnyH_take (i := 2) (v := ?_) rfl (by kernel_rfl) (by kernel_rfl) (by kernel_rfl) (fun _ _ _ h => h) (Or.inl ⟨by rfl, ?_⟩) (by assumption) ?_
      rotate_left
      · intro w hSw; (try dsimp only at hSw); go_simp; try with_reducible rfl
      try simp only [Act.put]
      refine wpAnyH_take (i := 3) (v := ?_) rfl (by kernel_rfl) (by kernel_rfl) (by kernel_rfl) (fun _ _ _ h => h) (Or.inl ⟨by rfl, ?_⟩) (by assumption) ?_
      rotate_left
      · intro w hSw; (try dsimp only at hSw); go_simp; try with_reducible rfl
      try simp only [Act.put]
      refine wpAnyH_ready (rs := [1, 4]) (by kernel_rfl) (by simp) ?_
      refine AllReadyH.cons rfl (fun K hK => ?_) ?_
      · go_simp
        refine hK.out _ _ (by (try dsimp only); assumption) (fun hHeld => ?_)
        clear hK K
        try simp only [Act.put, List.setIfInBounds_toArray, List.set_cons_zero, List.set_cons_succ]
        refine wpAnyH_ready (rs := [4]) (by kernel_rfl) (by simp) ?_
        refine AllReadyH.cons rfl (fun K hK => ?_) AllReadyH.nil
        go_simp
        refine hK.out _ _ (by (try dsimp only); assumption) (fun hHeld => ?_)
        clear hK K
        try simp only [Act.put, List.setIfInBounds_toArray, List.set_cons_zero, List.set_cons_succ]
        refine wpAnyH_take (i := 5) (v := ?_) rfl (by kernel_rfl) (by kernel_rfl) (by kernel_rfl) (fun _ _ _ h => h) (Or.inl ⟨by rfl, ?_⟩) (by assumption) ?_
        rotate_left
        · intro w hSw; (try dsimp only at hSw); go_simp; try with_reducible rfl
        try simp only [Act.put, List.setIfInBounds_toArray]
        refine wpAnyH_take (i := 6) (v := ?_) rfl (by kernel_rfl) (by kernel_rfl) (by kernel_rfl) (fun _ _ _ h => h) (Or.inl ⟨by rfl, ?_⟩) (by assumption) ?_
        rotate_left
        · intro w hSw; (try dsimp only at hSw); go_simp; try with_reducible rfl
        try simp only [Act.put]
        refine wpAnyH_ready (rs := [7]) (by kernel_rfl) (by simp) ?_
        refine AllReadyH.cons rfl (fun K hK => ?_) AllReadyH.nil
        go_simp
        go_at_call 11
        refine (next_any g _ _ (tstp_tape hT0) (by rw [HW1.out]; omega)).mono ?_
        rintro e w8 ⟨i, i0, i9, rfl, hst8⟩
        rw [HW1.out] at i9
        obtain ⟨k, rfl⟩ := Int.eq_ofNat_of_zero_le i0
        have k1 : (k : Int) ≤ (n : Int) := (by omega)
        have k2 : (k : Int) ≤ (d1 : Int) := (by omega)
        have hT8 := hT0.trans hst8
        have q0 := (HST.out _ hT8).1
        have q1 := (HST.out _ hT8).2
        have zb := (World.frozen?_of_block (a := ⟨B, 0, none⟩) (hT8.2.block B (World.block_lt_of_cell? w7 _ HQ0.out) (fun e => by have := Option.some.inj e; omega))).trans (HFB.out 0)
        have hzF : ∀ u, (w8.setCell ⟨B, 0, none⟩ u).frozen? ⟨B, 0, none⟩ = false := (fun u => by rw [World.frozen?_setCell]; exact zb)
        clear hst8 i9
        go_wp2_with fail
        refine hK.out _ _ zb (fun hHeld => ?_)
        clear hK K
        try simp only [Act.put, List.setIfInBounds_toArray, List.set_cons_zero, List.set_cons_succ]
        refine wpAnyH_take (i := 8) (v := ?_) rfl (by kernel_rfl) (by kernel_rfl) (by kernel_rfl) (fun _ _ _ h => h) (Or.inl ⟨by rfl, ?_⟩) (by assumption) ?_
        rotate_left
        · intro w hSw; (try dsimp only at hSw); go_simp; try with_reducible rfl
        try simp only [Act.put, List.setIfInBounds_toArray]
        refine wpAnyH_take (i := 9) (v := ?_) rfl (by kernel_rfl) (by kernel_rfl) (by kernel_rfl) (fun _ _ _ h => h) (Or.inl ⟨by rfl, ?_⟩) (by assumption) ?_
        rotate_left
        · intro w hSw; (try dsimp only at hSw); go_simp; try with_reducible rfl
        try simp only [Act.put]
        refine wpAnyH_ready (rs := [10]) (by kernel_rfl) (by simp) ?_
        refine AllReadyH.cons rfl (fun K hK => ?_) AllReadyH.nil
        go_simp
        refine hK.out _ _ (hzF _) (fun hHeld => ?_)
        clear hK K
        try simp only [Act.put, List.setIfInBounds_toArray, List.set_cons_zero, List.set_cons_succ]
        refine wpAnyH_done (by kernel_rfl) ?_ _
        refine NoPanic.normal ?_
        have hS8 : w8.cell? ⟨B, 0, none⟩ = some (.slice (some ⟨G1, 0, none⟩) n d1) ∧ w8.cell? ⟨B, 1, none⟩ = some (.slice (some ⟨G2, 0, none⟩) m d2) ∧ w8.frozen? ⟨B, 0, none⟩ = false := ⟨q0, q1, zb⟩
        have HT8 := Lib.hid (HT7.out.trans hT8)
        have HM8 := Lib.hid (HM7.out.tst (by omega) hT8)
        have HY8 := Lib.hid (show Has w8 (B + 1) 28 #[.slice none 0 0, .slice none 0 0] from (hT8.2.block (B + 1) HY7.out.lt (fun e => by have := Option.some.inj e; omega)).trans HY7.out)
        have HYF := Lib.hid (fun o v => has_far (p := ⟨B, o, none⟩) HY8.out (by simp only; omega) v)
        have h2 := once0 w8 B (.slice (some ⟨G1, 0, none⟩) k d1) _ _ hS8.1 hS8.2.1
        have q0 := h2.1
        have q1 := h2.2
        have yy := HYF.out 0 (.slice (some ⟨G1, 0, none⟩) k d1)
        have y0 := yy.cell 0
        have y1 := yy.cell 1
        have u0 := yy.frozen 0
        have u1 := yy.frozen 1
        have HBW := Lib.hid (show Below w.heap.size w8 w8 from (Below.refl _ w8).mono HT8.out.2.size)
        have HRF := Lib.hid (rdl_take (l := l) (RdL.mk (lo := B + 1 + 1) (w := w8.setCell ⟨B, 0, none⟩ (.slice (some ⟨G1, 0, none⟩) k d1)) (A1 := some ⟨G1, 0, none⟩) (A2 := some ⟨G2, 0, none⟩) (RdR.keep HM8.out.rd.cs (by simp) (fun q h1 _ => Below.heap_setCell _ _ _ _ (by simp only; omega))) (RdR.keep HM8.out.rd.ps (by simp) (fun q h1 _ => Below.heap_setCell _ _ _ _ (by simp only; omega)))) k)
        have hkl : (l.cs.take k).length = k := by rw [List.length_take, HN.out]; omega
        have HKL := Lib.hid hkl
        clear hT0 hT8 hS0 hS8 yy h2 hkl
        go_wp2_with fail
        refine bodyPost_ret (results_list rfl _ _ (B + 1) rfl (twice0 _ (B + 1) _ _ _ _ ((HYF.out _ _).cell 0) ((HYF.out _ _).cell 1)).1 (twice0 _ (B + 1) _ _ _ _ ((HYF.out _ _).cell 0) ((HYF.out _ _).cell 1)).2) rfl ?_
        exact dmg_end HBB.out HT8.out (by have := HBB.out; omega) (HBW.out.setCell (p := ⟨B, 0, none⟩) (by have := HBB.out; simp only; omega) _) HRF.out HKL.out HM.out (by omega) (Nat.le_refl _) _ _
      refine AllReadyH.cons rfl (fun K hK => ?_) AllReadyH.nil
      go_simp
      refine hK.out _ _ (by (try dsimp only); assumption) (fun hHeld => ?_)
      clear hK K
      try simp only [Act.put, List.setIfInBounds_toArray, List.set_cons_zero, List.set_cons_succ]
      refine wpAnyH_take (i := 5) (v := ?_) rfl (by kernel_rfl) (by kernel_rfl) (by kernel_rfl) (fun _ _ _ h => h) (Or.inl ⟨by rfl, ?_⟩) (by assumption) ?_
      rotate_left
      · intro w hSw; (try dsimp only at hSw); go_simp; try with_reducible rfl
      try simp only [Act.put, List.setIfInBounds_toArray]
      refine wpAnyH_take (i := 6) (v := ?_) rfl (by kernel_rfl) (by kernel_rfl) (by kernel_rfl) (fun _ _ _ h => h) (Or.inl ⟨by rfl, ?_⟩) (by assumption) ?_
      rotate_left
      · intro w hSw; (try dsimp only at hSw); go_simp; try with_reducible rfl
      try simp only [Act.put]
      refine wpAnyH_ready (rs := [1, 7]) (by kernel_rfl) (by simp) ?_
      refine AllReadyH.cons rfl (fun K hK => ?_) ?_
      · go_simp
        refine hK.out _ _ (by (try dsimp only); assumption) (fun hHeld => ?_)
        clear hK K
        try simp only [Act.put, List.setIfInBounds_toArray, List.set_cons_zero, List.set_cons_succ]
        refine wpAnyH_ready (rs := [7]) (by kernel_rfl) (by simp) ?_
        refine AllReadyH.cons rfl (fun K hK => ?_) AllReadyH.nil
        go_simp
        go_at_call 11
        refine (next_any g _ _ (tstp_tape hT0) (by rw [HW1.out]; omega)).mono ?_
        rintro e w8 ⟨i, i0, i9, rfl, hst8⟩
        rw [HW1.out] at i9
        obtain ⟨k, rfl⟩ := Int.eq_ofNat_of_zero_le i0
        have k1 : (k : Int) ≤ (n : Int) := (by omega)
        have k2 : (k : Int) ≤ (d1 : Int) := (by omega)
        have hT8 := hT0.trans hst8
        have q0 := (HST.out _ hT8).1
        have q1 := (HST.out _ hT8).2
        have zb := (World.frozen?_of_block (a := ⟨B, 0, none⟩) (hT8.2.block B (World.block_lt_of_cell? w7 _ HQ0.out) (fun e => by have := Option.some.inj e; omega))).trans (HFB.out 0)
        have hzF : ∀ u, (w8.setCell ⟨B, 0, none⟩ u).frozen? ⟨B, 0, none⟩ = false := (fun u => by rw [World.frozen?_setCell]; exact zb)
        clear hst8 i9
        go_wp2_with fail
        refine hK.out _ _ zb (fun hHeld => ?_)
        clear hK K
        try simp only [Act.put, List.setIfInBounds_toArray, List.set_cons_zero, List.set_cons_succ]
        refine wpAnyH_take (i := 8) (v := ?_) rfl (by kernel_rfl) (by kernel_rfl) (by kernel_rfl) (fun _ _ _ h => h) (Or.inl ⟨by rfl, ?_⟩) (by assumption) ?_
        rotate_left
        · intro w hSw; (try dsimp only at hSw); go_simp; try with_reducible rfl
        try simp only [Act.put, List.setIfInBounds_toArray]
        refine wpAnyH_take (i := 9) (v := ?_) rfl (by kernel_rfl) (by kernel_rfl) (by kernel_rfl) (fun _ _ _ h => h) (Or.inl ⟨by rfl, ?_⟩) (by assumption) ?_
        rotate_left
        · intro w hSw; (try dsimp only at hSw); go_simp; try with_reducible rfl
        try simp only [Act.put]
        refine wpAnyH_ready (rs := [10]) (by kernel_rfl) (by simp) ?_
        refine AllReadyH.cons rfl (fun K hK => ?_) AllReadyH.nil
        go_simp
        refine hK.out _ _ (hzF _) (fun hHeld => ?_)
        clear hK K
        try simp only [Act.put, List.setIfInBounds_toArray, List.set_cons_zero, List.set_cons_succ]
        refine wpAnyH_done (by kernel_rfl) ?_ _
        refine NoPanic.normal ?_
        have hS8 : w8.cell? ⟨B, 0, none⟩ = some (.slice (some ⟨G1, 0, none⟩) n d1) ∧ w8.cell? ⟨B, 1, none⟩ = some (.slice (some ⟨G2, 0, none⟩) m d2) ∧ w8.frozen? ⟨B, 0, none⟩ = false := ⟨q0, q1, zb⟩
        have HT8 := Lib.hid (HT7.out.trans hT8)
        have HM8 := Lib.hid (HM7.out.tst (by omega) hT8)
        have HY8 := Lib.hid (show Has w8 (B + 1) 28 #[.slice none 0 0, .slice none 0 0] from (hT8.2.block (B + 1) HY7.out.lt (fun e => by have := Option.some.inj e; omega)).trans HY7.out)
        have HYF := Lib.hid (fun o v => has_far (p := ⟨B, o, none⟩) HY8.out (by simp only; omega) v)
        have h2 := once0 w8 B (.slice (some ⟨G1, 0, none⟩) k d1) _ _ hS8.1 hS8.2.1
        have q0 := h2.1
        have q1 := h2.2
        have yy := HYF.out 0 (.slice (some ⟨G1, 0, none⟩) k d1)
        have y0 := yy.cell 0
        have y1 := yy.cell 1
        have u0 := yy.frozen 0
        have u1 := yy.frozen 1
        have HBW := Lib.hid (show Below w.heap.size w8 w8 from (Below.refl _ w8).mono HT8.out.2.size)
        have HRF := Lib.hid (rdl_take (l := l) (RdL.mk (lo := B + 1 + 1) (w := w8.setCell ⟨B, 0, none⟩ (.slice (some ⟨G1, 0, none⟩) k d1)) (A1 := some ⟨G1, 0, none⟩) (A2 := some ⟨G2, 0, none⟩) (RdR.keep HM8.out.rd.cs (by simp) (fun q h1 _ => Below.heap_setCell _ _ _ _ (by simp only; omega))) (RdR.keep HM8.out.rd.ps (by simp) (fun q h1 _ => Below.heap_setCell _ _ _ _ (by simp only; omega)))) k)
        have hkl : (l.cs.take k).length = k := by rw [List.length_take, HN.out]; omega
        have HKL := Lib.hid hkl
        clear hT0 hT8 hS0 hS8 yy h2 hkl
        go_wp2_with fail
        refine bodyPost_ret (results_list rfl _ _ (B + 1) rfl (twice0 _ (B + 1) _ _ _ _ ((HYF.out _ _).cell 0) ((HYF.out _ _).cell 1)).1 (twice0 _ (B + 1) _ _ _ _ ((HYF.out _ _).cell 0) ((HYF.out _ _).cell 1)).2) rfl ?_
        exact dmg_end HBB.out HT8.out (by have := HBB.out; omega) (HBW.out.setCell (p := ⟨B, 0, none⟩) (by have := HBB.out; simp only; omega) _) HRF.out HKL.out HM.out (by omega) (Nat.le_refl _) _ _
      refine AllReadyH.cons rfl (fun K hK => ?_) AllReadyH.nil
      go_simp
      go_at_call 11
      refine (next_any g _ _ (tstp_tape hT0) (by rw [HW1.out]; omega)).mono ?_
      rintro e w8 ⟨i, i0, i9, rfl, hst8⟩
      rw [HW1.out] at i9
      obtain ⟨k, rfl⟩ := Int.eq_ofNat_of_zero_le i0
      have k1 : (k : Int) ≤ (n : Int) := (by omega)
      have k2 : (k : Int) ≤ (d1 : Int) := (by omega)
      have hT8 := hT0.trans hst8
      have q0 := (HST.out _ hT8).1
      have q1 := (HST.out _ hT8).2
      have zb := (World.frozen?_of_block (a := ⟨B, 0, none⟩) (hT8.2.block B (World.block_lt_of_cell? w7 _ HQ0.out) (fun e => by have := Option.some.inj e; omega))).trans (HFB.out 0)
      have hzF : ∀ u, (w8.setCell ⟨B, 0, none⟩ u).frozen? ⟨B, 0, none⟩ = false := (fun u => by rw [World.frozen?_setCell]; exact zb)
      clear hst8 i9
      go_wp2_with fail
      refine hK.out _ _ zb (fun hHeld => ?_)
      clear hK K
      try simp only [Act.put, List.setIfInBounds_toArray, List.set_cons_zero, List.set_cons_succ]
      refine wpAnyH_ready (rs := [1]) (by kernel_rfl) (by simp) ?_
      refine AllReadyH.cons rfl (fun K hK => ?_) AllReadyH.nil
      go_simp
      refine hK.out _ _ (by (try dsimp only); assumption) (fun hHeld => ?_)
      clear hK K
      try simp only [Act.put, List.setIfInBounds_toArray, List.set_cons_zero, List.set_cons_succ]
      refine wpAnyH_take (i := 8) (v := ?_) rfl (by kernel_rfl) (by kernel_rfl) (by kernel_rfl) (fun _ _ _ h => h) (Or.inl ⟨by rfl, ?_⟩) (by assumption) ?_
      rotate_left
      · intro w hSw; (try dsimp only at hSw); go_simp; try with_reducible rfl
      try simp only [Act.put, List.setIfInBounds_toArray]
      refine wpAnyH_take (i := 9) (v := ?_) rfl (by kernel_rfl) (by kernel_rfl) (by kernel_rfl) (fun _ _ _ h => h) (Or.inl ⟨by rfl, ?_⟩) (by assumption) ?_
      rotate_left
      · intro w hSw; (try dsimp only at hSw); go_simp; try with_reducible rfl
      try simp only [Act.put]
      refine wpAnyH_ready (rs := [10]) (by kernel_rfl) (by simp) ?_
      refine AllReadyH.cons rfl (fun K hK => ?_) AllReadyH.nil
      go_simp
      refine hK.out _ _ (hzF _) (fun hHeld => ?_)
      clear hK K
      try simp only [Act.put, List.setIfInBounds_toArray, List.set_cons_zero, List.set_cons_succ]
      refine wpAnyH_done (by kernel_rfl) ?_ _
      refine NoPanic.normal ?_
      have hS8 : w8.cell? ⟨B, 0, none⟩ = some (.slice (some ⟨G1, 0, none⟩) n d1) ∧ w8.cell? ⟨B, 1, none⟩ = some (.slice (some ⟨G2, 0, none⟩) m d2) ∧ w8.frozen? ⟨B, 0, none⟩ = false := ⟨q0, q1, zb⟩
      have HT8 := Lib.hid (HT7.out.trans hT8)
      have HM8 := Lib.hid (HM7.out.tst (by omega) hT8)
      have HY8 := Lib.hid (show Has w8 (B + 1) 28 #[.slice none 0 0, .slice none 0 0] from (hT8.2.block (B + 1) HY7.out.lt (fun e => by have := Option.some.inj e; omega)).trans HY7.out)
      have HYF := Lib.hid (fun o v => has_far (p := ⟨B, o, none⟩) HY8.out (by simp only; omega) v)
      have h2 := once0 w8 B (.slice (some ⟨G1, 0, none⟩) k d1) _ _ hS8.1 hS8.2.1
      have q0 := h2.1
      have q1 := h2.2
      have yy := HYF.out 0 (.slice (some ⟨G1, 0, none⟩) k d1)
      have y0 := yy.cell 0
      have y1 := yy.cell 1
      have u0 := yy.frozen 0
      have u1 := yy.frozen 1
      have HBW := Lib.hid (show Below w.heap.size w8 w8 from (Below.refl _ w8).mono HT8.out.2.size)
      have HRF := Lib.hid (rdl_take (l := l) (RdL.mk (lo := B + 1 + 1) (w := w8.setCell ⟨B, 0, none⟩ (.slice (some ⟨G1, 0, none⟩) k d1)) (A1 := some ⟨G1, 0, none⟩) (A2 := some ⟨G2, 0, none⟩) (RdR.keep HM8.out.rd.cs (by simp) (fun q h1 _ => Below.heap_setCell _ _ _ _ (by simp only; omega))) (RdR.keep HM8.out.rd.ps (by simp) (fun q h1 _ => Below.heap_setCell _ _ _ _ (by simp only; omega)))) k)
      have hkl : (l.cs.take k).length = k := by rw [List.length_take, HN.out]; omega
      have HKL := Lib.hid hkl
      clear hT0 hT8 hS0 hS8 yy h2 hkl
      go_wp2_with fail
      refine bodyPost_ret (results_list rfl _ _ (B + 1) rfl (twice0 _ (B + 1) _ _ _ _ ((HYF.out _ _).cell 0) ((HYF.out _ _).cell 1)).1 (twice0 _ (B + 1) _ _ _ _ ((HYF.out _ _).cell 0) ((HYF.out _ _).cell 1)).2) rfl ?_
      exact dmg_end HBB.out HT8.out (by have := HBB.out; omega) (HBW.out.setCell (p := ⟨B, 0, none⟩) (by have := HBB.out; simp only; omega) _) HRF.out HKL.out HM.out (by omega) (Nat.le_refl _) _ _
  · obtain ⟨v1, v2, rfl, ho1, ho2, hd, hb2⟩ := h2
    obtain ⟨A3, d1, e1, -, -, hr1⟩ := ho1.read Ce.row_len
    obtain ⟨A4, d2, e2, -, -, hr2⟩ := ho2.read Po.row_len
    rw [HN.out] at e1
    rw [HM.out] at e2
    subst e1 e2
    have HX2 := Lib.hid (HX.out.below hb2)
    have HY2 := Lib.hid (HY.out.below hb2)
    have HT2 := Lib.hid (HT.out.below hb2)
    have HR2 := Lib.hid (RdL.mk hr1 hr2)
    have hs2 := hb2.size
    replace x0 := HX2.out.cell 0
    replace x1 := HX2.out.cell 1
    have z0 := HX2.out.frozen 0
    have z1 := HX2.out.frozen 1
    clear hb2 ho1 ho2 hd hr1 hr2
    go_upto_region 2 with fail
    have hw2 : w.heap.size ≤ w2.heap.size := by have := HBB.out; omega
    have h2 := twice0 w2 B (.slice A3 n d1) (.slice A4 m d2) _ _ x0 x1
    have hBV : Below w.heap.size w2 ((w2.setCell ⟨B, 0, none⟩ (.slice A3 n d1)).setCell ⟨B, 1, none⟩ (.slice A4 m d2)) := (((Below.refl w2.heap.size w2).mono hw2).setCell (p := ⟨B, 0, none⟩) (by have := HBB.out; simp only; omega) _).setCell (p := ⟨B, 1, none⟩) (by have := HBB.out; simp only; omega) _
    have HTV := Lib.hid (tover HT2.out (by have := HBB.out; omega) hBV)
    have HRV := Lib.hid (RdL.mk (rdr_set2 (B := B) HR2.out.cs (by omega) (.slice A3 n d1) (.slice A4 m d2)) (rdr_set2 (B := B) HR2.out.ps (by omega) (.slice A3 n d1) (.slice A4 m d2)))
    have HYV := Lib.hid (has_far (p := ⟨B, 1, none⟩) (has_far (p := ⟨B, 0, none⟩) HY2.out (by simp) (.slice A3 n d1)) (by simp) (.slice A4 m d2))
    have q0 := h2.1
    have q1 := h2.2
    clear h2 hBV x0 x1 z0 z1 HX2 HY2 HT2 HR2 HX HY HT HL
    generalize (w2.setCell ⟨B, 0, none⟩ (.slice A3 n d1)).setCell ⟨B, 1, none⟩ (.slice A4 m d2) = V at *
    have y0 := HYV.out.cell 0
    have y1 := HYV.out.cell 1
    have u0 := HYV.out.frozen 0
    have u1 := HYV.out.frozen 1
    have HBW := Lib.hid (show Below w.heap.size V V from (Below.refl _ V).mono HTV.out.2.size)
    rw [hsz] at HRV
    by_cases hn2 : n < 2
    · have d3 : decide ((n : Int) < 2) = true := by simp; omega
      have d4 : (n : Int) < 2 := by omega
      go_wp2_with fail
      refine bodyPost_ret (results_list rfl _ _ (B + 1) rfl (twice0 _ (B + 1) _ _ _ _ y0 y1).1 (twice0 _ (B + 1) _ _ _ _ y0 y1).2) rfl ?_
      exact dmg_end HBB.out HTV.out (by have := HBB.out; omega) HBW.out HRV.out HN.out HM.out (Nat.le_refl _) (Nat.le_refl _) _ _
    · have d3 : decide ((n : Int) < 2) = false := by simp; omega
      have d4 : ¬ (n : Int) < 2 := by omega
      have d5 : decide ((m : Int) < 1) = true := by simp; omega
      have d6 : (m : Int) < 1 := by omega
      go_wp2_with fail
      refine bodyPost_ret (results_list rfl _ _ (B + 1) rfl (twice0 _ (B + 1) _ _ _ _ y0 y1).1 (twice0 _ (B + 1) _ _ _ _ y0 y1).2) rfl ?_
      exact dmg_end HBB.out HTV.out (by have := HBB.out; omega) HBW.out HRV.out HN.out HM.out (Nat.le_refl _) (Nat.le_refl _) _ _
end Lk
end Go.Proofs.YtmhbloefmknikaaGreatDoor
