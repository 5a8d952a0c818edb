/-
  A list copied, changed in place: copied, begin, find, lock, lockNext, unlock, decide and act of package locked. Conditions: the list is valid and may be changed in place.
-/
import Derived.Test.YtgmffgdhijcfcaaDoorKzB
import Derived.Test.YtgmffgdhijcfcaaDoorKzC
import Derived.Deep.RegionHeld3
import Derived.Deep.RegionLawGrows
import Derived.Deep.DeepCutAuto
import Derived.Deep.CutBlock
import Derived.BigQuiet
import Derived.BigRegion
namespace Go.Proofs.YtgmffgdhijcfcaaDoor
open Go.RowKit Go.Maps
namespace Lk

theorem has_keep {w w' : World} {b : Nat} {t : TypeId} {cs : Array Value} (h : Has w b t cs) (k : Below w.heap.size w w') : Has w' b t cs := h.below k
/-- A list of the call's own, copied. -/
def CopP (l : Ls) (n m : Nat) (w : World) (e : Ending) (w' : World) : Prop := ∃ G1 G2 d1 d2, e = .returned (.agg #[.slice (some ⟨G1, 0, none⟩) n d1, .slice (some ⟨G2, 0, none⟩) m d2]) ∧ MemL w' w.heap.size G1 G2 d1 d2 l ∧ Below w.heap.size w w'
theorem results_list {fn : Func} {t : Tmp} (h : fn.results = #[.cell t 35]) (tmps : Array Value) (w : World) (b : Nat) {A1 A2 : Option Addr} {n m c d : Nat} (hp : tmps[t]?.getD undef = .pointer (some ⟨b, 0, none⟩)) (h0 : w.cell? ⟨b, 0, none⟩ = some (.slice A1 n c)) (h1 : w.cell? ⟨b, 1, none⟩ = some (.slice A2 m d)) :
    (results fn tmps).run Tryd.prog w = .ok (.agg #[.slice A1 n c, .slice A2 m d]) w := by
  simp [results, h, hp, go_sem, h0, h1]
theorem results_list1 {fn : Func} {t u : Tmp} (h : fn.results = #[.cell t 35, .tmp u]) (tmps : Array Value) (w : World) (b : Nat) {A1 A2 : Option Addr} {n m c d : Nat} (hp : tmps[t]?.getD undef = .pointer (some ⟨b, 0, none⟩)) (h0 : w.cell? ⟨b, 0, none⟩ = some (.slice A1 n c)) (h1 : w.cell? ⟨b, 1, none⟩ = some (.slice A2 m d)) :
    (results fn tmps).run Tryd.prog w = .ok (.tuple #[.agg #[.slice A1 n c, .slice A2 m d], tmps.getD u undef]) w := by
  simp [results, h, hp, go_sem, h0, h1]
theorem twice0 (w : World) (B : Nat) (u v x y : Value) (h0 : w.cell? ⟨B, 0, none⟩ = some x) (h1 : w.cell? ⟨B, 1, none⟩ = some y) : ((w.setCell ⟨B, 0, none⟩ u).setCell ⟨B, 1, none⟩ v).cell? ⟨B, 0, none⟩ = some u ∧ ((w.setCell ⟨B, 0, none⟩ u).setCell ⟨B, 1, none⟩ v).cell? ⟨B, 1, none⟩ = some v := by
  constructor
  · simp [go_sem, h0]
  · simp [go_sem, h1]
theorem cop_end {w W w7 w8 : World} {B G1 G2 d1 d2 : Nat} {l : Ls} (hB : B = w.heap.size) (hz : W.heap.size = B + 1 + 1) (hb : Below B w W) (h7 : Below W.heap.size W w7) (g1 : W.heap.size ≤ G1) (o1 : MutR Ce.row 5 58 w7 G1 d1 l.cs) (h8 : Below w7.heap.size w7 w8) (g2 : w7.heap.size ≤ G2) (o2 : MutR Po.row 7 52 w8 G2 d2 l.ps) (u v : Value) :
    MemL ((w8.setCell ⟨B + 1, 0, none⟩ u).setCell ⟨B + 1, 1, none⟩ v) w.heap.size G1 G2 d1 d2 l ∧ Below w.heap.size w ((w8.setCell ⟨B + 1, 0, none⟩ u).setCell ⟨B + 1, 1, none⟩ v) := by
  have hs := h7.size
  have h1 := o1.lt
  subst hB
  refine ⟨⟨((o1.below h8).far (p := ⟨w.heap.size + 1, 0, none⟩) (by simp only; omega) u).far (p := ⟨w.heap.size + 1, 1, none⟩) (by simp only; omega) v, (o2.far (p := ⟨w.heap.size + 1, 0, none⟩) (by simp only; omega) u).far (p := ⟨w.heap.size + 1, 1, none⟩) (by simp only; omega) v, by omega, by omega, by omega⟩, ?_⟩
  have := (hb.trans (h7.mono hb.size)).trans (h8.mono (Nat.le_trans hb.size hs))
  exact (this.setCell (p := ⟨w.heap.size + 1, 0, none⟩) (by simp only; omega) u).setCell (p := ⟨w.heap.size + 1, 1, none⟩) (by simp only; omega) v
set_option maxRecDepth 100000 in
set_option maxHeartbeats 1600000 in
theorem copied_any (A1 A2 : Addr) (l : Ls) (n m c1 c2 lo : Nat) (w : World) (hn : l.cs.length = n) (hm : l.ps.length = m) (h : RdL w lo (some A1) (some A2) l) (n0 : 0 < n) (m0 : 0 < m) (n1 : n ≤ 1000000) (m1 : m ≤ 1000000) :
    Calls Tryd.prog 47 #[.agg #[.slice (some A1) n c1, .slice (some A2) m c2]] w (CopP l n m w) := by
  have hx := ((Has.new w 35 #[.slice (some A1) n c1, .slice (some A2) m c2]).below ((Below.refl _ _).alloc (Nat.le_refl _) (.cells #[.slice none 0 0, .slice none 0 0] 35)))
  have hb := ((Below.refl w.heap.size w).alloc (Nat.le_refl _) (.cells #[.slice (some A1) n c1, .slice (some A2) m c2] 35)).alloc (by rw [World.size_alloc]; omega) (.cells #[.slice none 0 0, .slice none 0 0] 35)
  have hy := Has.new (w.alloc (.cells #[.slice (some A1) n c1, .slice (some A2) m c2] 35)) 35 #[.slice none 0 0, .slice none 0 0]
  have hz : ((w.alloc (.cells #[.slice (some A1) n c1, .slice (some A2) m c2] 35)).alloc (.cells #[.slice none 0 0, .slice none 0 0] 35)).heap.size = w.heap.size + 1 + 1 := by rw [World.size_alloc, World.size_alloc]
  rw [World.size_alloc] at hy
  go_enter Tryd.func47, Tryd.ntmps47
  go_upto_region 1 with fail
  generalize (w.alloc (.cells #[.slice (some A1) n c1, .slice (some A2) m c2] 35)).alloc (.cells #[.slice none 0 0, .slice none 0 0] 35) = W at *
  have x0 := hx.cell 0
  have x1 := hx.cell 1
  have HC := Lib.hid (fun (V : World) (k : Below W.heap.size W V) => cloneC_any A1 l.cs n c1 lo V hn (RdR.below (RdR.below h.cs hb) k) n1 n0)
  have HP := Lib.hid (fun (V : World) (k : Below W.heap.size W V) => cloneP_any A2 l.ps m c2 lo V hm (RdR.below (RdR.below h.ps hb) k) m1 m0)
  have HX := Lib.hid hx
  have HK := Lib.hid (fun (V : World) (k : Below W.heap.size W V) => (⟨(hx.below k).cell 0, (hx.below k).cell 1, (hy.below k).cell 0, (hy.below k).cell 1, (hy.below k).frozen 0, (hy.below k).frozen 1, k⟩ : V.cell? ⟨w.heap.size, 0, none⟩ = some (.slice (some A1) n c1) ∧ V.cell? ⟨w.heap.size, 1, none⟩ = some (.slice (some A2) m c2) ∧ V.cell? ⟨w.heap.size + 1, 0, none⟩ = some (.slice none 0 0) ∧ V.cell? ⟨w.heap.size + 1, 1, none⟩ = some (.slice none 0 0) ∧ V.frozen? ⟨w.heap.size + 1, 0, none⟩ = false ∧ V.frozen? ⟨w.heap.size + 1, 1, none⟩ = false ∧ Below W.heap.size W V))
  have HY := Lib.hid hy
  have HB := Lib.hid hb
  have HZ := Lib.hid hz
  have HN := Lib.hid hn
  have HM := Lib.hid hm
  have hS0 := HK.out W.drew ((Below.refl _ _).drew)
  clear hx hy hb hz hn hm h n1 m1
  obtain ⟨B, hB⟩ : ∃ B, B = w.heap.size := ⟨_, rfl⟩
  rw [← hB] at x0 x1 hS0 HK HY HB HZ ⊢
  have HBB := Lib.hid hB
  clear hB
  obtain ⟨x0, x1, y0, y1, z0, z1, hbw⟩ := hS0
  go_region_law (first | (go_simp; go_at_call 69; refine (HP.out _ hb7).mono ?_; rintro e w8 ⟨G2, d2, rfl, hg8, ho8, hb8⟩; have hS8 := HK.out _ (hb7.trans (hb8.mono hb7.size)); obtain ⟨x0, x1, y0, y1, z0, z1, hb8⟩ := hS8) | (go_simp; go_at_call 68; refine (HC.out _ hbw).mono ?_; rintro e w7 ⟨G1, d1, rfl, hg7, ho7, hb7⟩; have hS7 := HK.out _ (hbw.trans (hb7.mono hbw.size)); obtain ⟨x0, x1, y0, y1, z0, z1, hb7⟩ := hS7))
  all_goals
    have HE := Lib.hid (cop_end HBB.out HZ.out HB.out hb7 hg7 ho7 (by assumption) hg8 ho8 (.slice (some ⟨G1, 0, none⟩) n d1) (.slice (some ⟨G2, 0, none⟩) m d2))
    clear ho7 ho8 hg7 hg8 hbw
    go_wp2_with fail
    (try simp only [Exit.inBlock, Exit.then])
    have h2 := twice0 w8 (B + 1) (.slice (some ⟨G1, 0, none⟩) n d1) (.slice (some ⟨G2, 0, none⟩) m d2) _ _ y0 y1
    exact bodyPost_ret (results_list rfl _ _ (B + 1) rfl h2.1 h2.2) rfl ⟨_, _, _, _, rfl, HE.out⟩

section
variable {w : World} {base G1 G2 c1 c2 : Nat} {l : Ls}
theorem Ls.setP_pr (l : Ls) {p : Nat} (h : p < l.ps.length) : l.setP p (l.pr p) = l := by
  unfold Ls.setP
  rw [← l.pr_lt h, List.set_getElem_self]
theorem Ls.setC_at (l : Ls) {p : Nat} (h : p < l.cs.length) : l.setC p (l.at_ p) = l := by
  unfold Ls.setC
  rw [← l.at_lt h, List.set_getElem_self]
theorem MemL.init (h : MemL w base G1 G2 c1 c2 l) {p : Nat} (hp : p < l.ps.length) : MemL w base G1 G2 c1 c2 (l.setP p (l.pr p)) := by rw [l.setP_pr hp]; exact h
theorem MemL.initC (h : MemL w base G1 G2 c1 c2 l) {p : Nat} (hp : p < l.cs.length) : MemL w base G1 G2 c1 c2 (l.setC p (l.at_ p)) := by rw [l.setC_at hp]; exact h
theorem MemL.up {p : Nat} {x : Po} (h : MemL w base G1 G2 c1 c2 (l.setP p x)) (hp : p < l.ps.length) (j : Nat) (hj : j < 7) (v : Value) (y : Po) (hy : y.row = x.row.set j v) : MemL (w.setCell ⟨G2, p * 7 + j, none⟩ v) base G1 G2 c1 c2 (l.setP p y) := by
  have := h.setP (i := p) (by rw [Ls.len_setP]; exact hp) j hj v y (by rw [Ls.pr_self l hp]; exact hy)
  rwa [Ls.setP_setP] at this
theorem MemL.upC {p : Nat} {x : Ce} (h : MemL w base G1 G2 c1 c2 (l.setC p x)) (hp : p < l.cs.length) (j : Nat) (hj : j < 5) (v : Value) (y : Ce) (hy : y.row = x.row.set j v) : MemL (w.setCell ⟨G1, p * 5 + j, none⟩ v) base G1 G2 c1 c2 (l.setC p y) := by
  have := h.setC (i := p) (by rw [Ls.len_setC]; exact hp) j hj v y (by rw [Ls.at_self l hp]; exact hy)
  rwa [Ls.setC_setC] at this
end

/-- Nothing but two blocks has turned. -/
structure Chg (G1 G2 : Nat) (w w' : World) : Prop where
  os : w'.os = w.os
  tape : w'.tape = w.tape
  output : w'.output = w.output
  size : w.heap.size ≤ w'.heap.size
  block : ∀ i, i < w.heap.size → i ≠ G1 → i ≠ G2 → w'.heap[i]? = w.heap[i]?
section
variable {G1 G2 : Nat} {a b c : World}
theorem Chg.refl : Chg G1 G2 a a := ⟨rfl, rfl, rfl, Nat.le_refl _, fun _ _ _ _ => rfl⟩
theorem Chg.trans (h : Chg G1 G2 a b) (k : Chg G1 G2 b c) : Chg G1 G2 a c := ⟨k.os.trans h.os, k.tape.trans h.tape, k.output.trans h.output, Nat.le_trans h.size k.size, fun i h1 h2 h3 => (k.block i (Nat.lt_of_lt_of_le h1 h.size) h2 h3).trans (h.block i h1 h2 h3)⟩
theorem Chg.of (h : Below a.heap.size a b) : Chg G1 G2 a b := ⟨h.os, h.tape, h.output, h.size, fun i h1 _ _ => h.block i h1⟩
theorem Chg.add (h : Chg G1 G2 a b) (k : Below b.heap.size b c) : Chg G1 G2 a c := h.trans (.of k)
theorem Chg.set1 (h : Chg G1 G2 a b) (o : Nat) (v : Value) : Chg G1 G2 a (b.setCell ⟨G1, o, none⟩ v) := h.trans ⟨rfl, rfl, rfl, by simp [World.setCell], fun i _ h2 _ => Below.heap_setCell b ⟨G1, o, none⟩ v i h2⟩
theorem Chg.set2 (h : Chg G1 G2 a b) (o : Nat) (v : Value) : Chg G1 G2 a (b.setCell ⟨G2, o, none⟩ v) := h.trans ⟨rfl, rfl, rfl, by simp [World.setCell], fun i _ _ h3 => Below.heap_setCell b ⟨G2, o, none⟩ v i h3⟩
theorem Chg.below {base : Nat} (h : Chg G1 G2 a b) (h1 : base ≤ G1) (h2 : base ≤ G2) (h3 : base ≤ a.heap.size) : Below base a b := ⟨h.os, h.tape, h.output, h.size, fun i hi => h.block i (by omega) (by omega) (by omega)⟩
theorem Chg.has {t : TypeId} {cs : Array Value} {B : Nat} (h : Chg G1 G2 a b) (k : Has a B t cs) (h1 : B ≠ G1) (h2 : B ≠ G2) : Has b B t cs := (h.block B k.lt h1 h2).trans k
end
theorem Chg.drew {G1 G2 : Nat} {a b : World} (h : Chg G1 G2 a b) : Chg G1 G2 a b.drew := ⟨h.os, h.tape, h.output, h.size, h.block⟩
theorem MemL.drew {w : World} {base G1 G2 c1 c2 : Nat} {l : Ls} (h : MemL w base G1 G2 c1 c2 l) : MemL w.drew base G1 G2 c1 c2 l := h.keep fun _ _ _ => rfl
theorem below_drw {B : Nat} {a b : World} (h : Below B a b) (n : Nat) : Below B a (b.drewN n) := ⟨h.os, h.tape, h.output, h.size, h.block⟩
/-- What a call that changes a list in place leaves. -/
def StP (l' : Ls) (base G1 G2 c1 c2 : Nat) (v : Value) (w : World) (e : Ending) (w' : World) : Prop := e = .returned v ∧ MemL w' base G1 G2 c1 c2 l' ∧ Chg G1 G2 w w'
set_option maxRecDepth 100000 in
set_option maxHeartbeats 1600000 in
theorem begin_any (l : Ls) (n m p base G1 G2 c1 c2 : Nat) (w : World) (hn : l.cs.length = n) (hm : l.ps.length = m) (h : MemL w base G1 G2 c1 c2 l) (hp : p < m) (n0 : 0 < n) :
    Calls Tryd.prog 48 #[.agg #[.slice (some ⟨G1, 0, none⟩) n c1, .slice (some ⟨G2, 0, none⟩) m c2], .int .i64 (p : Int)] w (StP (l.setP p { l.pr p with pred := 0, succ := (l.at_ 0).right, phase := 1 }) base G1 G2 c1 c2 (.tuple #[]) w) := by
  have hk : Chg G1 G2 w _ := Chg.of ((Below.refl w.heap.size w).alloc (Nat.le_refl _) (.cells #[.slice (some ⟨G1, 0, none⟩) n c1, .slice (some ⟨G2, 0, none⟩) m c2] 35))
  have h' := h.below ((Below.refl _ _).alloc (Nat.le_refl _) (.cells #[.slice (some ⟨G1, 0, none⟩) n c1, .slice (some ⟨G2, 0, none⟩) m c2] 35))
  have HX := Lib.hid (Has.new w 35 #[.slice (some ⟨G1, 0, none⟩) n c1, .slice (some ⟨G2, 0, none⟩) m c2])
  have HK := Lib.hid hk
  have HH := Lib.hid h'
  have HN := Lib.hid hn
  have HM := Lib.hid hm
  have p0 : (0 : Int) ≤ (p : Int) := by omega
  have p1 : (p : Int) < (m : Int) := by omega
  have n1 : (0 : Int) < (n : Int) := by omega
  clear h h' hk hn hm
  go_enter Tryd.func48, Tryd.ntmps48
  go_upto_region 1 with fail
  have hsz : (w.alloc (.cells #[.slice (some ⟨G1, 0, none⟩) n c1, .slice (some ⟨G2, 0, none⟩) m c2] 35)).heap.size = w.heap.size + 1 := World.size_alloc _ _
  generalize w.alloc (.cells #[.slice (some ⟨G1, 0, none⟩) n c1, .slice (some ⟨G2, 0, none⟩) m c2] 35) = W at *
  have x0 := HX.out.cell 0
  have x1 := HX.out.cell 1
  obtain ⟨z1, z2⟩ := HH.out.fz
  obtain ⟨a1, a2, a3, a4, a5, a6, a7⟩ := HH.out.proc (i := p) (by rw [HM.out]; exact hp)
  obtain ⟨b1, b2, b3, b4, b5⟩ := HH.out.cell (i := 0) (by rw [HN.out]; exact n0)
  go_wp2_with fail
  clear x0 x1 z1 z2 a1 a2 a3 a4 a5 a6 a7 b1 b2 b3 b4 b5
  go_end0
  have hp' : p < l.ps.length := by rw [HM.out]; exact hp
  refine ⟨rfl, (((HH.out.init hp').up hp' 3 (by decide) _ { l.pr p with pred := 0 } rfl).up hp' 4 (by decide) _ { l.pr p with pred := 0, succ := (l.at_ 0).right } rfl).up hp' 2 (by decide) _ _ rfl, ?_⟩
  exact ((HK.out.set2 _ _).set2 _ _).set2 _ _
end Lk
end Go.Proofs.YtgmffgdhijcfcaaDoor
