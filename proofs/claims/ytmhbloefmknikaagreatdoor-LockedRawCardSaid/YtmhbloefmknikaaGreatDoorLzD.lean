/-
  A list copied, changed in place: copied, begin, find, lock, lockNext, unlock, decide and act of package locked. Conditions: the list is valid and may be changed in place.
  Steps of package locked in place: lock, lockNext, unlock, find and decide. Conditions: the list is valid and may be changed in place.
  Steps of package locked in place: lockNext, find and decide. Conditions: the list is valid and may be changed in place.
  decide of package locked, in place. Conditions: the list is valid and may be changed in place.
  What a step is, phase by phase: plain. No condition.
  act of package locked, phase by phase, in place. Conditions: the list is valid and may be changed in place.
-/
import Derived.Test.YtmhbloefmknikaaGreatDoorKzB
import Derived.Test.YtmhbloefmknikaaGreatDoorKzC
import Derived.Deep.RegionHeld3
import Derived.Deep.RegionLawGrows
import Derived.Deep.DeepCutAuto
import Derived.Deep.CutBlock
import Derived.BigQuiet
import Derived.BigRegion
import Derived.Deep.QuietTactic
namespace Go.Proofs.YtmhbloefmknikaaGreatDoor
section
open Go.RowKit Go.Maps
namespace Lk

theorem has_keep {w w' : World} {b : Nat} {t : TypeId} {cs : Array Value} (h : Has w b t cs) (k : Below w.heap.size w w') : Has w' b t cs := h.below k
/-- A list of the call's own, copied. -/
def CopP (l : Ls) (n m : Nat) (w : World) (e : Ending) (w' : World) : Prop := ∃ G1 G2 d1 d2, e = .returned (.agg #[.slice (some ⟨G1, 0, none⟩) n d1, .slice (some ⟨G2, 0, none⟩) m d2]) ∧ MemL w' w.heap.size G1 G2 d1 d2 l ∧ Below w.heap.size w w'
theorem results_list {fn : Func} {t : Tmp} (h : fn.results = #[.cell t 28]) (tmps : Array Value) (w : World) (b : Nat) {A1 A2 : Option Addr} {n m c d : Nat} (hp : tmps[t]?.getD undef = .pointer (some ⟨b, 0, none⟩)) (h0 : w.cell? ⟨b, 0, none⟩ = some (.slice A1 n c)) (h1 : w.cell? ⟨b, 1, none⟩ = some (.slice A2 m d)) :
    (results fn tmps).run Tryz.prog w = .ok (.agg #[.slice A1 n c, .slice A2 m d]) w := by
  simp [results, h, hp, go_sem, h0, h1]
theorem results_list1 {fn : Func} {t u : Tmp} (h : fn.results = #[.cell t 28, .tmp u]) (tmps : Array Value) (w : World) (b : Nat) {A1 A2 : Option Addr} {n m c d : Nat} (hp : tmps[t]?.getD undef = .pointer (some ⟨b, 0, none⟩)) (h0 : w.cell? ⟨b, 0, none⟩ = some (.slice A1 n c)) (h1 : w.cell? ⟨b, 1, none⟩ = some (.slice A2 m d)) :
    (results fn tmps).run Tryz.prog w = .ok (.tuple #[.agg #[.slice A1 n c, .slice A2 m d], tmps.getD u undef]) w := by
  simp [results, h, hp, go_sem, h0, h1]
theorem twice0 (w : World) (B : Nat) (u v x y : Value) (h0 : w.cell? ⟨B, 0, none⟩ = some x) (h1 : w.cell? ⟨B, 1, none⟩ = some y) : ((w.setCell ⟨B, 0, none⟩ u).setCell ⟨B, 1, none⟩ v).cell? ⟨B, 0, none⟩ = some u ∧ ((w.setCell ⟨B, 0, none⟩ u).setCell ⟨B, 1, none⟩ v).cell? ⟨B, 1, none⟩ = some v := by
  constructor
  · simp [go_sem, h0]
  · simp [go_sem, h1]
theorem cop_end {w W w7 w8 : World} {B G1 G2 d1 d2 : Nat} {l : Ls} (hB : B = w.heap.size) (hz : W.heap.size = B + 1 + 1) (hb : Below B w W) (h7 : Below W.heap.size W w7) (g1 : W.heap.size ≤ G1) (o1 : MutR Ce.row 5 66 w7 G1 d1 l.cs) (h8 : Below w7.heap.size w7 w8) (g2 : w7.heap.size ≤ G2) (o2 : MutR Po.row 7 63 w8 G2 d2 l.ps) (u v : Value) :
    MemL ((w8.setCell ⟨B + 1, 0, none⟩ u).setCell ⟨B + 1, 1, none⟩ v) w.heap.size G1 G2 d1 d2 l ∧ Below w.heap.size w ((w8.setCell ⟨B + 1, 0, none⟩ u).setCell ⟨B + 1, 1, none⟩ v) := by
  have hs := h7.size
  have h1 := o1.lt
  subst hB
  refine ⟨⟨((o1.below h8).far (p := ⟨w.heap.size + 1, 0, none⟩) (by simp only; omega) u).far (p := ⟨w.heap.size + 1, 1, none⟩) (by simp only; omega) v, (o2.far (p := ⟨w.heap.size + 1, 0, none⟩) (by simp only; omega) u).far (p := ⟨w.heap.size + 1, 1, none⟩) (by simp only; omega) v, by omega, by omega, by omega⟩, ?_⟩
  have := (hb.trans (h7.mono hb.size)).trans (h8.mono (Nat.le_trans hb.size hs))
  exact (this.setCell (p := ⟨w.heap.size + 1, 0, none⟩) (by simp only; omega) u).setCell (p := ⟨w.heap.size + 1, 1, none⟩) (by simp only; omega) v
set_option maxRecDepth 100000 in
set_option maxHeartbeats 1600000 in
theorem copied_any (A1 A2 : Addr) (l : Ls) (n m c1 c2 lo : Nat) (w : World) (hn : l.cs.length = n) (hm : l.ps.length = m) (h : RdL w lo (some A1) (some A2) l) (n0 : 0 < n) (m0 : 0 < m) (n1 : n ≤ 1000000) (m1 : m ≤ 1000000) :
    Calls Tryz.prog 53 #[.agg #[.slice (some A1) n c1, .slice (some A2) m c2]] w (CopP l n m w) := by
  have hx := ((Has.new w 28 #[.slice (some A1) n c1, .slice (some A2) m c2]).below ((Below.refl _ _).alloc (Nat.le_refl _) (.cells #[.slice none 0 0, .slice none 0 0] 28)))
  have hb := ((Below.refl w.heap.size w).alloc (Nat.le_refl _) (.cells #[.slice (some A1) n c1, .slice (some A2) m c2] 28)).alloc (by rw [World.size_alloc]; omega) (.cells #[.slice none 0 0, .slice none 0 0] 28)
  have hy := Has.new (w.alloc (.cells #[.slice (some A1) n c1, .slice (some A2) m c2] 28)) 28 #[.slice none 0 0, .slice none 0 0]
  have hz : ((w.alloc (.cells #[.slice (some A1) n c1, .slice (some A2) m c2] 28)).alloc (.cells #[.slice none 0 0, .slice none 0 0] 28)).heap.size = w.heap.size + 1 + 1 := by rw [World.size_alloc, World.size_alloc]
  rw [World.size_alloc] at hy
  go_enter Tryz.func53, Tryz.ntmps53
  go_upto_region 1 with fail
  generalize (w.alloc (.cells #[.slice (some A1) n c1, .slice (some A2) m c2] 28)).alloc (.cells #[.slice none 0 0, .slice none 0 0] 28) = W at *
  have x0 := hx.cell 0
  have x1 := hx.cell 1
  have HC := Lib.hid (fun (V : World) (k : Below W.heap.size W V) => cloneC_any A1 l.cs n c1 lo V hn (RdR.below (RdR.below h.cs hb) k) n1 n0)
  have HP := Lib.hid (fun (V : World) (k : Below W.heap.size W V) => cloneP_any A2 l.ps m c2 lo V hm (RdR.below (RdR.below h.ps hb) k) m1 m0)
  have HX := Lib.hid hx
  have HK := Lib.hid (fun (V : World) (k : Below W.heap.size W V) => (⟨(hx.below k).cell 0, (hx.below k).cell 1, (hy.below k).cell 0, (hy.below k).cell 1, (hy.below k).frozen 0, (hy.below k).frozen 1, k⟩ : V.cell? ⟨w.heap.size, 0, none⟩ = some (.slice (some A1) n c1) ∧ V.cell? ⟨w.heap.size, 1, none⟩ = some (.slice (some A2) m c2) ∧ V.cell? ⟨w.heap.size + 1, 0, none⟩ = some (.slice none 0 0) ∧ V.cell? ⟨w.heap.size + 1, 1, none⟩ = some (.slice none 0 0) ∧ V.frozen? ⟨w.heap.size + 1, 0, none⟩ = false ∧ V.frozen? ⟨w.heap.size + 1, 1, none⟩ = false ∧ Below W.heap.size W V))
  have HY := Lib.hid hy
  have HB := Lib.hid hb
  have HZ := Lib.hid hz
  have HN := Lib.hid hn
  have HM := Lib.hid hm
  have hS0 := HK.out W.drew ((Below.refl _ _).drew)
  clear hx hy hb hz hn hm h n1 m1
  obtain ⟨B, hB⟩ : ∃ B, B = w.heap.size := ⟨_, rfl⟩
  rw [← hB] at x0 x1 hS0 HK HY HB HZ ⊢
  have HBB := Lib.hid hB
  clear hB
  obtain ⟨x0, x1, y0, y1, z0, z1, hbw⟩ := hS0
  go_region_law (first | (go_simp; go_at_call 97; refine (HP.out _ hb7).mono ?_; rintro e w8 ⟨G2, d2, rfl, hg8, ho8, hb8⟩; have hS8 := HK.out _ (hb7.trans (hb8.mono hb7.size)); obtain ⟨x0, x1, y0, y1, z0, z1, hb8⟩ := hS8) | (go_simp; go_at_call 96; refine (HC.out _ hbw).mono ?_; rintro e w7 ⟨G1, d1, rfl, hg7, ho7, hb7⟩; have hS7 := HK.out _ (hbw.trans (hb7.mono hbw.size)); obtain ⟨x0, x1, y0, y1, z0, z1, hb7⟩ := hS7))
  all_goals
    have HE := Lib.hid (cop_end HBB.out HZ.out HB.out hb7 hg7 ho7 (by assumption) hg8 ho8 (.slice (some ⟨G1, 0, none⟩) n d1) (.slice (some ⟨G2, 0, none⟩) m d2))
    clear ho7 ho8 hg7 hg8 hbw
    go_wp2_with fail
    (try simp only [Exit.inBlock, Exit.then])
    have h2 := twice0 w8 (B + 1) (.slice (some ⟨G1, 0, none⟩) n d1) (.slice (some ⟨G2, 0, none⟩) m d2) _ _ y0 y1
    exact bodyPost_ret (results_list rfl _ _ (B + 1) rfl h2.1 h2.2) rfl ⟨_, _, _, _, rfl, HE.out⟩

section
variable {w : World} {base G1 G2 c1 c2 : Nat} {l : Ls}
theorem Ls.setP_pr (l : Ls) {p : Nat} (h : p < l.ps.length) : l.setP p (l.pr p) = l := by
  unfold Ls.setP
  rw [← l.pr_lt h, List.set_getElem_self]
theorem Ls.setC_at (l : Ls) {p : Nat} (h : p < l.cs.length) : l.setC p (l.at_ p) = l := by
  unfold Ls.setC
  rw [← l.at_lt h, List.set_getElem_self]
theorem MemL.init (h : MemL w base G1 G2 c1 c2 l) {p : Nat} (hp : p < l.ps.length) : MemL w base G1 G2 c1 c2 (l.setP p (l.pr p)) := by rw [l.setP_pr hp]; exact h
theorem MemL.initC (h : MemL w base G1 G2 c1 c2 l) {p : Nat} (hp : p < l.cs.length) : MemL w base G1 G2 c1 c2 (l.setC p (l.at_ p)) := by rw [l.setC_at hp]; exact h
theorem MemL.up {p : Nat} {x : Po} (h : MemL w base G1 G2 c1 c2 (l.setP p x)) (hp : p < l.ps.length) (j : Nat) (hj : j < 7) (v : Value) (y : Po) (hy : y.row = x.row.set j v) : MemL (w.setCell ⟨G2, p * 7 + j, none⟩ v) base G1 G2 c1 c2 (l.setP p y) := by
  have := h.setP (i := p) (by rw [Ls.len_setP]; exact hp) j hj v y (by rw [Ls.pr_self l hp]; exact hy)
  rwa [Ls.setP_setP] at this
theorem MemL.upC {p : Nat} {x : Ce} (h : MemL w base G1 G2 c1 c2 (l.setC p x)) (hp : p < l.cs.length) (j : Nat) (hj : j < 5) (v : Value) (y : Ce) (hy : y.row = x.row.set j v) : MemL (w.setCell ⟨G1, p * 5 + j, none⟩ v) base G1 G2 c1 c2 (l.setC p y) := by
  have := h.setC (i := p) (by rw [Ls.len_setC]; exact hp) j hj v y (by rw [Ls.at_self l hp]; exact hy)
  rwa [Ls.setC_setC] at this
end

/-- Nothing but two blocks has turned. -/
structure Chg (G1 G2 : Nat) (w w' : World) : Prop where
  os : w'.os = w.os
  tape : w'.tape = w.tape
  output : w'.output = w.output
  size : w.heap.size ≤ w'.heap.size
  block : ∀ i, i < w.heap.size → i ≠ G1 → i ≠ G2 → w'.heap[i]? = w.heap[i]?
section
variable {G1 G2 : Nat} {a b c : World}
theorem Chg.refl : Chg G1 G2 a a := ⟨rfl, rfl, rfl, Nat.le_refl _, fun _ _ _ _ => rfl⟩
theorem Chg.trans (h : Chg G1 G2 a b) (k : Chg G1 G2 b c) : Chg G1 G2 a c := ⟨k.os.trans h.os, k.tape.trans h.tape, k.output.trans h.output, Nat.le_trans h.size k.size, fun i h1 h2 h3 => (k.block i (Nat.lt_of_lt_of_le h1 h.size) h2 h3).trans (h.block i h1 h2 h3)⟩
theorem Chg.of (h : Below a.heap.size a b) : Chg G1 G2 a b := ⟨h.os, h.tape, h.output, h.size, fun i h1 _ _ => h.block i h1⟩
theorem Chg.add (h : Chg G1 G2 a b) (k : Below b.heap.size b c) : Chg G1 G2 a c := h.trans (.of k)
theorem Chg.set1 (h : Chg G1 G2 a b) (o : Nat) (v : Value) : Chg G1 G2 a (b.setCell ⟨G1, o, none⟩ v) := h.trans ⟨rfl, rfl, rfl, by simp [World.setCell], fun i _ h2 _ => Below.heap_setCell b ⟨G1, o, none⟩ v i h2⟩
theorem Chg.set2 (h : Chg G1 G2 a b) (o : Nat) (v : Value) : Chg G1 G2 a (b.setCell ⟨G2, o, none⟩ v) := h.trans ⟨rfl, rfl, rfl, by simp [World.setCell], fun i _ _ h3 => Below.heap_setCell b ⟨G2, o, none⟩ v i h3⟩
theorem Chg.below {base : Nat} (h : Chg G1 G2 a b) (h1 : base ≤ G1) (h2 : base ≤ G2) (h3 : base ≤ a.heap.size) : Below base a b := ⟨h.os, h.tape, h.output, h.size, fun i hi => h.block i (by omega) (by omega) (by omega)⟩
theorem Chg.has {t : TypeId} {cs : Array Value} {B : Nat} (h : Chg G1 G2 a b) (k : Has a B t cs) (h1 : B ≠ G1) (h2 : B ≠ G2) : Has b B t cs := (h.block B k.lt h1 h2).trans k
end
theorem Chg.drew {G1 G2 : Nat} {a b : World} (h : Chg G1 G2 a b) : Chg G1 G2 a b.drew := ⟨h.os, h.tape, h.output, h.size, h.block⟩
theorem MemL.drew {w : World} {base G1 G2 c1 c2 : Nat} {l : Ls} (h : MemL w base G1 G2 c1 c2 l) : MemL w.drew base G1 G2 c1 c2 l := h.keep fun _ _ _ => rfl
theorem below_drw {B : Nat} {a b : World} (h : Below B a b) (n : Nat) : Below B a (b.drewN n) := ⟨h.os, h.tape, h.output, h.size, h.block⟩
/-- What a call that changes a list in place leaves. -/
def StP (l' : Ls) (base G1 G2 c1 c2 : Nat) (v : Value) (w : World) (e : Ending) (w' : World) : Prop := e = .returned v ∧ MemL w' base G1 G2 c1 c2 l' ∧ Chg G1 G2 w w'
set_option maxRecDepth 100000 in
set_option maxHeartbeats 1600000 in
theorem begin_any (l : Ls) (n m p base G1 G2 c1 c2 : Nat) (w : World) (hn : l.cs.length = n) (hm : l.ps.length = m) (h : MemL w base G1 G2 c1 c2 l) (hp : p < m) (n0 : 0 < n) :
    Calls Tryz.prog 54 #[.agg #[.slice (some ⟨G1, 0, none⟩) n c1, .slice (some ⟨G2, 0, none⟩) m c2], .int .i64 (p : Int)] w (StP (l.setP p { l.pr p with pred := 0, succ := (l.at_ 0).right, phase := 1 }) base G1 G2 c1 c2 (.tuple #[]) w) := by
  have hk : Chg G1 G2 w _ := Chg.of ((Below.refl w.heap.size w).alloc (Nat.le_refl _) (.cells #[.slice (some ⟨G1, 0, none⟩) n c1, .slice (some ⟨G2, 0, none⟩) m c2] 28))
  have h' := h.below ((Below.refl _ _).alloc (Nat.le_refl _) (.cells #[.slice (some ⟨G1, 0, none⟩) n c1, .slice (some ⟨G2, 0, none⟩) m c2] 28))
  have HX := Lib.hid (Has.new w 28 #[.slice (some ⟨G1, 0, none⟩) n c1, .slice (some ⟨G2, 0, none⟩) m c2])
  have HK := Lib.hid hk
  have HH := Lib.hid h'
  have HN := Lib.hid hn
  have HM := Lib.hid hm
  have p0 : (0 : Int) ≤ (p : Int) := by omega
  have p1 : (p : Int) < (m : Int) := by omega
  have n1 : (0 : Int) < (n : Int) := by omega
  clear h h' hk hn hm
  go_enter Tryz.func54, Tryz.ntmps54
  go_upto_region 1 with fail
  have hsz : (w.alloc (.cells #[.slice (some ⟨G1, 0, none⟩) n c1, .slice (some ⟨G2, 0, none⟩) m c2] 28)).heap.size = w.heap.size + 1 := World.size_alloc _ _
  generalize w.alloc (.cells #[.slice (some ⟨G1, 0, none⟩) n c1, .slice (some ⟨G2, 0, none⟩) m c2] 28) = W at *
  have x0 := HX.out.cell 0
  have x1 := HX.out.cell 1
  obtain ⟨z1, z2⟩ := HH.out.fz
  obtain ⟨a1, a2, a3, a4, a5, a6, a7⟩ := HH.out.proc (i := p) (by rw [HM.out]; exact hp)
  obtain ⟨b1, b2, b3, b4, b5⟩ := HH.out.cell (i := 0) (by rw [HN.out]; exact n0)
  go_wp2_with fail
  clear x0 x1 z1 z2 a1 a2 a3 a4 a5 a6 a7 b1 b2 b3 b4 b5
  go_end0
  have hp' : p < l.ps.length := by rw [HM.out]; exact hp
  refine ⟨rfl, (((HH.out.init hp').up hp' 3 (by decide) _ { l.pr p with pred := 0 } rfl).up hp' 4 (by decide) _ { l.pr p with pred := 0, succ := (l.at_ 0).right } rfl).up hp' 2 (by decide) _ _ rfl, ?_⟩
  exact ((HK.out.set2 _ _).set2 _ _).set2 _ _
end Lk
end
section
open Go.RowKit Go.Maps
namespace Lk

/-- What a call leaves that may change a list in place, and says whether it did. -/
def OptP (o : Option Ls) (l : Ls) (base G1 G2 c1 c2 : Nat) (w : World) (e : Ending) (w' : World) : Prop := e = .returned (.bool o.isSome) ∧ MemL w' base G1 G2 c1 c2 (o.getD l) ∧ Chg G1 G2 w w'
def lokV (l : Ls) (p c : Nat) (ph : Int) : Option Ls := if (l.at_ c).lock ≠ 0 then none else some ((l.setC c { l.at_ c with lock := (p : Int) + 1 }).setP p { l.pr p with phase := ph })
set_option maxRecDepth 100000 in
set_option maxHeartbeats 1600000 in
theorem lock_any (l : Ls) (n m p c base G1 G2 c1 c2 : Nat) (ph : Int) (w : World) (hn : l.cs.length = n) (hm : l.ps.length = m) (h : MemL w base G1 G2 c1 c2 l) (hp : p < m) (hc : c < n) (m8 : m ≤ 8) :
    Calls Tryz.prog 100 #[.agg #[.slice (some ⟨G1, 0, none⟩) n c1, .slice (some ⟨G2, 0, none⟩) m c2], .int .i64 (p : Int), .int .i64 (c : Int), .int .i64 ph] w (OptP (lokV l p c ph) l base G1 G2 c1 c2 w) := by
  have HK : Hid (Chg G1 G2 w _) := Lib.hid (Chg.of ((Below.refl w.heap.size w).alloc (Nat.le_refl _) (.cells #[.slice (some ⟨G1, 0, none⟩) n c1, .slice (some ⟨G2, 0, none⟩) m c2] 28)))
  have HH := Lib.hid (h.below ((Below.refl _ _).alloc (Nat.le_refl _) (.cells #[.slice (some ⟨G1, 0, none⟩) n c1, .slice (some ⟨G2, 0, none⟩) m c2] 28)))
  have HX := Lib.hid (Has.new w 28 #[.slice (some ⟨G1, 0, none⟩) n c1, .slice (some ⟨G2, 0, none⟩) m c2])
  have hbn : G1 < w.heap.size ∧ G2 < w.heap.size := ⟨h.cs.lt, h.ps.lt⟩
  have hne := h.ne
  have HN := Lib.hid hn
  have HM := Lib.hid hm
  have p0 : (0 : Int) ≤ (p : Int) := by omega
  have p1 : (p : Int) < (m : Int) := by omega
  have q0 : (0 : Int) ≤ (c : Int) := by omega
  have q1 : (c : Int) < (n : Int) := by omega
  have hw : IntKind.i64.wrap ((p : Int) + 1) = (p : Int) + 1 := IntWalk.i64_in _ (by omega)
  clear h hn hm
  go_enter Tryz.func100, Tryz.ntmps100
  go_upto_region 1 with fail
  generalize w.alloc (.cells #[.slice (some ⟨G1, 0, none⟩) n c1, .slice (some ⟨G2, 0, none⟩) m c2] 28) = W at *
  have x0 := HX.out.cell 0
  have x1 := HX.out.cell 1
  have hX1 : ¬ w.heap.size = G1 := by omega
  have hX2 : ¬ w.heap.size = G2 := by omega
  obtain ⟨z1, z2⟩ := HH.out.fz
  obtain ⟨a1, a2, a3, a4, a5, a6, a7⟩ := HH.out.proc (i := p) (by rw [HM.out]; exact hp)
  obtain ⟨b1, b2, b3, b4, b5⟩ := HH.out.cell (i := c) (by rw [HN.out]; exact hc)
  by_cases hl : (l.at_ c).lock = 0
  · have e : lokV l p c ph = some ((l.setC c { l.at_ c with lock := (p : Int) + 1 }).setP p { l.pr p with phase := ph }) := by unfold lokV; rw [if_neg (fun q => q hl)]
    have HE := Lib.hid e
    have hd : ((l.at_ c).lock != 0) = false := by simp [hl]
    clear e hl
    go_wp2_with fail
    clear x0 x1 z1 z2 a1 a2 a3 a4 a5 a6 a7 b1 b2 b3 b4 b5 hd hw
    go_ret
    have hp' : p < l.ps.length := by rw [HM.out]; exact hp
    have hc' : c < l.cs.length := by rw [HN.out]; exact hc
    refine ⟨by rw [HE.out]; rfl, by rw [HE.out]; exact ((HH.out.initC hc').upC hc' 3 (by decide) (.int .i64 ((p : Int) + 1)) { l.at_ c with lock := (p : Int) + 1 } rfl).setP hp' 2 (by decide) (.int .i64 ph) { l.pr p with phase := ph } rfl, ?_⟩
    exact (HK.out.set1 _ _).set2 _ _
  · have e : lokV l p c ph = none := by unfold lokV; rw [if_pos hl]
    have HE := Lib.hid e
    have hd : ((l.at_ c).lock != 0) = true := by simpa using hl
    clear e hl
    go_wp2_with fail
    go_ret
    exact ⟨by rw [HE.out]; rfl, by rw [HE.out]; exact HH.out, HK.out⟩

/-- The first k cells freed. -/
def freeK (l : Ls) (p k : Nat) : Ls := { l with cs := (l.cs.take k).map (fun c => if c.lock = (p : Int) + 1 then { c with lock := 0 } else c) ++ l.cs.drop k }
theorem free_zero (l : Ls) (p : Nat) : freeK l p 0 = l := by simp [freeK]
theorem free_all (l : Ls) (p : Nat) : freeK l p l.cs.length = l.free p := by simp [freeK, Ls.free]
theorem free_len (l : Ls) (p k : Nat) : (freeK l p k).cs.length = l.cs.length := by simp [freeK]; omega
theorem free_at (l : Ls) (p k : Nat) : (freeK l p k).at_ k = l.at_ k := by
  unfold Ls.at_ freeK
  simp only [List.getD_eq_getElem?_getD]
  by_cases h : k < l.cs.length
  · rw [List.getElem?_append_right (by simp; omega)]
    simp [Nat.min_eq_left (Nat.le_of_lt h)]
  · rw [List.getElem?_eq_none (by simp; omega), List.getElem?_eq_none (by omega)]
theorem free_succ {l : Ls} {p k : Nat} (h : k < l.cs.length) (y : Ce) (hy : y = if (l.at_ k).lock = (p : Int) + 1 then { l.at_ k with lock := 0 } else l.at_ k) : freeK l p (k + 1) = (freeK l p k).setC k y := by
  unfold freeK Ls.setC
  simp only
  have e : ((l.cs.take k).map (fun c : Ce => if c.lock = (p : Int) + 1 then { c with lock := 0 } else c)).length = k := by simp; omega
  rw [List.set_append_right _ _ (by omega), e, Nat.sub_self, List.drop_eq_getElem_cons h, List.set_cons_zero, List.take_succ_eq_append_getElem h, List.map_append, List.append_assoc]
  rw [l.at_lt h, hy]
  simp only [List.map_cons, List.map_nil, List.cons_append, List.nil_append]
theorem free_next {l : Ls} {p k : Nat} (h : k < l.cs.length) (hl : (l.at_ k).lock = (p : Int) + 1) : freeK l p (k + 1) = (freeK l p k).setC k { l.at_ k with lock := 0 } := free_succ h _ (by rw [if_pos hl])
theorem free_skip {l : Ls} {p k : Nat} (h : k < l.cs.length) (hl : ¬ (l.at_ k).lock = (p : Int) + 1) : freeK l p (k + 1) = freeK l p k := by
  rw [free_succ h (l.at_ k) (by rw [if_neg hl])]
  conv => lhs; rw [← free_at l p k]
  exact Ls.setC_at _ (by rw [free_len]; exact h)
set_option maxRecDepth 100000 in
set_option maxHeartbeats 1600000 in
/-- All cells that a process has locked are unlocked. -/
theorem unlock_any (l : Ls) (n m p base G1 G2 c1 c2 : Nat) (w : World) (hn : l.cs.length = n) (hm : l.ps.length = m) (h : MemL w base G1 G2 c1 c2 l) (hp : p < m) (m8 : m ≤ 8) (n66 : n ≤ 66) :
    Calls Tryz.prog 102 #[.slice (some ⟨G1, 0, none⟩) n c1, .int .i64 (p : Int)] w (StP (l.free p) base G1 G2 c1 c2 (.tuple #[]) w) := by
  have HN := Lib.hid hn
  have HM := Lib.hid hm
  have HH := Lib.hid h
  have HF := Lib.hid (fun (W : World) (k : MemL W base G1 G2 c1 c2 (freeK l p n)) => (by rw [← free_all l p, hn]; exact k : MemL W base G1 G2 c1 c2 (l.free p)))
  have HB : Hid (Chg G1 G2 w w) := Lib.hid Chg.refl
  have HZ : Hid (MemL w base G1 G2 c1 c2 (freeK l p 0)) := Lib.hid (by rw [free_zero]; exact h)
  have hw : IntKind.i64.wrap ((p : Int) + 1) = (p : Int) + 1 := IntWalk.i64_in _ (by omega)
  clear h hn hm
  go_enter Tryz.func102, Tryz.ntmps102
  go_wp2_with fail
  go_loopw [7] (fun vi wr => ∃ i : Nat, vi = .int .i64 (i : Int) ∧ i ≤ n ∧ MemL wr base G1 G2 c1 c2 (freeK l p i) ∧ Chg G1 G2 w wr) (fun vi _ => n - (intOf vi).toNat)
  case atStart => exact ⟨0, rfl, by omega, HZ.out, HB.out⟩
  case round =>
    obtain ⟨i, rfl, hi, hM, hB⟩ := hrel
    have HMW := Lib.hid hM
    have HBW := Lib.hid hB
    clear hM hB
    by_cases hlt : i < n
    · have i0 : (0 : Int) ≤ (i : Int) := by omega
      have i1 : (i : Int) < (n : Int) := by omega
      have hi' : i < (freeK l p i).cs.length := by rw [free_len, HN.out]; exact hlt
      obtain ⟨b1, b2, b3, b4, b5⟩ := HMW.out.cell hi'
      obtain ⟨z1, z2⟩ := HMW.out.fz
      have e := free_at l p i
      rw [e] at b1 b2 b3 b4 b5
      by_cases hl : (l.at_ i).lock = (p : Int) + 1
      · have hz : decide ((l.at_ i).lock = (p : Int) + 1) = true := decide_eq_true hl
        have HNX := Lib.hid (free_next (by rw [HN.out]; exact hlt) hl)
        have HEQ := Lib.hid e
        clear e
        go_wp2_with fail
        refine ⟨⟨i + 1, by go_num, hlt, ?_, HBW.out.set1 _ _⟩, by simp [intOf]; omega⟩
        rw [HNX.out]
        exact HMW.out.setC hi' 3 (by decide) _ _ (by rw [HEQ.out]; rfl)
      · have hz : decide ((l.at_ i).lock = (p : Int) + 1) = false := decide_eq_false hl
        have HNX := Lib.hid (free_skip (by rw [HN.out]; exact hlt) hl)
        clear e
        go_wp2_with fail
        exact ⟨⟨i + 1, by go_num, hlt, by rw [HNX.out]; exact HMW.out, HBW.out⟩, by simp [intOf]; omega⟩
    · obtain rfl : i = n := by omega
      have HR := Lib.hid (HF.out _ HMW.out)
      clear HF HMW
      go_wp2_with fail
      go_end0
      exact ⟨rfl, HR.out, HBW.out⟩
end Lk
end
section
open Go.RowKit Go.Maps
namespace Lk

theorem nat_of {z : Int} {n : Nat} (h : 0 ≤ z ∧ z < n) : ∃ k : Nat, z = (k : Int) ∧ k < n := ⟨z.toNat, by omega, by omega⟩
def lknV (l : Ls) (p r : Nat) : Option Ls := if (l.at_ r).lock ≠ 0 then none else some ((l.setC r { l.at_ r with lock := (p : Int) + 1 }).setP p { l.pr p with next := (r : Int), phase := 10 })
set_option maxRecDepth 100000 in
set_option maxHeartbeats 1600000 in
theorem lockNext_any (l : Ls) (n m p c r base G1 G2 c1 c2 : Nat) (w : World) (hn : l.cs.length = n) (hm : l.ps.length = m) (h : MemL w base G1 G2 c1 c2 l) (hp : p < m) (hc : c < n) (hr : r < n) (m8 : m ≤ 8) (hxc : (l.pr p).cell = (c : Int)) (hcr : (l.at_ c).right = (r : Int)) :
    Calls Tryz.prog 103 #[.agg #[.slice (some ⟨G1, 0, none⟩) n c1, .slice (some ⟨G2, 0, none⟩) m c2], .int .i64 (p : Int)] w (OptP (lknV l p r) l base G1 G2 c1 c2 w) := by
  have HK : Hid (Chg G1 G2 w _) := Lib.hid (Chg.of ((Below.refl w.heap.size w).alloc (Nat.le_refl _) (.cells #[.slice (some ⟨G1, 0, none⟩) n c1, .slice (some ⟨G2, 0, none⟩) m c2] 28)))
  have HH := Lib.hid (h.below ((Below.refl _ _).alloc (Nat.le_refl _) (.cells #[.slice (some ⟨G1, 0, none⟩) n c1, .slice (some ⟨G2, 0, none⟩) m c2] 28)))
  have HX := Lib.hid (Has.new w 28 #[.slice (some ⟨G1, 0, none⟩) n c1, .slice (some ⟨G2, 0, none⟩) m c2])
  have hbn : G1 < w.heap.size ∧ G2 < w.heap.size := ⟨h.cs.lt, h.ps.lt⟩
  have hsz : w.heap.size < (w.alloc (.cells #[.slice (some ⟨G1, 0, none⟩) n c1, .slice (some ⟨G2, 0, none⟩) m c2] 28)).heap.size := by rw [World.size_alloc]; omega
  have HN := Lib.hid hn
  have HM := Lib.hid hm
  have p0 : (0 : Int) ≤ (p : Int) := by omega
  have p1 : (p : Int) < (m : Int) := by omega
  have q0 : (0 : Int) ≤ (c : Int) := by omega
  have q1 : (c : Int) < (n : Int) := by omega
  clear h hn hm
  go_enter Tryz.func103, Tryz.ntmps103
  go_upto_region 1 with fail
  generalize w.alloc (.cells #[.slice (some ⟨G1, 0, none⟩) n c1, .slice (some ⟨G2, 0, none⟩) m c2] 28) = W at *
  obtain ⟨B, hB⟩ : ∃ B, B = w.heap.size := ⟨_, rfl⟩
  rw [← hB] at HX hbn hsz ⊢
  clear hB
  have x0 := HX.out.cell 0
  have x1 := HX.out.cell 1
  obtain ⟨-, a2, -⟩ := HH.out.proc (i := p) (by rw [HM.out]; exact hp)
  obtain ⟨-, -, b3, -⟩ := HH.out.cell (i := c) (by rw [HN.out]; exact hc)
  rw [hxc] at a2
  rw [hcr] at b3
  go_quiet (fail)
  have hqb := below_drw (Below.refl W.heap.size W) nq
  have HHQ := Lib.hid (HH.out.below hqb)
  have HKQ := Lib.hid (HK.out.add hqb)
  have HXQ := Lib.hid (HX.out.below hqb)
  have hsq := hqb.size
  clear a2 b3 x0 x1 hqb
  generalize W.drewN nq = V at *
  have x0 := HXQ.out.cell 0
  have x1 := HXQ.out.cell 1
  have HL := Lib.hid (lock_any l n m p r base G1 G2 c1 c2 10 V HN.out HM.out HHQ.out hp hr m8)
  by_cases hl : (l.at_ r).lock = 0
  · have e1 : lokV l p r 10 = some ((l.setC r { l.at_ r with lock := (p : Int) + 1 }).setP p { l.pr p with phase := 10 }) := by unfold lokV; rw [if_neg (fun q => q hl)]
    have e2 : lknV l p r = some ((l.setC r { l.at_ r with lock := (p : Int) + 1 }).setP p { l.pr p with next := (r : Int), phase := 10 }) := by unfold lknV; rw [if_neg (fun q => q hl)]
    rw [e1] at HL
    have HE := Lib.hid e2
    clear e1 e2 hl
    go_wp2_with fail
    refine (HL.out).mono ?_
    rintro e w2 ⟨rfl, hm2, hb2⟩
    have HM2 := Lib.hid hm2
    have HB2 := Lib.hid hb2
    have HX2 := Lib.hid (hb2.has HXQ.out (by omega) (by omega))
    clear hm2 hb2 x0 x1 HXQ
    have x0 := HX2.out.cell 0
    have x1 := HX2.out.cell 1
    obtain ⟨z1, z2⟩ := HM2.out.fz
    have hp2 : p < ((some ((l.setC r { l.at_ r with lock := (p : Int) + 1 }).setP p { l.pr p with phase := 10 })).getD l).ps.length := by
      show p < (Ls.setP _ p _).ps.length
      rw [Ls.len_setP]
      show p < l.ps.length
      rw [HM.out]; exact hp
    obtain ⟨-, -, -, -, -, a6, -⟩ := HM2.out.proc hp2
    go_wp2_with fail
    clear x0 x1 z1 z2 a6
    go_ret
    have hp' : p < l.ps.length := by rw [HM.out]; exact hp
    refine ⟨by rw [HE.out]; rfl, ?_, (HKQ.out.trans HB2.out).set2 _ _⟩
    rw [HE.out]
    exact MemL.up (l := l.setC r { l.at_ r with lock := (p : Int) + 1 }) HM2.out hp' 5 (by decide) (.int .i64 (r : Int)) { l.pr p with next := (r : Int), phase := 10 } rfl
  · have e1 : lokV l p r 10 = none := by unfold lokV; rw [if_pos hl]
    have e2 : lknV l p r = none := by unfold lknV; rw [if_pos hl]
    rw [e1] at HL
    have HE := Lib.hid e2
    clear e1 e2 hl
    go_wp2_with fail
    refine (HL.out).mono ?_
    rintro e w2 ⟨rfl, hm2, hb2⟩
    have HM2 := Lib.hid hm2
    have HB2 := Lib.hid hb2
    clear hm2 hb2 x0 x1
    go_wp2_with fail
    go_ret
    exact ⟨by rw [HE.out]; rfl, by rw [HE.out]; exact HM2.out, HKQ.out.trans HB2.out⟩

theorem compare_n (l : Ls) (n c a b lo : Nat) (A : Option Addr) (w : World) (hn : l.cs.length = n) (hl : Ces w lo A l.cs) (ha : a < n) (hb : b < n) : Calls Tryz.prog 110 #[.slice A n c, .int .i64 (a : Int), .int .i64 (b : Int)] w (Quiet (.int .i64 (cmpC l a b)) w) := by
  subst hn
  exact compare_any A l c a b lo w hl ha hb
def fndV (l : Ls) (p s c : Nat) : Ls := if blw l s c = true then l.setP p { l.pr p with pred := (s : Int), succ := (l.at_ s).right } else l.setP p { l.pr p with phase := if (l.pr p).kind = 3 then 4 else 2 }
set_option maxRecDepth 100000 in
set_option maxHeartbeats 3200000 in
theorem find_any (l : Ls) (n m p s c base G1 G2 c1 c2 : Nat) (w : World) (hn : l.cs.length = n) (hm : l.ps.length = m) (h : MemL w base G1 G2 c1 c2 l) (hp : p < m) (hs : s < n) (hc : c < n) (hxs : (l.pr p).succ = (s : Int)) (hxc : (l.pr p).cell = (c : Int)) :
    Calls Tryz.prog 99 #[.slice (some ⟨G1, 0, none⟩) n c1, .pointer (some ⟨G2, p * 7, none⟩)] w (StP (fndV l p s c) base G1 G2 c1 c2 (.tuple #[]) w) := by
  have HN := Lib.hid hn
  have HM := Lib.hid hm
  have hp' : p < l.ps.length := by rw [hm]; exact hp
  have hs' : s < l.cs.length := by rw [hn]; exact hs
  have HC := Lib.hid (fun (V : World) (k : Below w.heap.size w V) => compare_n l n c1 s c base (some ⟨G1, 0, none⟩) V hn ((h.below k).cs.rd h.b1) hs hc)
  have HH := Lib.hid h
  have HF := Lib.hid (fun (V : World) (k : Below w.heap.size w V) => (⟨by have := ((h.below k).proc hp').2.2.2.2.1; rw [hxs] at this; exact this, by have := ((h.below k).proc hp').2.1; rw [hxc] at this; exact this, k⟩ : V.cell? ⟨G2, p * 7 + 4, none⟩ = some (.int .i64 (s : Int)) ∧ V.cell? ⟨G2, p * 7 + 1, none⟩ = some (.int .i64 (c : Int)) ∧ Below w.heap.size w V))
  have hS0 := HF.out w.drew (Below.refl _ _).drew
  have q0 : (0 : Int) ≤ (s : Int) := by omega
  have q1 : (s : Int) < (n : Int) := by omega
  have HXS := Lib.hid hxs
  have HXC := Lib.hid hxc
  obtain ⟨F, hF⟩ : ∃ F, F = fndV l p s c := ⟨_, rfl⟩
  have HFV := Lib.hid hF
  rw [← hF]
  clear h hn hm hF hxs hxc
  go_enter Tryz.func99, Tryz.ntmps99
  go_upto_region 1 with fail
  have x0 := hS0.1
  have x1 := hS0.2.1
  go_region_held3 (fun V => V.cell? ⟨G2, p * 7 + 4, none⟩ = some (.int .i64 (s : Int)) ∧ V.cell? ⟨G2, p * 7 + 1, none⟩ = some (.int .i64 (c : Int)) ∧ Below w.heap.size w V) (first | with_reducible exact hS7 | with_reducible exact hS0) ((go_at_call 110; refine (HC.out _ hS0.2.2).mono ?_; rintro e w7 ⟨rfl, hb7⟩; have hS7 := HF.out _ (hS0.2.2.trans (hb7.mono hS0.2.2.size))))
  have HB7 := Lib.hid hS7.2.2
  have HC7 : Hid (Chg G1 G2 w w7) := Lib.hid (Chg.of hS7.2.2)
  have HM7 := Lib.hid (HH.out.below hS7.2.2)
  clear x0 x1 hS0 hS7 hb7 HH HF HC
  obtain ⟨z1, z2⟩ := HM7.out.fz
  obtain ⟨a1, a2, a3, a4, a5, -, -⟩ := HM7.out.proc hp'
  obtain ⟨-, -, b3, -⟩ := HM7.out.cell hs'
  rw [HXS.out] at a5
  rw [HXC.out] at a2
  have hlt := cmpC_lt l s c
  cases hbl : blw l s c with
  | true =>
    rw [hbl] at hlt
    have HE : Hid (F = l.setP p { l.pr p with pred := (s : Int), succ := (l.at_ s).right }) := Lib.hid (by rw [HFV.out]; unfold fndV; rw [if_pos hbl])
    have hR := of_decide_eq_true hlt
    clear hlt hbl HFV
    generalize cmpC l s c = R at *
    go_upto_region 2 with fail
    go_region
    clear a1 a2 a3 a4 a5 b3 z1 z2
    go_end0
    refine ⟨rfl, ?_, ((HC7.out.set2 _ _).set2 _ _).drew⟩
    rw [HE.out]
    exact MemL.drew (((HM7.out.init hp').up hp' 3 (by decide) (.int .i64 (s : Int)) { l.pr p with pred := (s : Int) } rfl).up hp' 4 (by decide) (.int .i64 (l.at_ s).right) { l.pr p with pred := (s : Int), succ := (l.at_ s).right } rfl)
  | false =>
    have HE : Hid (F = l.setP p { l.pr p with phase := if (l.pr p).kind = 3 then 4 else 2 }) := Lib.hid (by rw [HFV.out]; unfold fndV; rw [if_neg (by rw [hbl]; exact Bool.false_ne_true)])
    rw [hbl] at hlt
    have hR := of_decide_eq_false hlt
    clear hlt hbl HFV
    generalize cmpC l s c = R at *
    by_cases hk : (l.pr p).kind = 3
    · rw [if_pos hk] at HE
      go_wp2_with fail
      clear a1 a2 a3 a4 a5 b3 z1 z2
      go_end0
      exact ⟨rfl, by rw [HE.out]; exact (HM7.out.init hp').up hp' 2 (by decide) (.int .i64 4) { l.pr p with phase := 4 } rfl, HC7.out.set2 _ _⟩
    · rw [if_neg hk] at HE
      go_wp2_with fail
      clear a1 a2 a3 a4 a5 b3 z1 z2
      go_end0
      exact ⟨rfl, by rw [HE.out]; exact (HM7.out.init hp').up hp' 2 (by decide) (.int .i64 2) { l.pr p with phase := 2 } rfl, HC7.out.set2 _ _⟩
end Lk
end
section
open Go.RowKit Go.Maps
namespace Lk

def dcdV (l : Ls) (p d s c : Nat) : Ls :=
  if (l.pr p).kind = 3 then l.setP p { l.pr p with res := decide (s = c) && !(l.at_ c).gone, phase := 18 }
  else if (l.at_ d).gone = true ∨ (l.at_ s).gone = true ∨ (l.at_ d).right ≠ (s : Int) then l.setP p { l.pr p with phase := 5 }
  else if (l.pr p).kind = 1 ∧ s ≠ c then l.setP p { l.pr p with phase := 6 }
  else if (l.pr p).kind = 2 ∧ s = c then l.setP p { l.pr p with phase := 9 }
  else l.setP p { l.pr p with phase := 13 }
set_option maxRecDepth 100000 in
set_option maxHeartbeats 6400000 in
theorem decide_any (l : Ls) (n m p d s c base G1 G2 c1 c2 : Nat) (w : World) (hn : l.cs.length = n) (hm : l.ps.length = m) (h : MemL w base G1 G2 c1 c2 l) (hp : p < m) (hd : d < n) (hs : s < n) (hc : c < n) (hxd : (l.pr p).pred = (d : Int)) (hxs : (l.pr p).succ = (s : Int)) (hxc : (l.pr p).cell = (c : Int)) :
    Calls Tryz.prog 101 #[.slice (some ⟨G1, 0, none⟩) n c1, .pointer (some ⟨G2, p * 7, none⟩)] w (StP (dcdV l p d s c) base G1 G2 c1 c2 (.tuple #[]) w) := by
  have hp' : p < l.ps.length := by rw [hm]; exact hp
  have hd' : d < l.cs.length := by rw [hn]; exact hd
  have hs' : s < l.cs.length := by rw [hn]; exact hs
  have hc' : c < l.cs.length := by rw [hn]; exact hc
  have HH := Lib.hid h
  have r0 : (0 : Int) ≤ (d : Int) := by omega
  have r1 : (d : Int) < (n : Int) := by omega
  have q0 : (0 : Int) ≤ (s : Int) := by omega
  have q1 : (s : Int) < (n : Int) := by omega
  have t0 : (0 : Int) ≤ (c : Int) := by omega
  have t1 : (c : Int) < (n : Int) := by omega
  have HXD := Lib.hid hxd
  have HXS := Lib.hid hxs
  have HXC := Lib.hid hxc
  obtain ⟨F, hF⟩ : ∃ F, F = dcdV l p d s c := ⟨_, rfl⟩
  have HFV := Lib.hid hF
  unfold dcdV at hF
  rw [show dcdV l p d s c = F from HFV.out.symm]
  have HC0 : Hid (Chg G1 G2 w w) := Lib.hid Chg.refl
  clear h hn hm hxd hxs hxc HFV
  by_cases hk : (l.pr p).kind = 3
  · rw [if_pos hk] at hF
    by_cases hsc : s = c
    · subst hsc
      cases hg : (l.at_ s).gone with
      | true =>
        rw [hg] at hF
        replace hF := Lib.hid (show F = l.setP p { l.pr p with res := false, phase := 18 } by rw [hF]; simp)
        go_enter Tryz.func101, Tryz.ntmps101
        obtain ⟨z1, z2⟩ := HH.out.fz
        obtain ⟨a1, a2, a3, a4, a5, -, a7⟩ := HH.out.proc hp'
        obtain ⟨-, -, b3, -, b5⟩ := HH.out.cell hd'
        obtain ⟨-, -, -, -, e5⟩ := HH.out.cell hs'
        obtain ⟨-, -, -, -, f5⟩ := HH.out.cell hc'
        rw [HXD.out] at a4
        rw [HXS.out] at a5
        rw [HXC.out] at a2
        go_upto_region 0 with fail
        go_quiet (fail)
        have hqb := below_drw (Below.refl w.heap.size w) nq
        have HHQ := Lib.hid (HH.out.below hqb)
        have HCQ := Lib.hid (HC0.out.add hqb)
        clear a1 a2 a3 a4 a5 a7 b3 b5 e5 f5 z1 z2 hqb HH HC0
        generalize w.drewN nq = V at *
        have HH := Lib.hid HHQ.out
        have HC0 := Lib.hid HCQ.out
        clear HHQ HCQ
        obtain ⟨z1, z2⟩ := HH.out.fz
        obtain ⟨a1, a2, a3, a4, a5, -, a7⟩ := HH.out.proc hp'
        obtain ⟨-, -, b3, -, b5⟩ := HH.out.cell hd'
        obtain ⟨-, -, -, -, e5⟩ := HH.out.cell hs'
        obtain ⟨-, -, -, -, f5⟩ := HH.out.cell hc'
        rw [HXD.out] at a4
        rw [HXS.out] at a5
        rw [HXC.out] at a2
        go_wp2_with fail
        clear a1 a2 a3 a4 a5 a7 b3 b5 e5 f5 z1 z2
        go_end0
        refine ⟨rfl, ?_, ((HC0.out).set2 _ _).set2 _ _⟩
        rw [hF.out]
        exact ((HH.out.init hp').up hp' 6 (by decide) (.bool false) { l.pr p with res := false } rfl).up hp' 2 (by decide) (.int .i64 18) { l.pr p with res := false, phase := 18 } rfl
      | false =>
        rw [hg] at hF
        replace hF := Lib.hid (show F = l.setP p { l.pr p with res := true, phase := 18 } by rw [hF]; simp)
        go_enter Tryz.func101, Tryz.ntmps101
        obtain ⟨z1, z2⟩ := HH.out.fz
        obtain ⟨a1, a2, a3, a4, a5, -, a7⟩ := HH.out.proc hp'
        obtain ⟨-, -, b3, -, b5⟩ := HH.out.cell hd'
        obtain ⟨-, -, -, -, e5⟩ := HH.out.cell hs'
        obtain ⟨-, -, -, -, f5⟩ := HH.out.cell hc'
        rw [HXD.out] at a4
        rw [HXS.out] at a5
        rw [HXC.out] at a2
        go_upto_region 0 with fail
        go_quiet (fail)
        have hqb := below_drw (Below.refl w.heap.size w) nq
        have HHQ := Lib.hid (HH.out.below hqb)
        have HCQ := Lib.hid (HC0.out.add hqb)
        clear a1 a2 a3 a4 a5 a7 b3 b5 e5 f5 z1 z2 hqb HH HC0
        generalize w.drewN nq = V at *
        have HH := Lib.hid HHQ.out
        have HC0 := Lib.hid HCQ.out
        clear HHQ HCQ
        obtain ⟨z1, z2⟩ := HH.out.fz
        obtain ⟨a1, a2, a3, a4, a5, -, a7⟩ := HH.out.proc hp'
        obtain ⟨-, -, b3, -, b5⟩ := HH.out.cell hd'
        obtain ⟨-, -, -, -, e5⟩ := HH.out.cell hs'
        obtain ⟨-, -, -, -, f5⟩ := HH.out.cell hc'
        rw [HXD.out] at a4
        rw [HXS.out] at a5
        rw [HXC.out] at a2
        go_wp2_with fail
        clear a1 a2 a3 a4 a5 a7 b3 b5 e5 f5 z1 z2
        go_end0
        refine ⟨rfl, ?_, ((HC0.out).set2 _ _).set2 _ _⟩
        rw [hF.out]
        exact ((HH.out.init hp').up hp' 6 (by decide) (.bool true) { l.pr p with res := true } rfl).up hp' 2 (by decide) (.int .i64 18) { l.pr p with res := true, phase := 18 } rfl
    · have hsd : decide ((s : Int) = (c : Int)) = false := decide_eq_false (by omega)
      replace hF := Lib.hid (show F = l.setP p { l.pr p with res := false, phase := 18 } by rw [hF]; simp [hsc])
      go_enter Tryz.func101, Tryz.ntmps101
      obtain ⟨z1, z2⟩ := HH.out.fz
      obtain ⟨a1, a2, a3, a4, a5, -, a7⟩ := HH.out.proc hp'
      obtain ⟨-, -, b3, -, b5⟩ := HH.out.cell hd'
      obtain ⟨-, -, -, -, e5⟩ := HH.out.cell hs'
      obtain ⟨-, -, -, -, f5⟩ := HH.out.cell hc'
      rw [HXD.out] at a4
      rw [HXS.out] at a5
      rw [HXC.out] at a2
      go_upto_region 0 with fail
      go_quiet (fail)
      have hqb := below_drw (Below.refl w.heap.size w) nq
      have HHQ := Lib.hid (HH.out.below hqb)
      have HCQ := Lib.hid (HC0.out.add hqb)
      clear a1 a2 a3 a4 a5 a7 b3 b5 e5 f5 z1 z2 hqb HH HC0
      generalize w.drewN nq = V at *
      have HH := Lib.hid HHQ.out
      have HC0 := Lib.hid HCQ.out
      clear HHQ HCQ
      obtain ⟨z1, z2⟩ := HH.out.fz
      obtain ⟨a1, a2, a3, a4, a5, -, a7⟩ := HH.out.proc hp'
      obtain ⟨-, -, b3, -, b5⟩ := HH.out.cell hd'
      obtain ⟨-, -, -, -, e5⟩ := HH.out.cell hs'
      obtain ⟨-, -, -, -, f5⟩ := HH.out.cell hc'
      rw [HXD.out] at a4
      rw [HXS.out] at a5
      rw [HXC.out] at a2
      go_wp2_with fail
      clear a1 a2 a3 a4 a5 a7 b3 b5 e5 f5 z1 z2
      go_end0
      refine ⟨rfl, ?_, ((HC0.out).set2 _ _).set2 _ _⟩
      rw [hF.out]
      exact ((HH.out.init hp').up hp' 6 (by decide) (.bool false) { l.pr p with res := false } rfl).up hp' 2 (by decide) (.int .i64 18) { l.pr p with res := false, phase := 18 } rfl
  · rw [if_neg hk] at hF
    have hkd : decide ((l.pr p).kind = 3) = false := decide_eq_false hk
    cases hg : (l.at_ d).gone with
    | true =>
      rw [if_pos (.inl hg)] at hF
      replace hF := Lib.hid hF
      go_enter Tryz.func101, Tryz.ntmps101
      obtain ⟨z1, z2⟩ := HH.out.fz
      obtain ⟨a1, a2, a3, a4, a5, -, a7⟩ := HH.out.proc hp'
      obtain ⟨-, -, b3, -, b5⟩ := HH.out.cell hd'
      obtain ⟨-, -, -, -, e5⟩ := HH.out.cell hs'
      obtain ⟨-, -, -, -, f5⟩ := HH.out.cell hc'
      rw [HXD.out] at a4
      rw [HXS.out] at a5
      rw [HXC.out] at a2
      rw [hg] at b5
      go_upto_region 0 with fail
      go_quiet (fail)
      have hqb := below_drw (Below.refl w.heap.size w) nq
      have HHQ := Lib.hid (HH.out.below hqb)
      have HCQ := Lib.hid (HC0.out.add hqb)
      clear a1 a2 a3 a4 a5 a7 b3 b5 e5 f5 z1 z2 hqb HH HC0
      generalize w.drewN nq = V at *
      have HH := Lib.hid HHQ.out
      have HC0 := Lib.hid HCQ.out
      clear HHQ HCQ
      obtain ⟨z1, z2⟩ := HH.out.fz
      obtain ⟨a1, a2, a3, a4, a5, -, a7⟩ := HH.out.proc hp'
      obtain ⟨-, -, b3, -, b5⟩ := HH.out.cell hd'
      obtain ⟨-, -, -, -, e5⟩ := HH.out.cell hs'
      obtain ⟨-, -, -, -, f5⟩ := HH.out.cell hc'
      rw [HXD.out] at a4
      rw [HXS.out] at a5
      rw [HXC.out] at a2
      rw [hg] at b5
      go_upto_region 4 with fail
      go_quiet (fail)
      have hqb := below_drw (Below.refl V.heap.size V) nq
      have HHQ := Lib.hid (HH.out.below hqb)
      have HCQ := Lib.hid (HC0.out.add hqb)
      clear a1 a2 a3 a4 a5 a7 b3 b5 e5 f5 z1 z2 hqb HH HC0
      generalize V.drewN nq = U at *
      have HH := Lib.hid HHQ.out
      have HC0 := Lib.hid HCQ.out
      clear HHQ HCQ
      obtain ⟨z1, z2⟩ := HH.out.fz
      obtain ⟨a1, a2, a3, a4, a5, -, a7⟩ := HH.out.proc hp'
      obtain ⟨-, -, b3, -, b5⟩ := HH.out.cell hd'
      obtain ⟨-, -, -, -, e5⟩ := HH.out.cell hs'
      obtain ⟨-, -, -, -, f5⟩ := HH.out.cell hc'
      rw [HXD.out] at a4
      rw [HXS.out] at a5
      rw [HXC.out] at a2
      rw [hg] at b5
      go_wp2_with fail
      clear a1 a2 a3 a4 a5 a7 b3 b5 e5 f5 z1 z2
      go_end0
      refine ⟨rfl, ?_, (HC0.out).set2 _ _⟩
      rw [hF.out]
      exact (HH.out.init hp').up hp' 2 (by decide) (.int .i64 5) { l.pr p with phase := 5 } rfl
    | false =>
      cases hg2 : (l.at_ s).gone with
      | true =>
        rw [if_pos (.inr (.inl hg2))] at hF
        replace hF := Lib.hid hF
        go_enter Tryz.func101, Tryz.ntmps101
        obtain ⟨z1, z2⟩ := HH.out.fz
        obtain ⟨a1, a2, a3, a4, a5, -, a7⟩ := HH.out.proc hp'
        obtain ⟨-, -, b3, -, b5⟩ := HH.out.cell hd'
        obtain ⟨-, -, -, -, e5⟩ := HH.out.cell hs'
        obtain ⟨-, -, -, -, f5⟩ := HH.out.cell hc'
        rw [HXD.out] at a4
        rw [HXS.out] at a5
        rw [HXC.out] at a2
        rw [hg] at b5
        rw [hg2] at e5
        go_upto_region 0 with fail
        go_quiet (fail)
        have hqb := below_drw (Below.refl w.heap.size w) nq
        have HHQ := Lib.hid (HH.out.below hqb)
        have HCQ := Lib.hid (HC0.out.add hqb)
        clear a1 a2 a3 a4 a5 a7 b3 b5 e5 f5 z1 z2 hqb HH HC0
        generalize w.drewN nq = V at *
        have HH := Lib.hid HHQ.out
        have HC0 := Lib.hid HCQ.out
        clear HHQ HCQ
        obtain ⟨z1, z2⟩ := HH.out.fz
        obtain ⟨a1, a2, a3, a4, a5, -, a7⟩ := HH.out.proc hp'
        obtain ⟨-, -, b3, -, b5⟩ := HH.out.cell hd'
        obtain ⟨-, -, -, -, e5⟩ := HH.out.cell hs'
        obtain ⟨-, -, -, -, f5⟩ := HH.out.cell hc'
        rw [HXD.out] at a4
        rw [HXS.out] at a5
        rw [HXC.out] at a2
        rw [hg] at b5
        rw [hg2] at e5
        go_upto_region 4 with fail
        go_quiet (fail)
        have hqb := below_drw (Below.refl V.heap.size V) nq
        have HHQ := Lib.hid (HH.out.below hqb)
        have HCQ := Lib.hid (HC0.out.add hqb)
        clear a1 a2 a3 a4 a5 a7 b3 b5 e5 f5 z1 z2 hqb HH HC0
        generalize V.drewN nq = U at *
        have HH := Lib.hid HHQ.out
        have HC0 := Lib.hid HCQ.out
        clear HHQ HCQ
        obtain ⟨z1, z2⟩ := HH.out.fz
        obtain ⟨a1, a2, a3, a4, a5, -, a7⟩ := HH.out.proc hp'
        obtain ⟨-, -, b3, -, b5⟩ := HH.out.cell hd'
        obtain ⟨-, -, -, -, e5⟩ := HH.out.cell hs'
        obtain ⟨-, -, -, -, f5⟩ := HH.out.cell hc'
        rw [HXD.out] at a4
        rw [HXS.out] at a5
        rw [HXC.out] at a2
        rw [hg] at b5
        rw [hg2] at e5
        go_wp2_with fail
        clear a1 a2 a3 a4 a5 a7 b3 b5 e5 f5 z1 z2
        go_end0
        refine ⟨rfl, ?_, (HC0.out).set2 _ _⟩
        rw [hF.out]
        exact (HH.out.init hp').up hp' 2 (by decide) (.int .i64 5) { l.pr p with phase := 5 } rfl
      | false =>
        by_cases hr : (l.at_ d).right = (s : Int)
        · rw [if_neg (by rw [hg, hg2, hr]; simp)] at hF
          by_cases hsc : s = c
          · subst hsc
            by_cases h2 : (l.pr p).kind = 2
            · have h2d : decide ((l.pr p).kind = 2) = true := decide_eq_true h2
              rw [if_neg (fun q => q.2 rfl), if_pos ⟨h2, rfl⟩] at hF
              replace hF := Lib.hid hF
              go_enter Tryz.func101, Tryz.ntmps101
              obtain ⟨z1, z2⟩ := HH.out.fz
              obtain ⟨a1, a2, a3, a4, a5, -, a7⟩ := HH.out.proc hp'
              obtain ⟨-, -, b3, -, b5⟩ := HH.out.cell hd'
              obtain ⟨-, -, -, -, e5⟩ := HH.out.cell hs'
              obtain ⟨-, -, -, -, f5⟩ := HH.out.cell hc'
              rw [HXD.out] at a4
              rw [HXS.out] at a5
              rw [HXC.out] at a2
              rw [hg] at b5
              rw [hg2] at e5
              rw [hr] at b3
              go_upto_region 0 with fail
              go_quiet (fail)
              have hqb := below_drw (Below.refl w.heap.size w) nq
              have HHQ := Lib.hid (HH.out.below hqb)
              have HCQ := Lib.hid (HC0.out.add hqb)
              clear a1 a2 a3 a4 a5 a7 b3 b5 e5 f5 z1 z2 hqb HH HC0
              generalize w.drewN nq = V at *
              have HH := Lib.hid HHQ.out
              have HC0 := Lib.hid HCQ.out
              clear HHQ HCQ
              obtain ⟨z1, z2⟩ := HH.out.fz
              obtain ⟨a1, a2, a3, a4, a5, -, a7⟩ := HH.out.proc hp'
              obtain ⟨-, -, b3, -, b5⟩ := HH.out.cell hd'
              obtain ⟨-, -, -, -, e5⟩ := HH.out.cell hs'
              obtain ⟨-, -, -, -, f5⟩ := HH.out.cell hc'
              rw [HXD.out] at a4
              rw [HXS.out] at a5
              rw [HXC.out] at a2
              rw [hg] at b5
              rw [hg2] at e5
              rw [hr] at b3
              go_upto_region 4 with fail
              go_quiet (fail)
              have hqb := below_drw (Below.refl V.heap.size V) nq
              have HHQ := Lib.hid (HH.out.below hqb)
              have HCQ := Lib.hid (HC0.out.add hqb)
              clear a1 a2 a3 a4 a5 a7 b3 b5 e5 f5 z1 z2 hqb HH HC0
              generalize V.drewN nq = U at *
              have HH := Lib.hid HHQ.out
              have HC0 := Lib.hid HCQ.out
              clear HHQ HCQ
              obtain ⟨z1, z2⟩ := HH.out.fz
              obtain ⟨a1, a2, a3, a4, a5, -, a7⟩ := HH.out.proc hp'
              obtain ⟨-, -, b3, -, b5⟩ := HH.out.cell hd'
              obtain ⟨-, -, -, -, e5⟩ := HH.out.cell hs'
              obtain ⟨-, -, -, -, f5⟩ := HH.out.cell hc'
              rw [HXD.out] at a4
              rw [HXS.out] at a5
              rw [HXC.out] at a2
              rw [hg] at b5
              rw [hg2] at e5
              rw [hr] at b3
              go_wp2_with fail
              clear a1 a2 a3 a4 a5 a7 b3 b5 e5 f5 z1 z2
              go_end0
              refine ⟨rfl, ?_, (HC0.out).set2 _ _⟩
              rw [hF.out]
              exact (HH.out.init hp').up hp' 2 (by decide) (.int .i64 9) { l.pr p with phase := 9 } rfl
            · have h2d : decide ((l.pr p).kind = 2) = false := decide_eq_false h2
              rw [if_neg (fun q => q.2 rfl), if_neg (fun q => h2 q.1)] at hF
              replace hF := Lib.hid hF
              go_enter Tryz.func101, Tryz.ntmps101
              obtain ⟨z1, z2⟩ := HH.out.fz
              obtain ⟨a1, a2, a3, a4, a5, -, a7⟩ := HH.out.proc hp'
              obtain ⟨-, -, b3, -, b5⟩ := HH.out.cell hd'
              obtain ⟨-, -, -, -, e5⟩ := HH.out.cell hs'
              obtain ⟨-, -, -, -, f5⟩ := HH.out.cell hc'
              rw [HXD.out] at a4
              rw [HXS.out] at a5
              rw [HXC.out] at a2
              rw [hg] at b5
              rw [hg2] at e5
              rw [hr] at b3
              go_upto_region 0 with fail
              go_quiet (fail)
              have hqb := below_drw (Below.refl w.heap.size w) nq
              have HHQ := Lib.hid (HH.out.below hqb)
              have HCQ := Lib.hid (HC0.out.add hqb)
              clear a1 a2 a3 a4 a5 a7 b3 b5 e5 f5 z1 z2 hqb HH HC0
              generalize w.drewN nq = V at *
              have HH := Lib.hid HHQ.out
              have HC0 := Lib.hid HCQ.out
              clear HHQ HCQ
              obtain ⟨z1, z2⟩ := HH.out.fz
              obtain ⟨a1, a2, a3, a4, a5, -, a7⟩ := HH.out.proc hp'
              obtain ⟨-, -, b3, -, b5⟩ := HH.out.cell hd'
              obtain ⟨-, -, -, -, e5⟩ := HH.out.cell hs'
              obtain ⟨-, -, -, -, f5⟩ := HH.out.cell hc'
              rw [HXD.out] at a4
              rw [HXS.out] at a5
              rw [HXC.out] at a2
              rw [hg] at b5
              rw [hg2] at e5
              rw [hr] at b3
              go_upto_region 4 with fail
              go_quiet (fail)
              have hqb := below_drw (Below.refl V.heap.size V) nq
              have HHQ := Lib.hid (HH.out.below hqb)
              have HCQ := Lib.hid (HC0.out.add hqb)
              clear a1 a2 a3 a4 a5 a7 b3 b5 e5 f5 z1 z2 hqb HH HC0
              generalize V.drewN nq = U at *
              have HH := Lib.hid HHQ.out
              have HC0 := Lib.hid HCQ.out
              clear HHQ HCQ
              obtain ⟨z1, z2⟩ := HH.out.fz
              obtain ⟨a1, a2, a3, a4, a5, -, a7⟩ := HH.out.proc hp'
              obtain ⟨-, -, b3, -, b5⟩ := HH.out.cell hd'
              obtain ⟨-, -, -, -, e5⟩ := HH.out.cell hs'
              obtain ⟨-, -, -, -, f5⟩ := HH.out.cell hc'
              rw [HXD.out] at a4
              rw [HXS.out] at a5
              rw [HXC.out] at a2
              rw [hg] at b5
              rw [hg2] at e5
              rw [hr] at b3
              go_wp2_with fail
              clear a1 a2 a3 a4 a5 a7 b3 b5 e5 f5 z1 z2
              go_end0
              refine ⟨rfl, ?_, (HC0.out).set2 _ _⟩
              rw [hF.out]
              exact (HH.out.init hp').up hp' 2 (by decide) (.int .i64 13) { l.pr p with phase := 13 } rfl
          · have hsd : decide ((s : Int) = (c : Int)) = false := decide_eq_false (by omega)
            have hsn : (!((s : Int) == (c : Int))) = true := by simp; omega
            by_cases h1 : (l.pr p).kind = 1
            · have h1d : decide ((l.pr p).kind = 1) = true := decide_eq_true h1
              rw [if_pos ⟨h1, hsc⟩] at hF
              replace hF := Lib.hid hF
              go_enter Tryz.func101, Tryz.ntmps101
              obtain ⟨z1, z2⟩ := HH.out.fz
              obtain ⟨a1, a2, a3, a4, a5, -, a7⟩ := HH.out.proc hp'
              obtain ⟨-, -, b3, -, b5⟩ := HH.out.cell hd'
              obtain ⟨-, -, -, -, e5⟩ := HH.out.cell hs'
              obtain ⟨-, -, -, -, f5⟩ := HH.out.cell hc'
              rw [HXD.out] at a4
              rw [HXS.out] at a5
              rw [HXC.out] at a2
              rw [hg] at b5
              rw [hg2] at e5
              rw [hr] at b3
              go_upto_region 0 with fail
              go_quiet (fail)
              have hqb := below_drw (Below.refl w.heap.size w) nq
              have HHQ := Lib.hid (HH.out.below hqb)
              have HCQ := Lib.hid (HC0.out.add hqb)
              clear a1 a2 a3 a4 a5 a7 b3 b5 e5 f5 z1 z2 hqb HH HC0
              generalize w.drewN nq = V at *
              have HH := Lib.hid HHQ.out
              have HC0 := Lib.hid HCQ.out
              clear HHQ HCQ
              obtain ⟨z1, z2⟩ := HH.out.fz
              obtain ⟨a1, a2, a3, a4, a5, -, a7⟩ := HH.out.proc hp'
              obtain ⟨-, -, b3, -, b5⟩ := HH.out.cell hd'
              obtain ⟨-, -, -, -, e5⟩ := HH.out.cell hs'
              obtain ⟨-, -, -, -, f5⟩ := HH.out.cell hc'
              rw [HXD.out] at a4
              rw [HXS.out] at a5
              rw [HXC.out] at a2
              rw [hg] at b5
              rw [hg2] at e5
              rw [hr] at b3
              go_upto_region 4 with fail
              go_quiet (fail)
              have hqb := below_drw (Below.refl V.heap.size V) nq
              have HHQ := Lib.hid (HH.out.below hqb)
              have HCQ := Lib.hid (HC0.out.add hqb)
              clear a1 a2 a3 a4 a5 a7 b3 b5 e5 f5 z1 z2 hqb HH HC0
              generalize V.drewN nq = U at *
              have HH := Lib.hid HHQ.out
              have HC0 := Lib.hid HCQ.out
              clear HHQ HCQ
              obtain ⟨z1, z2⟩ := HH.out.fz
              obtain ⟨a1, a2, a3, a4, a5, -, a7⟩ := HH.out.proc hp'
              obtain ⟨-, -, b3, -, b5⟩ := HH.out.cell hd'
              obtain ⟨-, -, -, -, e5⟩ := HH.out.cell hs'
              obtain ⟨-, -, -, -, f5⟩ := HH.out.cell hc'
              rw [HXD.out] at a4
              rw [HXS.out] at a5
              rw [HXC.out] at a2
              rw [hg] at b5
              rw [hg2] at e5
              rw [hr] at b3
              go_wp2_with fail
              clear a1 a2 a3 a4 a5 a7 b3 b5 e5 f5 z1 z2
              go_end0
              refine ⟨rfl, ?_, (HC0.out).set2 _ _⟩
              rw [hF.out]
              exact (HH.out.init hp').up hp' 2 (by decide) (.int .i64 6) { l.pr p with phase := 6 } rfl
            · have h1d : decide ((l.pr p).kind = 1) = false := decide_eq_false h1
              rw [if_neg (fun q => h1 q.1), if_neg (fun q => hsc q.2)] at hF
              replace hF := Lib.hid hF
              go_enter Tryz.func101, Tryz.ntmps101
              obtain ⟨z1, z2⟩ := HH.out.fz
              obtain ⟨a1, a2, a3, a4, a5, -, a7⟩ := HH.out.proc hp'
              obtain ⟨-, -, b3, -, b5⟩ := HH.out.cell hd'
              obtain ⟨-, -, -, -, e5⟩ := HH.out.cell hs'
              obtain ⟨-, -, -, -, f5⟩ := HH.out.cell hc'
              rw [HXD.out] at a4
              rw [HXS.out] at a5
              rw [HXC.out] at a2
              rw [hg] at b5
              rw [hg2] at e5
              rw [hr] at b3
              go_upto_region 0 with fail
              go_quiet (fail)
              have hqb := below_drw (Below.refl w.heap.size w) nq
              have HHQ := Lib.hid (HH.out.below hqb)
              have HCQ := Lib.hid (HC0.out.add hqb)
              clear a1 a2 a3 a4 a5 a7 b3 b5 e5 f5 z1 z2 hqb HH HC0
              generalize w.drewN nq = V at *
              have HH := Lib.hid HHQ.out
              have HC0 := Lib.hid HCQ.out
              clear HHQ HCQ
              obtain ⟨z1, z2⟩ := HH.out.fz
              obtain ⟨a1, a2, a3, a4, a5, -, a7⟩ := HH.out.proc hp'
              obtain ⟨-, -, b3, -, b5⟩ := HH.out.cell hd'
              obtain ⟨-, -, -, -, e5⟩ := HH.out.cell hs'
              obtain ⟨-, -, -, -, f5⟩ := HH.out.cell hc'
              rw [HXD.out] at a4
              rw [HXS.out] at a5
              rw [HXC.out] at a2
              rw [hg] at b5
              rw [hg2] at e5
              rw [hr] at b3
              go_upto_region 4 with fail
              go_quiet (fail)
              have hqb := below_drw (Below.refl V.heap.size V) nq
              have HHQ := Lib.hid (HH.out.below hqb)
              have HCQ := Lib.hid (HC0.out.add hqb)
              clear a1 a2 a3 a4 a5 a7 b3 b5 e5 f5 z1 z2 hqb HH HC0
              generalize V.drewN nq = U at *
              have HH := Lib.hid HHQ.out
              have HC0 := Lib.hid HCQ.out
              clear HHQ HCQ
              obtain ⟨z1, z2⟩ := HH.out.fz
              obtain ⟨a1, a2, a3, a4, a5, -, a7⟩ := HH.out.proc hp'
              obtain ⟨-, -, b3, -, b5⟩ := HH.out.cell hd'
              obtain ⟨-, -, -, -, e5⟩ := HH.out.cell hs'
              obtain ⟨-, -, -, -, f5⟩ := HH.out.cell hc'
              rw [HXD.out] at a4
              rw [HXS.out] at a5
              rw [HXC.out] at a2
              rw [hg] at b5
              rw [hg2] at e5
              rw [hr] at b3
              go_wp2_with fail
              clear a1 a2 a3 a4 a5 a7 b3 b5 e5 f5 z1 z2
              go_end0
              refine ⟨rfl, ?_, (HC0.out).set2 _ _⟩
              rw [hF.out]
              exact (HH.out.init hp').up hp' 2 (by decide) (.int .i64 13) { l.pr p with phase := 13 } rfl
        · have hrd : ((l.at_ d).right != (s : Int)) = true := by simpa using hr
          rw [if_pos (.inr (.inr hr))] at hF
          replace hF := Lib.hid hF
          go_enter Tryz.func101, Tryz.ntmps101
          obtain ⟨z1, z2⟩ := HH.out.fz
          obtain ⟨a1, a2, a3, a4, a5, -, a7⟩ := HH.out.proc hp'
          obtain ⟨-, -, b3, -, b5⟩ := HH.out.cell hd'
          obtain ⟨-, -, -, -, e5⟩ := HH.out.cell hs'
          obtain ⟨-, -, -, -, f5⟩ := HH.out.cell hc'
          rw [HXD.out] at a4
          rw [HXS.out] at a5
          rw [HXC.out] at a2
          rw [hg] at b5
          rw [hg2] at e5
          go_upto_region 0 with fail
          go_quiet (fail)
          have hqb := below_drw (Below.refl w.heap.size w) nq
          have HHQ := Lib.hid (HH.out.below hqb)
          have HCQ := Lib.hid (HC0.out.add hqb)
          clear a1 a2 a3 a4 a5 a7 b3 b5 e5 f5 z1 z2 hqb HH HC0
          generalize w.drewN nq = V at *
          have HH := Lib.hid HHQ.out
          have HC0 := Lib.hid HCQ.out
          clear HHQ HCQ
          obtain ⟨z1, z2⟩ := HH.out.fz
          obtain ⟨a1, a2, a3, a4, a5, -, a7⟩ := HH.out.proc hp'
          obtain ⟨-, -, b3, -, b5⟩ := HH.out.cell hd'
          obtain ⟨-, -, -, -, e5⟩ := HH.out.cell hs'
          obtain ⟨-, -, -, -, f5⟩ := HH.out.cell hc'
          rw [HXD.out] at a4
          rw [HXS.out] at a5
          rw [HXC.out] at a2
          rw [hg] at b5
          rw [hg2] at e5
          go_upto_region 4 with fail
          go_quiet (fail)
          have hqb := below_drw (Below.refl V.heap.size V) nq
          have HHQ := Lib.hid (HH.out.below hqb)
          have HCQ := Lib.hid (HC0.out.add hqb)
          clear a1 a2 a3 a4 a5 a7 b3 b5 e5 f5 z1 z2 hqb HH HC0
          generalize V.drewN nq = U at *
          have HH := Lib.hid HHQ.out
          have HC0 := Lib.hid HCQ.out
          clear HHQ HCQ
          obtain ⟨z1, z2⟩ := HH.out.fz
          obtain ⟨a1, a2, a3, a4, a5, -, a7⟩ := HH.out.proc hp'
          obtain ⟨-, -, b3, -, b5⟩ := HH.out.cell hd'
          obtain ⟨-, -, -, -, e5⟩ := HH.out.cell hs'
          obtain ⟨-, -, -, -, f5⟩ := HH.out.cell hc'
          rw [HXD.out] at a4
          rw [HXS.out] at a5
          rw [HXC.out] at a2
          rw [hg] at b5
          rw [hg2] at e5
          go_wp2_with fail
          clear a1 a2 a3 a4 a5 a7 b3 b5 e5 f5 z1 z2
          go_end0
          refine ⟨rfl, ?_, (HC0.out).set2 _ _⟩
          rw [hF.out]
          exact (HH.out.init hp').up hp' 2 (by decide) (.int .i64 5) { l.pr p with phase := 5 } rfl
end Lk
end
section
open Go.RowKit Go.Maps
namespace Lk
section
variable {l : Ls} {p d s c x r : Nat}
theorem step_1 (h : (l.pr p).phase = 1) (hs : (l.pr p).succ = (s : Int)) (hc : (l.pr p).cell = (c : Int)) : stepV l p = some (fndV l p s c) := by
  unfold stepV fndV
  simp only [h, if_true, hs, hc, Int.toNat_natCast]
  split <;> rfl
theorem step_2 (h : (l.pr p).phase = 2) (hd : (l.pr p).pred = (d : Int)) : stepV l p = lokV l p d 3 := by
  unfold stepV lokV
  simp [h, hd]
theorem step_3 (h : (l.pr p).phase = 3) (hs : (l.pr p).succ = (s : Int)) : stepV l p = lokV l p s 4 := by
  unfold stepV lokV
  dsimp only
  rw [if_neg (by rw [h]; decide), if_neg (by rw [h]; decide), if_pos h, hs]
  rfl
theorem step_4 (h : (l.pr p).phase = 4) (hd : (l.pr p).pred = (d : Int)) (hs : (l.pr p).succ = (s : Int)) (hc : (l.pr p).cell = (c : Int)) : stepV l p = some (dcdV l p d s c) := by
  have e : ((s : Int) = (c : Int)) ↔ s = c := by omega
  unfold stepV dcdV
  dsimp only
  rw [if_neg (by rw [h]; decide), if_neg (by rw [h]; decide), if_neg (by rw [h]; decide), if_pos h, hs, hc, hd]
  simp only [Int.toNat_natCast, e, ne_eq]
  split
  · rfl
  · split
    · rfl
    · split
      · rfl
      · split <;> rfl
theorem step_5 (h : (l.pr p).phase = 5) : stepV l p = some ((l.free p).setP p { l.pr p with pred := 0, succ := (l.at_ 0).right, phase := 1 }) := by
  unfold stepV
  simp [h]
theorem step_6 (h : (l.pr p).phase = 6) (hd : (l.pr p).pred = (d : Int)) (hs : (l.pr p).succ = (s : Int)) (hc : (l.pr p).cell = (c : Int)) : stepV l p = some ((l.setC c { l.at_ c with left := (d : Int), right := (s : Int) }).setP p { l.pr p with phase := 7 }) := by
  unfold stepV
  simp [h, hd, hs, hc]
theorem step_7 (h : (l.pr p).phase = 7) (hd : (l.pr p).pred = (d : Int)) (hc : (l.pr p).cell = (c : Int)) : stepV l p = some (((l.setC d { l.at_ d with right := (c : Int) }).setC c { (l.setC d { l.at_ d with right := (c : Int) }).at_ c with gone := false }).setP p { l.pr p with phase := 8 }) := by
  unfold stepV
  simp [h, hd, hc]
theorem step_8 (h : (l.pr p).phase = 8) (hs : (l.pr p).succ = (s : Int)) (hc : (l.pr p).cell = (c : Int)) : stepV l p = some ((l.setC s { l.at_ s with left := (c : Int) }).setP p { l.pr p with res := true, phase := 13 }) := by
  unfold stepV
  simp [h, hs, hc]
theorem step_9 (h : (l.pr p).phase = 9) (hc : (l.pr p).cell = (c : Int)) (hr : (l.at_ c).right = (r : Int)) : stepV l p = lknV l p r := by
  unfold stepV lknV
  simp [h, hc, hr]
theorem step_10 (h : (l.pr p).phase = 10) (hc : (l.pr p).cell = (c : Int)) : stepV l p = some ((l.setC c { l.at_ c with gone := true }).setP p { l.pr p with phase := 11 }) := by
  unfold stepV
  simp [h, hc]
theorem step_11 (h : (l.pr p).phase = 11) (hd : (l.pr p).pred = (d : Int)) (hx : (l.pr p).next = (x : Int)) : stepV l p = some ((l.setC d { l.at_ d with right := (x : Int) }).setP p { l.pr p with phase := 12 }) := by
  unfold stepV
  simp [h, hd, hx]
theorem step_12 (h : (l.pr p).phase = 12) (hd : (l.pr p).pred = (d : Int)) (hx : (l.pr p).next = (x : Int)) : stepV l p = some ((l.setC x { l.at_ x with left := (d : Int) }).setP p { l.pr p with res := true, phase := 13 }) := by
  unfold stepV
  simp [h, hd, hx]
theorem step_13 (h : (l.pr p).phase = 13) : stepV l p = some ((l.free p).setP p { l.pr p with phase := 18 }) := by
  unfold stepV
  simp [h]
theorem step_0 (h : (l.pr p).phase = 0 ∨ (l.pr p).phase = 18) : stepV l p = none := by
  unfold stepV
  rcases h with h | h <;> simp [h]
end
end Lk
end
section
open Go.RowKit Go.Maps
namespace Lk
theorem free_at0 (l : Ls) (p : Nat) : ((l.free p).at_ 0).right = (l.at_ 0).right := by
  rw [Ls.at_free]
  split <;> rfl
set_option maxRecDepth 100000 in
set_option maxHeartbeats 1600000 in
theorem act_1 (l : Ls) (n m p d s c x base G1 G2 c1 c2 : Nat) (w : World) (hn : l.cs.length = n) (hm : l.ps.length = m) (h : MemL w base G1 G2 c1 c2 l) (hp : p < m) (hd : d < n) (hs : s < n) (hc : c < n) (hx : x < n) (_m8 : m ≤ 8) (_n66 : n ≤ 66) (hxd : (l.pr p).pred = (d : Int)) (hxs : (l.pr p).succ = (s : Int)) (hxc : (l.pr p).cell = (c : Int)) (hxx : (l.pr p).next = (x : Int)) (hph : (l.pr p).phase = 1) :
    Calls Tryz.prog 57 #[.agg #[.slice (some ⟨G1, 0, none⟩) n c1, .slice (some ⟨G2, 0, none⟩) m c2], .int .i64 (p : Int)] w (OptP (stepV l p) l base G1 G2 c1 c2 w) := by
  have HE := Lib.hid (step_1 hph hxs hxc)
  have HK : Hid (Chg G1 G2 w _) := Lib.hid (Chg.of ((Below.refl w.heap.size w).alloc (Nat.le_refl _) (.cells #[.slice (some ⟨G1, 0, none⟩) n c1, .slice (some ⟨G2, 0, none⟩) m c2] 28)))
  have HH := Lib.hid (h.below ((Below.refl _ _).alloc (Nat.le_refl _) (.cells #[.slice (some ⟨G1, 0, none⟩) n c1, .slice (some ⟨G2, 0, none⟩) m c2] 28)))
  have HX := Lib.hid (Has.new w 28 #[.slice (some ⟨G1, 0, none⟩) n c1, .slice (some ⟨G2, 0, none⟩) m c2])
  have hbn : G1 < w.heap.size ∧ G2 < w.heap.size := ⟨h.cs.lt, h.ps.lt⟩
  have hne : ¬ G1 = G2 := h.ne
  have hne' : ¬ G2 = G1 := fun e => h.ne e.symm
  have HN := Lib.hid hn
  have HM := Lib.hid hm
  have hp' : p < l.ps.length := by rw [hm]; exact hp
  have hd' : d < l.cs.length := by rw [hn]; exact hd
  have hs' : s < l.cs.length := by rw [hn]; exact hs
  have hc' : c < l.cs.length := by rw [hn]; exact hc
  have hx' : x < l.cs.length := by rw [hn]; exact hx
  have p0 : (0 : Int) ≤ (p : Int) := by omega
  have p1 : (p : Int) < (m : Int) := by omega
  have r0 : (0 : Int) ≤ (d : Int) := by omega
  have r1 : (d : Int) < (n : Int) := by omega
  have q0 : (0 : Int) ≤ (s : Int) := by omega
  have q1 : (s : Int) < (n : Int) := by omega
  have t0 : (0 : Int) ≤ (c : Int) := by omega
  have t1 : (c : Int) < (n : Int) := by omega
  have u0 : (0 : Int) ≤ (x : Int) := by omega
  have u1 : (x : Int) < (n : Int) := by omega
  have HXD := Lib.hid hxd
  have HXS := Lib.hid hxs
  have HXC := Lib.hid hxc
  have HXX := Lib.hid hxx
  have HPH := Lib.hid hph
  obtain ⟨O, hO⟩ : ∃ O, O = stepV l p := ⟨_, rfl⟩
  rw [← hO] at HE ⊢
  clear h hn hm hxd hxs hxc hxx hph hO
  go_enter Tryz.func57, Tryz.ntmps57
  go_upto_region 1 with fail
  generalize w.alloc (.cells #[.slice (some ⟨G1, 0, none⟩) n c1, .slice (some ⟨G2, 0, none⟩) m c2] 28) = W at *
  obtain ⟨B, hB⟩ : ∃ B, B = w.heap.size := ⟨_, rfl⟩
  rw [← hB] at HX hbn ⊢
  clear hB
  have x0 := HX.out.cell 0
  have x1 := HX.out.cell 1
  go_quiet (fail)
  have hqb := below_drw (Below.refl W.heap.size W) nq
  have HHQ := Lib.hid (HH.out.below hqb)
  have HKQ := Lib.hid (HK.out.add hqb)
  have HXQ := Lib.hid (HX.out.below hqb)
  clear x0 x1 hqb HH HK HX
  generalize W.drewN nq = V at *
  have x0 := HXQ.out.cell 0
  have x1 := HXQ.out.cell 1
  obtain ⟨z1, z2⟩ := HHQ.out.fz
  obtain ⟨a1, a2, a3, a4, a5, a6, a7⟩ := HHQ.out.proc hp'
  rw [HPH.out] at a3
  rw [HXD.out] at a4
  rw [HXS.out] at a5
  rw [HXX.out] at a6
  rw [HXC.out] at a2
  obtain ⟨-, b2, b3, -, b5⟩ := HHQ.out.cell hd'
  obtain ⟨-, e2, e3, -, e5⟩ := HHQ.out.cell hs'
  obtain ⟨-, f2, f3, -, f5⟩ := HHQ.out.cell hc'
  obtain ⟨-, g2, g3, -, g5⟩ := HHQ.out.cell hx'
  have HL := Lib.hid (find_any l n m p s c base G1 G2 c1 c2 V HN.out HM.out HHQ.out hp hs hc HXS.out HXC.out)
  go_wp2_with fail
  refine (HL.out).mono ?_
  rintro e w2 ⟨rfl, hm2, hb2⟩
  clear x0 x1 z1 z2 a1 a2 a3 a4 a5 a6 a7 b2 b3 b5 e2 e3 e5 f2 f3 f5 g2 g3 g5
  have HM2 := Lib.hid hm2
  have HB2 := Lib.hid hb2
  clear hm2 hb2
  go_wp2_with fail
  go_ret
  exact ⟨by rw [HE.out]; rfl, by rw [HE.out]; exact HM2.out, HKQ.out.trans HB2.out⟩
set_option maxRecDepth 100000 in
set_option maxHeartbeats 1600000 in
theorem act_2 (l : Ls) (n m p d s c x base G1 G2 c1 c2 : Nat) (w : World) (hn : l.cs.length = n) (hm : l.ps.length = m) (h : MemL w base G1 G2 c1 c2 l) (hp : p < m) (hd : d < n) (hs : s < n) (hc : c < n) (hx : x < n) (m8 : m ≤ 8) (_n66 : n ≤ 66) (hxd : (l.pr p).pred = (d : Int)) (hxs : (l.pr p).succ = (s : Int)) (hxc : (l.pr p).cell = (c : Int)) (hxx : (l.pr p).next = (x : Int)) (hph : (l.pr p).phase = 2) :
    Calls Tryz.prog 57 #[.agg #[.slice (some ⟨G1, 0, none⟩) n c1, .slice (some ⟨G2, 0, none⟩) m c2], .int .i64 (p : Int)] w (OptP (stepV l p) l base G1 G2 c1 c2 w) := by
  have HE := Lib.hid (step_2 hph hxd)
  have HK : Hid (Chg G1 G2 w _) := Lib.hid (Chg.of ((Below.refl w.heap.size w).alloc (Nat.le_refl _) (.cells #[.slice (some ⟨G1, 0, none⟩) n c1, .slice (some ⟨G2, 0, none⟩) m c2] 28)))
  have HH := Lib.hid (h.below ((Below.refl _ _).alloc (Nat.le_refl _) (.cells #[.slice (some ⟨G1, 0, none⟩) n c1, .slice (some ⟨G2, 0, none⟩) m c2] 28)))
  have HX := Lib.hid (Has.new w 28 #[.slice (some ⟨G1, 0, none⟩) n c1, .slice (some ⟨G2, 0, none⟩) m c2])
  have hbn : G1 < w.heap.size ∧ G2 < w.heap.size := ⟨h.cs.lt, h.ps.lt⟩
  have hne : ¬ G1 = G2 := h.ne
  have hne' : ¬ G2 = G1 := fun e => h.ne e.symm
  have HN := Lib.hid hn
  have HM := Lib.hid hm
  have hp' : p < l.ps.length := by rw [hm]; exact hp
  have hd' : d < l.cs.length := by rw [hn]; exact hd
  have hs' : s < l.cs.length := by rw [hn]; exact hs
  have hc' : c < l.cs.length := by rw [hn]; exact hc
  have hx' : x < l.cs.length := by rw [hn]; exact hx
  have p0 : (0 : Int) ≤ (p : Int) := by omega
  have p1 : (p : Int) < (m : Int) := by omega
  have r0 : (0 : Int) ≤ (d : Int) := by omega
  have r1 : (d : Int) < (n : Int) := by omega
  have q0 : (0 : Int) ≤ (s : Int) := by omega
  have q1 : (s : Int) < (n : Int) := by omega
  have t0 : (0 : Int) ≤ (c : Int) := by omega
  have t1 : (c : Int) < (n : Int) := by omega
  have u0 : (0 : Int) ≤ (x : Int) := by omega
  have u1 : (x : Int) < (n : Int) := by omega
  have HXD := Lib.hid hxd
  have HXS := Lib.hid hxs
  have HXC := Lib.hid hxc
  have HXX := Lib.hid hxx
  have HPH := Lib.hid hph
  obtain ⟨O, hO⟩ : ∃ O, O = stepV l p := ⟨_, rfl⟩
  rw [← hO] at HE ⊢
  clear h hn hm hxd hxs hxc hxx hph hO
  go_enter Tryz.func57, Tryz.ntmps57
  go_upto_region 1 with fail
  generalize w.alloc (.cells #[.slice (some ⟨G1, 0, none⟩) n c1, .slice (some ⟨G2, 0, none⟩) m c2] 28) = W at *
  obtain ⟨B, hB⟩ : ∃ B, B = w.heap.size := ⟨_, rfl⟩
  rw [← hB] at HX hbn ⊢
  clear hB
  have x0 := HX.out.cell 0
  have x1 := HX.out.cell 1
  go_quiet (fail)
  have hqb := below_drw (Below.refl W.heap.size W) nq
  have HHQ := Lib.hid (HH.out.below hqb)
  have HKQ := Lib.hid (HK.out.add hqb)
  have HXQ := Lib.hid (HX.out.below hqb)
  clear x0 x1 hqb HH HK HX
  generalize W.drewN nq = V at *
  have x0 := HXQ.out.cell 0
  have x1 := HXQ.out.cell 1
  obtain ⟨z1, z2⟩ := HHQ.out.fz
  obtain ⟨a1, a2, a3, a4, a5, a6, a7⟩ := HHQ.out.proc hp'
  rw [HPH.out] at a3
  rw [HXD.out] at a4
  rw [HXS.out] at a5
  rw [HXX.out] at a6
  rw [HXC.out] at a2
  obtain ⟨-, b2, b3, -, b5⟩ := HHQ.out.cell hd'
  obtain ⟨-, e2, e3, -, e5⟩ := HHQ.out.cell hs'
  obtain ⟨-, f2, f3, -, f5⟩ := HHQ.out.cell hc'
  obtain ⟨-, g2, g3, -, g5⟩ := HHQ.out.cell hx'
  go_upto_region 7 with fail
  refine wp_region_still_tail 6 (by kernel_rfl) (by kernel_rfl) ?_
  simp only [List.take_succ_cons, List.take_zero, List.drop_succ_cons, List.drop_zero]
  change wpStill _ _ V.drew (fun a' => wpList _ _ _ _ a' V.drew) _ _
  have HHR := Lib.hid HHQ.out.drew
  have HKR := Lib.hid HKQ.out.drew
  have HXR := Lib.hid (HXQ.out.below (Below.refl _ _).drew)
  clear x0 x1 z1 z2 a1 a2 a3 a4 a5 a6 a7 b2 b3 b5 e2 e3 e5 f2 f3 f5 g2 g3 g5
  generalize V.drew = V1 at *
  have x0 := HXR.out.cell 0
  have x1 := HXR.out.cell 1
  obtain ⟨z1, z2⟩ := HHR.out.fz
  obtain ⟨a1, a2, a3, a4, a5, a6, a7⟩ := HHR.out.proc hp'
  rw [HPH.out] at a3
  rw [HXD.out] at a4
  rw [HXS.out] at a5
  rw [HXX.out] at a6
  rw [HXC.out] at a2
  obtain ⟨-, b2, b3, -, b5⟩ := HHR.out.cell hd'
  obtain ⟨-, e2, e3, -, e5⟩ := HHR.out.cell hs'
  obtain ⟨-, f2, f3, -, f5⟩ := HHR.out.cell hc'
  obtain ⟨-, g2, g3, -, g5⟩ := HHR.out.cell hx'
  repeat still_step
  refine wpStill_nil ?_
  have HL := Lib.hid (lock_any l n m p d base G1 G2 c1 c2 3 V1 HN.out HM.out HHR.out hp hd m8)
  go_wp2_with fail
  refine (HL.out).mono ?_
  rintro e w2 ⟨rfl, hm2, hb2⟩
  clear x0 x1 z1 z2 a1 a2 a3 a4 a5 a6 a7 b2 b3 b5 e2 e3 e5 f2 f3 f5 g2 g3 g5
  have HM2 := Lib.hid hm2
  have HB2 := Lib.hid hb2
  clear hm2 hb2
  go_wp2_with fail
  go_ret
  exact ⟨by rw [HE.out]; rfl, by rw [HE.out]; exact HM2.out, HKR.out.trans HB2.out⟩
set_option maxRecDepth 100000 in
set_option maxHeartbeats 1600000 in
theorem act_3 (l : Ls) (n m p d s c x base G1 G2 c1 c2 : Nat) (w : World) (hn : l.cs.length = n) (hm : l.ps.length = m) (h : MemL w base G1 G2 c1 c2 l) (hp : p < m) (hd : d < n) (hs : s < n) (hc : c < n) (hx : x < n) (m8 : m ≤ 8) (_n66 : n ≤ 66) (hxd : (l.pr p).pred = (d : Int)) (hxs : (l.pr p).succ = (s : Int)) (hxc : (l.pr p).cell = (c : Int)) (hxx : (l.pr p).next = (x : Int)) (hph : (l.pr p).phase = 3) :
    Calls Tryz.prog 57 #[.agg #[.slice (some ⟨G1, 0, none⟩) n c1, .slice (some ⟨G2, 0, none⟩) m c2], .int .i64 (p : Int)] w (OptP (stepV l p) l base G1 G2 c1 c2 w) := by
  have HE := Lib.hid (step_3 hph hxs)
  have HK : Hid (Chg G1 G2 w _) := Lib.hid (Chg.of ((Below.refl w.heap.size w).alloc (Nat.le_refl _) (.cells #[.slice (some ⟨G1, 0, none⟩) n c1, .slice (some ⟨G2, 0, none⟩) m c2] 28)))
  have HH := Lib.hid (h.below ((Below.refl _ _).alloc (Nat.le_refl _) (.cells #[.slice (some ⟨G1, 0, none⟩) n c1, .slice (some ⟨G2, 0, none⟩) m c2] 28)))
  have HX := Lib.hid (Has.new w 28 #[.slice (some ⟨G1, 0, none⟩) n c1, .slice (some ⟨G2, 0, none⟩) m c2])
  have hbn : G1 < w.heap.size ∧ G2 < w.heap.size := ⟨h.cs.lt, h.ps.lt⟩
  have hne : ¬ G1 = G2 := h.ne
  have hne' : ¬ G2 = G1 := fun e => h.ne e.symm
  have HN := Lib.hid hn
  have HM := Lib.hid hm
  have hp' : p < l.ps.length := by rw [hm]; exact hp
  have hd' : d < l.cs.length := by rw [hn]; exact hd
  have hs' : s < l.cs.length := by rw [hn]; exact hs
  have hc' : c < l.cs.length := by rw [hn]; exact hc
  have hx' : x < l.cs.length := by rw [hn]; exact hx
  have p0 : (0 : Int) ≤ (p : Int) := by omega
  have p1 : (p : Int) < (m : Int) := by omega
  have r0 : (0 : Int) ≤ (d : Int) := by omega
  have r1 : (d : Int) < (n : Int) := by omega
  have q0 : (0 : Int) ≤ (s : Int) := by omega
  have q1 : (s : Int) < (n : Int) := by omega
  have t0 : (0 : Int) ≤ (c : Int) := by omega
  have t1 : (c : Int) < (n : Int) := by omega
  have u0 : (0 : Int) ≤ (x : Int) := by omega
  have u1 : (x : Int) < (n : Int) := by omega
  have HXD := Lib.hid hxd
  have HXS := Lib.hid hxs
  have HXC := Lib.hid hxc
  have HXX := Lib.hid hxx
  have HPH := Lib.hid hph
  obtain ⟨O, hO⟩ : ∃ O, O = stepV l p := ⟨_, rfl⟩
  rw [← hO] at HE ⊢
  clear h hn hm hxd hxs hxc hxx hph hO
  go_enter Tryz.func57, Tryz.ntmps57
  go_upto_region 1 with fail
  generalize w.alloc (.cells #[.slice (some ⟨G1, 0, none⟩) n c1, .slice (some ⟨G2, 0, none⟩) m c2] 28) = W at *
  obtain ⟨B, hB⟩ : ∃ B, B = w.heap.size := ⟨_, rfl⟩
  rw [← hB] at HX hbn ⊢
  clear hB
  have x0 := HX.out.cell 0
  have x1 := HX.out.cell 1
  go_quiet (fail)
  have hqb := below_drw (Below.refl W.heap.size W) nq
  have HHQ := Lib.hid (HH.out.below hqb)
  have HKQ := Lib.hid (HK.out.add hqb)
  have HXQ := Lib.hid (HX.out.below hqb)
  clear x0 x1 hqb HH HK HX
  generalize W.drewN nq = V at *
  have x0 := HXQ.out.cell 0
  have x1 := HXQ.out.cell 1
  obtain ⟨z1, z2⟩ := HHQ.out.fz
  obtain ⟨a1, a2, a3, a4, a5, a6, a7⟩ := HHQ.out.proc hp'
  rw [HPH.out] at a3
  rw [HXD.out] at a4
  rw [HXS.out] at a5
  rw [HXX.out] at a6
  rw [HXC.out] at a2
  obtain ⟨-, b2, b3, -, b5⟩ := HHQ.out.cell hd'
  obtain ⟨-, e2, e3, -, e5⟩ := HHQ.out.cell hs'
  obtain ⟨-, f2, f3, -, f5⟩ := HHQ.out.cell hc'
  obtain ⟨-, g2, g3, -, g5⟩ := HHQ.out.cell hx'
  go_upto_region 9 with fail
  refine wp_region_still_tail 6 (by kernel_rfl) (by kernel_rfl) ?_
  simp only [List.take_succ_cons, List.take_zero, List.drop_succ_cons, List.drop_zero]
  change wpStill _ _ V.drew (fun a' => wpList _ _ _ _ a' V.drew) _ _
  have HHR := Lib.hid HHQ.out.drew
  have HKR := Lib.hid HKQ.out.drew
  have HXR := Lib.hid (HXQ.out.below (Below.refl _ _).drew)
  clear x0 x1 z1 z2 a1 a2 a3 a4 a5 a6 a7 b2 b3 b5 e2 e3 e5 f2 f3 f5 g2 g3 g5
  generalize V.drew = V1 at *
  have x0 := HXR.out.cell 0
  have x1 := HXR.out.cell 1
  obtain ⟨z1, z2⟩ := HHR.out.fz
  obtain ⟨a1, a2, a3, a4, a5, a6, a7⟩ := HHR.out.proc hp'
  rw [HPH.out] at a3
  rw [HXD.out] at a4
  rw [HXS.out] at a5
  rw [HXX.out] at a6
  rw [HXC.out] at a2
  obtain ⟨-, b2, b3, -, b5⟩ := HHR.out.cell hd'
  obtain ⟨-, e2, e3, -, e5⟩ := HHR.out.cell hs'
  obtain ⟨-, f2, f3, -, f5⟩ := HHR.out.cell hc'
  obtain ⟨-, g2, g3, -, g5⟩ := HHR.out.cell hx'
  repeat still_step
  refine wpStill_nil ?_
  have HL := Lib.hid (lock_any l n m p s base G1 G2 c1 c2 4 V1 HN.out HM.out HHR.out hp hs m8)
  go_wp2_with fail
  refine (HL.out).mono ?_
  rintro e w2 ⟨rfl, hm2, hb2⟩
  clear x0 x1 z1 z2 a1 a2 a3 a4 a5 a6 a7 b2 b3 b5 e2 e3 e5 f2 f3 f5 g2 g3 g5
  have HM2 := Lib.hid hm2
  have HB2 := Lib.hid hb2
  clear hm2 hb2
  go_wp2_with fail
  go_ret
  exact ⟨by rw [HE.out]; rfl, by rw [HE.out]; exact HM2.out, HKR.out.trans HB2.out⟩
set_option maxRecDepth 100000 in
set_option maxHeartbeats 1600000 in
theorem act_4 (l : Ls) (n m p d s c x base G1 G2 c1 c2 : Nat) (w : World) (hn : l.cs.length = n) (hm : l.ps.length = m) (h : MemL w base G1 G2 c1 c2 l) (hp : p < m) (hd : d < n) (hs : s < n) (hc : c < n) (hx : x < n) (_m8 : m ≤ 8) (_n66 : n ≤ 66) (hxd : (l.pr p).pred = (d : Int)) (hxs : (l.pr p).succ = (s : Int)) (hxc : (l.pr p).cell = (c : Int)) (hxx : (l.pr p).next = (x : Int)) (hph : (l.pr p).phase = 4) :
    Calls Tryz.prog 57 #[.agg #[.slice (some ⟨G1, 0, none⟩) n c1, .slice (some ⟨G2, 0, none⟩) m c2], .int .i64 (p : Int)] w (OptP (stepV l p) l base G1 G2 c1 c2 w) := by
  have HE := Lib.hid (step_4 hph hxd hxs hxc)
  have HK : Hid (Chg G1 G2 w _) := Lib.hid (Chg.of ((Below.refl w.heap.size w).alloc (Nat.le_refl _) (.cells #[.slice (some ⟨G1, 0, none⟩) n c1, .slice (some ⟨G2, 0, none⟩) m c2] 28)))
  have HH := Lib.hid (h.below ((Below.refl _ _).alloc (Nat.le_refl _) (.cells #[.slice (some ⟨G1, 0, none⟩) n c1, .slice (some ⟨G2, 0, none⟩) m c2] 28)))
  have HX := Lib.hid (Has.new w 28 #[.slice (some ⟨G1, 0, none⟩) n c1, .slice (some ⟨G2, 0, none⟩) m c2])
  have hbn : G1 < w.heap.size ∧ G2 < w.heap.size := ⟨h.cs.lt, h.ps.lt⟩
  have hne : ¬ G1 = G2 := h.ne
  have hne' : ¬ G2 = G1 := fun e => h.ne e.symm
  have HN := Lib.hid hn
  have HM := Lib.hid hm
  have hp' : p < l.ps.length := by rw [hm]; exact hp
  have hd' : d < l.cs.length := by rw [hn]; exact hd
  have hs' : s < l.cs.length := by rw [hn]; exact hs
  have hc' : c < l.cs.length := by rw [hn]; exact hc
  have hx' : x < l.cs.length := by rw [hn]; exact hx
  have p0 : (0 : Int) ≤ (p : Int) := by omega
  have p1 : (p : Int) < (m : Int) := by omega
  have r0 : (0 : Int) ≤ (d : Int) := by omega
  have r1 : (d : Int) < (n : Int) := by omega
  have q0 : (0 : Int) ≤ (s : Int) := by omega
  have q1 : (s : Int) < (n : Int) := by omega
  have t0 : (0 : Int) ≤ (c : Int) := by omega
  have t1 : (c : Int) < (n : Int) := by omega
  have u0 : (0 : Int) ≤ (x : Int) := by omega
  have u1 : (x : Int) < (n : Int) := by omega
  have HXD := Lib.hid hxd
  have HXS := Lib.hid hxs
  have HXC := Lib.hid hxc
  have HXX := Lib.hid hxx
  have HPH := Lib.hid hph
  obtain ⟨O, hO⟩ : ∃ O, O = stepV l p := ⟨_, rfl⟩
  rw [← hO] at HE ⊢
  clear h hn hm hxd hxs hxc hxx hph hO
  go_enter Tryz.func57, Tryz.ntmps57
  go_upto_region 1 with fail
  generalize w.alloc (.cells #[.slice (some ⟨G1, 0, none⟩) n c1, .slice (some ⟨G2, 0, none⟩) m c2] 28) = W at *
  obtain ⟨B, hB⟩ : ∃ B, B = w.heap.size := ⟨_, rfl⟩
  rw [← hB] at HX hbn ⊢
  clear hB
  have x0 := HX.out.cell 0
  have x1 := HX.out.cell 1
  go_quiet (fail)
  have hqb := below_drw (Below.refl W.heap.size W) nq
  have HHQ := Lib.hid (HH.out.below hqb)
  have HKQ := Lib.hid (HK.out.add hqb)
  have HXQ := Lib.hid (HX.out.below hqb)
  clear x0 x1 hqb HH HK HX
  generalize W.drewN nq = V at *
  have x0 := HXQ.out.cell 0
  have x1 := HXQ.out.cell 1
  obtain ⟨z1, z2⟩ := HHQ.out.fz
  obtain ⟨a1, a2, a3, a4, a5, a6, a7⟩ := HHQ.out.proc hp'
  rw [HPH.out] at a3
  rw [HXD.out] at a4
  rw [HXS.out] at a5
  rw [HXX.out] at a6
  rw [HXC.out] at a2
  obtain ⟨-, b2, b3, -, b5⟩ := HHQ.out.cell hd'
  obtain ⟨-, e2, e3, -, e5⟩ := HHQ.out.cell hs'
  obtain ⟨-, f2, f3, -, f5⟩ := HHQ.out.cell hc'
  obtain ⟨-, g2, g3, -, g5⟩ := HHQ.out.cell hx'
  have HL := Lib.hid (decide_any l n m p d s c base G1 G2 c1 c2 V HN.out HM.out HHQ.out hp hd hs hc HXD.out HXS.out HXC.out)
  go_wp2_with fail
  refine (HL.out).mono ?_
  rintro e w2 ⟨rfl, hm2, hb2⟩
  clear x0 x1 z1 z2 a1 a2 a3 a4 a5 a6 a7 b2 b3 b5 e2 e3 e5 f2 f3 f5 g2 g3 g5
  have HM2 := Lib.hid hm2
  have HB2 := Lib.hid hb2
  clear hm2 hb2
  go_wp2_with fail
  go_ret
  exact ⟨by rw [HE.out]; rfl, by rw [HE.out]; exact HM2.out, HKQ.out.trans HB2.out⟩
set_option maxRecDepth 100000 in
set_option maxHeartbeats 1600000 in
theorem act_5 (l : Ls) (n m p d s c x base G1 G2 c1 c2 : Nat) (n0 : 0 < n) (w : World) (hn : l.cs.length = n) (hm : l.ps.length = m) (h : MemL w base G1 G2 c1 c2 l) (hp : p < m) (hd : d < n) (hs : s < n) (hc : c < n) (hx : x < n) (m8 : m ≤ 8) (n66 : n ≤ 66) (hxd : (l.pr p).pred = (d : Int)) (hxs : (l.pr p).succ = (s : Int)) (hxc : (l.pr p).cell = (c : Int)) (hxx : (l.pr p).next = (x : Int)) (hph : (l.pr p).phase = 5) :
    Calls Tryz.prog 57 #[.agg #[.slice (some ⟨G1, 0, none⟩) n c1, .slice (some ⟨G2, 0, none⟩) m c2], .int .i64 (p : Int)] w (OptP (stepV l p) l base G1 G2 c1 c2 w) := by
  have HE := Lib.hid (step_5 hph)
  have HK : Hid (Chg G1 G2 w _) := Lib.hid (Chg.of ((Below.refl w.heap.size w).alloc (Nat.le_refl _) (.cells #[.slice (some ⟨G1, 0, none⟩) n c1, .slice (some ⟨G2, 0, none⟩) m c2] 28)))
  have HH := Lib.hid (h.below ((Below.refl _ _).alloc (Nat.le_refl _) (.cells #[.slice (some ⟨G1, 0, none⟩) n c1, .slice (some ⟨G2, 0, none⟩) m c2] 28)))
  have HX := Lib.hid (Has.new w 28 #[.slice (some ⟨G1, 0, none⟩) n c1, .slice (some ⟨G2, 0, none⟩) m c2])
  have hbn : G1 < w.heap.size ∧ G2 < w.heap.size := ⟨h.cs.lt, h.ps.lt⟩
  have hne : ¬ G1 = G2 := h.ne
  have hne' : ¬ G2 = G1 := fun e => h.ne e.symm
  have HN := Lib.hid hn
  have HM := Lib.hid hm
  have hp' : p < l.ps.length := by rw [hm]; exact hp
  have hd' : d < l.cs.length := by rw [hn]; exact hd
  have hs' : s < l.cs.length := by rw [hn]; exact hs
  have hc' : c < l.cs.length := by rw [hn]; exact hc
  have hx' : x < l.cs.length := by rw [hn]; exact hx
  have p0 : (0 : Int) ≤ (p : Int) := by omega
  have p1 : (p : Int) < (m : Int) := by omega
  have r0 : (0 : Int) ≤ (d : Int) := by omega
  have r1 : (d : Int) < (n : Int) := by omega
  have q0 : (0 : Int) ≤ (s : Int) := by omega
  have q1 : (s : Int) < (n : Int) := by omega
  have t0 : (0 : Int) ≤ (c : Int) := by omega
  have t1 : (c : Int) < (n : Int) := by omega
  have u0 : (0 : Int) ≤ (x : Int) := by omega
  have u1 : (x : Int) < (n : Int) := by omega
  have HXD := Lib.hid hxd
  have HXS := Lib.hid hxs
  have HXC := Lib.hid hxc
  have HXX := Lib.hid hxx
  have HPH := Lib.hid hph
  obtain ⟨O, hO⟩ : ∃ O, O = stepV l p := ⟨_, rfl⟩
  rw [← hO] at HE ⊢
  clear h hn hm hxd hxs hxc hxx hph hO
  go_enter Tryz.func57, Tryz.ntmps57
  go_upto_region 1 with fail
  generalize w.alloc (.cells #[.slice (some ⟨G1, 0, none⟩) n c1, .slice (some ⟨G2, 0, none⟩) m c2] 28) = W at *
  obtain ⟨B, hB⟩ : ∃ B, B = w.heap.size := ⟨_, rfl⟩
  rw [← hB] at HX hbn ⊢
  clear hB
  have x0 := HX.out.cell 0
  have x1 := HX.out.cell 1
  go_quiet (fail)
  have hqb := below_drw (Below.refl W.heap.size W) nq
  have HHQ := Lib.hid (HH.out.below hqb)
  have HKQ := Lib.hid (HK.out.add hqb)
  have HXQ := Lib.hid (HX.out.below hqb)
  clear x0 x1 hqb HH HK HX
  generalize W.drewN nq = V at *
  have x0 := HXQ.out.cell 0
  have x1 := HXQ.out.cell 1
  obtain ⟨z1, z2⟩ := HHQ.out.fz
  obtain ⟨a1, a2, a3, a4, a5, a6, a7⟩ := HHQ.out.proc hp'
  rw [HPH.out] at a3
  rw [HXD.out] at a4
  rw [HXS.out] at a5
  rw [HXX.out] at a6
  rw [HXC.out] at a2
  obtain ⟨-, b2, b3, -, b5⟩ := HHQ.out.cell hd'
  obtain ⟨-, e2, e3, -, e5⟩ := HHQ.out.cell hs'
  obtain ⟨-, f2, f3, -, f5⟩ := HHQ.out.cell hc'
  obtain ⟨-, g2, g3, -, g5⟩ := HHQ.out.cell hx'
  have HL := Lib.hid (unlock_any l n m p base G1 G2 c1 c2 V HN.out HM.out HHQ.out hp m8 n66)
  go_wp2_with fail
  refine (HL.out).mono ?_
  rintro e w2 ⟨rfl, hm2, hb2⟩
  clear x0 x1 z1 z2 a1 a2 a3 a4 a5 a6 a7 b2 b3 b5 e2 e3 e5 f2 f3 f5 g2 g3 g5
  have HM2 := Lib.hid hm2
  have HB2 := Lib.hid hb2
  have HX2 := Lib.hid (hb2.has HXQ.out (by omega) (by omega))
  have HL2 := Lib.hid (begin_any (l.free p) n m p base G1 G2 c1 c2 w2 (by rw [Ls.len_free]; exact HN.out) HM.out hm2 hp n0)
  clear hm2 hb2 HL
  have x0 := HX2.out.cell 0
  have x1 := HX2.out.cell 1
  go_wp2_with fail
  refine (HL2.out).mono ?_
  rintro e w3 ⟨rfl, hm3, hb3⟩
  have HM3 := Lib.hid hm3
  have HB3 := Lib.hid hb3
  clear hm3 hb3 x0 x1
  go_wp2_with fail
  go_ret
  refine ⟨by rw [HE.out]; rfl, ?_, (HKQ.out.trans HB2.out).trans HB3.out⟩
  rw [HE.out]
  have := HM3.out
  rw [free_at0] at this
  exact this
set_option maxRecDepth 100000 in
set_option maxHeartbeats 3200000 in
theorem act_6 (l : Ls) (n m p d s c x base G1 G2 c1 c2 : Nat) (w : World) (hn : l.cs.length = n) (hm : l.ps.length = m) (h : MemL w base G1 G2 c1 c2 l) (hp : p < m) (hd : d < n) (hs : s < n) (hc : c < n) (hx : x < n) (_m8 : m ≤ 8) (_n66 : n ≤ 66) (hxd : (l.pr p).pred = (d : Int)) (hxs : (l.pr p).succ = (s : Int)) (hxc : (l.pr p).cell = (c : Int)) (hxx : (l.pr p).next = (x : Int)) (hph : (l.pr p).phase = 6) :
    Calls Tryz.prog 57 #[.agg #[.slice (some ⟨G1, 0, none⟩) n c1, .slice (some ⟨G2, 0, none⟩) m c2], .int .i64 (p : Int)] w (OptP (stepV l p) l base G1 G2 c1 c2 w) := by
  have HE := Lib.hid (step_6 hph hxd hxs hxc)
  have HK : Hid (Chg G1 G2 w _) := Lib.hid (Chg.of ((Below.refl w.heap.size w).alloc (Nat.le_refl _) (.cells #[.slice (some ⟨G1, 0, none⟩) n c1, .slice (some ⟨G2, 0, none⟩) m c2] 28)))
  have HH := Lib.hid (h.below ((Below.refl _ _).alloc (Nat.le_refl _) (.cells #[.slice (some ⟨G1, 0, none⟩) n c1, .slice (some ⟨G2, 0, none⟩) m c2] 28)))
  have HX := Lib.hid (Has.new w 28 #[.slice (some ⟨G1, 0, none⟩) n c1, .slice (some ⟨G2, 0, none⟩) m c2])
  have hbn : G1 < w.heap.size ∧ G2 < w.heap.size := ⟨h.cs.lt, h.ps.lt⟩
  have hne : ¬ G1 = G2 := h.ne
  have hne' : ¬ G2 = G1 := fun e => h.ne e.symm
  have HN := Lib.hid hn
  have HM := Lib.hid hm
  have hp' : p < l.ps.length := by rw [hm]; exact hp
  have hd' : d < l.cs.length := by rw [hn]; exact hd
  have hs' : s < l.cs.length := by rw [hn]; exact hs
  have hc' : c < l.cs.length := by rw [hn]; exact hc
  have hx' : x < l.cs.length := by rw [hn]; exact hx
  have p0 : (0 : Int) ≤ (p : Int) := by omega
  have p1 : (p : Int) < (m : Int) := by omega
  have r0 : (0 : Int) ≤ (d : Int) := by omega
  have r1 : (d : Int) < (n : Int) := by omega
  have q0 : (0 : Int) ≤ (s : Int) := by omega
  have q1 : (s : Int) < (n : Int) := by omega
  have t0 : (0 : Int) ≤ (c : Int) := by omega
  have t1 : (c : Int) < (n : Int) := by omega
  have u0 : (0 : Int) ≤ (x : Int) := by omega
  have u1 : (x : Int) < (n : Int) := by omega
  have HXD := Lib.hid hxd
  have HXS := Lib.hid hxs
  have HXC := Lib.hid hxc
  have HXX := Lib.hid hxx
  have HPH := Lib.hid hph
  obtain ⟨O, hO⟩ : ∃ O, O = stepV l p := ⟨_, rfl⟩
  rw [← hO] at HE ⊢
  clear h hn hm hxd hxs hxc hxx hph hO
  go_enter Tryz.func57, Tryz.ntmps57
  go_upto_region 1 with fail
  generalize w.alloc (.cells #[.slice (some ⟨G1, 0, none⟩) n c1, .slice (some ⟨G2, 0, none⟩) m c2] 28) = W at *
  obtain ⟨B, hB⟩ : ∃ B, B = w.heap.size := ⟨_, rfl⟩
  rw [← hB] at HX hbn ⊢
  clear hB
  have x0 := HX.out.cell 0
  have x1 := HX.out.cell 1
  go_quiet (fail)
  have hqb := below_drw (Below.refl W.heap.size W) nq
  have HHQ := Lib.hid (HH.out.below hqb)
  have HKQ := Lib.hid (HK.out.add hqb)
  have HXQ := Lib.hid (HX.out.below hqb)
  clear x0 x1 hqb HH HK HX
  generalize W.drewN nq = V at *
  have x0 := HXQ.out.cell 0
  have x1 := HXQ.out.cell 1
  obtain ⟨z1, z2⟩ := HHQ.out.fz
  obtain ⟨a1, a2, a3, a4, a5, a6, a7⟩ := HHQ.out.proc hp'
  rw [HPH.out] at a3
  rw [HXD.out] at a4
  rw [HXS.out] at a5
  rw [HXX.out] at a6
  rw [HXC.out] at a2
  obtain ⟨-, b2, b3, -, b5⟩ := HHQ.out.cell hd'
  obtain ⟨-, e2, e3, -, e5⟩ := HHQ.out.cell hs'
  obtain ⟨-, f2, f3, -, f5⟩ := HHQ.out.cell hc'
  obtain ⟨-, g2, g3, -, g5⟩ := HHQ.out.cell hx'
  go_upto_region 16 with fail
  go_region
  clear x0 x1 z1 z2 a1 a2 a3 a4 a5 a6 a7 b2 b3 b5 e2 e3 e5 f2 f3 f5 g2 g3 g5
  have HHR := Lib.hid (MemL.drew (((HHQ.out.initC hc').upC hc' 1 (by decide) (.int .i64 (d : Int)) { l.at_ c with left := (d : Int) } rfl).upC hc' 2 (by decide) (.int .i64 (s : Int)) { l.at_ c with left := (d : Int), right := (s : Int) } rfl))
  have HKR := Lib.hid (Chg.drew ((HKQ.out.set1 (c * 5 + 1) (.int .i64 (d : Int))).set1 (c * 5 + 2) (.int .i64 (s : Int))))
  generalize World.drew _ = V2 at *
  obtain ⟨z1, z2⟩ := HHR.out.fz
  obtain ⟨a1, a2, a3, a4, a5, a6, a7⟩ := HHR.out.proc hp'
  go_wp2_with fail
  clear z1 z2 a1 a2 a3 a4 a5 a6 a7
  go_ret
  refine ⟨by rw [HE.out]; rfl, ?_, HKR.out.set2 _ _⟩
  rw [HE.out]
  exact HHR.out.setP hp' 2 (by decide) (.int .i64 7) { l.pr p with phase := 7 } rfl
set_option maxRecDepth 100000 in
set_option maxHeartbeats 3200000 in
theorem act_7 (l : Ls) (n m p d s c x base G1 G2 c1 c2 : Nat) (w : World) (hn : l.cs.length = n) (hm : l.ps.length = m) (h : MemL w base G1 G2 c1 c2 l) (hp : p < m) (hd : d < n) (hs : s < n) (hc : c < n) (hx : x < n) (_m8 : m ≤ 8) (_n66 : n ≤ 66) (hxd : (l.pr p).pred = (d : Int)) (hxs : (l.pr p).succ = (s : Int)) (hxc : (l.pr p).cell = (c : Int)) (hxx : (l.pr p).next = (x : Int)) (hph : (l.pr p).phase = 7) :
    Calls Tryz.prog 57 #[.agg #[.slice (some ⟨G1, 0, none⟩) n c1, .slice (some ⟨G2, 0, none⟩) m c2], .int .i64 (p : Int)] w (OptP (stepV l p) l base G1 G2 c1 c2 w) := by
  have HE := Lib.hid (step_7 hph hxd hxc)
  have HK : Hid (Chg G1 G2 w _) := Lib.hid (Chg.of ((Below.refl w.heap.size w).alloc (Nat.le_refl _) (.cells #[.slice (some ⟨G1, 0, none⟩) n c1, .slice (some ⟨G2, 0, none⟩) m c2] 28)))
  have HH := Lib.hid (h.below ((Below.refl _ _).alloc (Nat.le_refl _) (.cells #[.slice (some ⟨G1, 0, none⟩) n c1, .slice (some ⟨G2, 0, none⟩) m c2] 28)))
  have HX := Lib.hid (Has.new w 28 #[.slice (some ⟨G1, 0, none⟩) n c1, .slice (some ⟨G2, 0, none⟩) m c2])
  have hbn : G1 < w.heap.size ∧ G2 < w.heap.size := ⟨h.cs.lt, h.ps.lt⟩
  have hne : ¬ G1 = G2 := h.ne
  have hne' : ¬ G2 = G1 := fun e => h.ne e.symm
  have HN := Lib.hid hn
  have HM := Lib.hid hm
  have hp' : p < l.ps.length := by rw [hm]; exact hp
  have hd' : d < l.cs.length := by rw [hn]; exact hd
  have hs' : s < l.cs.length := by rw [hn]; exact hs
  have hc' : c < l.cs.length := by rw [hn]; exact hc
  have hx' : x < l.cs.length := by rw [hn]; exact hx
  have p0 : (0 : Int) ≤ (p : Int) := by omega
  have p1 : (p : Int) < (m : Int) := by omega
  have r0 : (0 : Int) ≤ (d : Int) := by omega
  have r1 : (d : Int) < (n : Int) := by omega
  have q0 : (0 : Int) ≤ (s : Int) := by omega
  have q1 : (s : Int) < (n : Int) := by omega
  have t0 : (0 : Int) ≤ (c : Int) := by omega
  have t1 : (c : Int) < (n : Int) := by omega
  have u0 : (0 : Int) ≤ (x : Int) := by omega
  have u1 : (x : Int) < (n : Int) := by omega
  have HXD := Lib.hid hxd
  have HXS := Lib.hid hxs
  have HXC := Lib.hid hxc
  have HXX := Lib.hid hxx
  have HPH := Lib.hid hph
  obtain ⟨O, hO⟩ : ∃ O, O = stepV l p := ⟨_, rfl⟩
  rw [← hO] at HE ⊢
  clear h hn hm hxd hxs hxc hxx hph hO
  go_enter Tryz.func57, Tryz.ntmps57
  go_upto_region 1 with fail
  generalize w.alloc (.cells #[.slice (some ⟨G1, 0, none⟩) n c1, .slice (some ⟨G2, 0, none⟩) m c2] 28) = W at *
  obtain ⟨B, hB⟩ : ∃ B, B = w.heap.size := ⟨_, rfl⟩
  rw [← hB] at HX hbn ⊢
  clear hB
  have x0 := HX.out.cell 0
  have x1 := HX.out.cell 1
  go_quiet (fail)
  have hqb := below_drw (Below.refl W.heap.size W) nq
  have HHQ := Lib.hid (HH.out.below hqb)
  have HKQ := Lib.hid (HK.out.add hqb)
  have HXQ := Lib.hid (HX.out.below hqb)
  clear x0 x1 hqb HH HK HX
  generalize W.drewN nq = V at *
  have x0 := HXQ.out.cell 0
  have x1 := HXQ.out.cell 1
  obtain ⟨z1, z2⟩ := HHQ.out.fz
  obtain ⟨a1, a2, a3, a4, a5, a6, a7⟩ := HHQ.out.proc hp'
  rw [HPH.out] at a3
  rw [HXD.out] at a4
  rw [HXS.out] at a5
  rw [HXX.out] at a6
  rw [HXC.out] at a2
  obtain ⟨-, b2, b3, -, b5⟩ := HHQ.out.cell hd'
  obtain ⟨-, e2, e3, -, e5⟩ := HHQ.out.cell hs'
  obtain ⟨-, f2, f3, -, f5⟩ := HHQ.out.cell hc'
  obtain ⟨-, g2, g3, -, g5⟩ := HHQ.out.cell hx'
  go_upto_region 19 with fail
  go_region
  clear x0 x1 z1 z2 a1 a2 a3 a4 a5 a6 a7 b2 b3 b5 e2 e3 e5 f2 f3 f5 g2 g3 g5
  have HHR := Lib.hid (MemL.drew ((HHQ.out.initC hd').upC hd' 2 (by decide) (.int .i64 (c : Int)) { l.at_ d with right := (c : Int) } rfl))
  have HKR := Lib.hid (Chg.drew (HKQ.out.set1 (d * 5 + 2) (.int .i64 (c : Int))))
  generalize World.drew _ = V2 at *
  obtain ⟨z1, z2⟩ := HHR.out.fz
  obtain ⟨a1, a2, a3, a4, a5, a6, a7⟩ := HHR.out.proc hp'
  rw [show (Ls.pr (l.setC d { l.at_ d with right := (c : Int) }) p).cell = (c : Int) from HXC.out] at a2
  have hc2 : c < ((l.setC d { l.at_ d with right := (c : Int) })).cs.length := by rw [Ls.len_setC]; exact hc'
  obtain ⟨-, -, -, -, f5⟩ := HHR.out.cell hc2
  go_wp2_with fail
  clear z1 z2 a1 a2 a3 a4 a5 a6 a7 f5
  go_ret
  refine ⟨by rw [HE.out]; rfl, ?_, (HKR.out.set1 _ _).set2 _ _⟩
  rw [HE.out]
  exact (HHR.out.setC hc2 4 (by decide) (.bool false) { ((l.setC d { l.at_ d with right := (c : Int) })).at_ c with gone := false } rfl).setP hp' 2 (by decide) (.int .i64 8) { l.pr p with phase := 8 } rfl
set_option maxRecDepth 100000 in
set_option maxHeartbeats 3200000 in
theorem act_8 (l : Ls) (n m p d s c x base G1 G2 c1 c2 : Nat) (w : World) (hn : l.cs.length = n) (hm : l.ps.length = m) (h : MemL w base G1 G2 c1 c2 l) (hp : p < m) (hd : d < n) (hs : s < n) (hc : c < n) (hx : x < n) (_m8 : m ≤ 8) (_n66 : n ≤ 66) (hxd : (l.pr p).pred = (d : Int)) (hxs : (l.pr p).succ = (s : Int)) (hxc : (l.pr p).cell = (c : Int)) (hxx : (l.pr p).next = (x : Int)) (hph : (l.pr p).phase = 8) :
    Calls Tryz.prog 57 #[.agg #[.slice (some ⟨G1, 0, none⟩) n c1, .slice (some ⟨G2, 0, none⟩) m c2], .int .i64 (p : Int)] w (OptP (stepV l p) l base G1 G2 c1 c2 w) := by
  have HE := Lib.hid (step_8 hph hxs hxc)
  have HK : Hid (Chg G1 G2 w _) := Lib.hid (Chg.of ((Below.refl w.heap.size w).alloc (Nat.le_refl _) (.cells #[.slice (some ⟨G1, 0, none⟩) n c1, .slice (some ⟨G2, 0, none⟩) m c2] 28)))
  have HH := Lib.hid (h.below ((Below.refl _ _).alloc (Nat.le_refl _) (.cells #[.slice (some ⟨G1, 0, none⟩) n c1, .slice (some ⟨G2, 0, none⟩) m c2] 28)))
  have HX := Lib.hid (Has.new w 28 #[.slice (some ⟨G1, 0, none⟩) n c1, .slice (some ⟨G2, 0, none⟩) m c2])
  have hbn : G1 < w.heap.size ∧ G2 < w.heap.size := ⟨h.cs.lt, h.ps.lt⟩
  have hne : ¬ G1 = G2 := h.ne
  have hne' : ¬ G2 = G1 := fun e => h.ne e.symm
  have HN := Lib.hid hn
  have HM := Lib.hid hm
  have hp' : p < l.ps.length := by rw [hm]; exact hp
  have hd' : d < l.cs.length := by rw [hn]; exact hd
  have hs' : s < l.cs.length := by rw [hn]; exact hs
  have hc' : c < l.cs.length := by rw [hn]; exact hc
  have hx' : x < l.cs.length := by rw [hn]; exact hx
  have p0 : (0 : Int) ≤ (p : Int) := by omega
  have p1 : (p : Int) < (m : Int) := by omega
  have r0 : (0 : Int) ≤ (d : Int) := by omega
  have r1 : (d : Int) < (n : Int) := by omega
  have q0 : (0 : Int) ≤ (s : Int) := by omega
  have q1 : (s : Int) < (n : Int) := by omega
  have t0 : (0 : Int) ≤ (c : Int) := by omega
  have t1 : (c : Int) < (n : Int) := by omega
  have u0 : (0 : Int) ≤ (x : Int) := by omega
  have u1 : (x : Int) < (n : Int) := by omega
  have HXD := Lib.hid hxd
  have HXS := Lib.hid hxs
  have HXC := Lib.hid hxc
  have HXX := Lib.hid hxx
  have HPH := Lib.hid hph
  obtain ⟨O, hO⟩ : ∃ O, O = stepV l p := ⟨_, rfl⟩
  rw [← hO] at HE ⊢
  clear h hn hm hxd hxs hxc hxx hph hO
  go_enter Tryz.func57, Tryz.ntmps57
  go_upto_region 1 with fail
  generalize w.alloc (.cells #[.slice (some ⟨G1, 0, none⟩) n c1, .slice (some ⟨G2, 0, none⟩) m c2] 28) = W at *
  obtain ⟨B, hB⟩ : ∃ B, B = w.heap.size := ⟨_, rfl⟩
  rw [← hB] at HX hbn ⊢
  clear hB
  have x0 := HX.out.cell 0
  have x1 := HX.out.cell 1
  go_quiet (fail)
  have hqb := below_drw (Below.refl W.heap.size W) nq
  have HHQ := Lib.hid (HH.out.below hqb)
  have HKQ := Lib.hid (HK.out.add hqb)
  have HXQ := Lib.hid (HX.out.below hqb)
  clear x0 x1 hqb HH HK HX
  generalize W.drewN nq = V at *
  have x0 := HXQ.out.cell 0
  have x1 := HXQ.out.cell 1
  obtain ⟨z1, z2⟩ := HHQ.out.fz
  obtain ⟨a1, a2, a3, a4, a5, a6, a7⟩ := HHQ.out.proc hp'
  rw [HPH.out] at a3
  rw [HXD.out] at a4
  rw [HXS.out] at a5
  rw [HXX.out] at a6
  rw [HXC.out] at a2
  obtain ⟨-, b2, b3, -, b5⟩ := HHQ.out.cell hd'
  obtain ⟨-, e2, e3, -, e5⟩ := HHQ.out.cell hs'
  obtain ⟨-, f2, f3, -, f5⟩ := HHQ.out.cell hc'
  obtain ⟨-, g2, g3, -, g5⟩ := HHQ.out.cell hx'
  go_upto_region 23 with fail
  go_region
  clear x0 x1 z1 z2 a1 a2 a3 a4 a5 a6 a7 b2 b3 b5 e2 e3 e5 f2 f3 f5 g2 g3 g5
  have HHR := Lib.hid (MemL.drew ((HHQ.out.initC hs').upC hs' 1 (by decide) (.int .i64 (c : Int)) { l.at_ s with left := (c : Int) } rfl))
  have HKR := Lib.hid (Chg.drew (HKQ.out.set1 (s * 5 + 1) (.int .i64 (c : Int))))
  generalize World.drew _ = V2 at *
  obtain ⟨z1, z2⟩ := HHR.out.fz
  obtain ⟨a1, a2, a3, a4, a5, a6, a7⟩ := HHR.out.proc hp'
  go_wp2_with fail
  clear z1 z2 a1 a2 a3 a4 a5 a6 a7
  go_ret
  refine ⟨by rw [HE.out]; rfl, ?_, (HKR.out.set2 _ _).set2 _ _⟩
  rw [HE.out]
  exact MemL.up (HHR.out.setP hp' 6 (by decide) (.bool true) { l.pr p with res := true } rfl) hp' 2 (by decide) (.int .i64 13) { l.pr p with res := true, phase := 13 } rfl
set_option maxRecDepth 100000 in
set_option maxHeartbeats 1600000 in
theorem act_9 (l : Ls) (n m p d s c x base G1 G2 c1 c2 : Nat) (r : Nat) (hr : r < n) (hcr : (l.at_ c).right = (r : Int)) (w : World) (hn : l.cs.length = n) (hm : l.ps.length = m) (h : MemL w base G1 G2 c1 c2 l) (hp : p < m) (hd : d < n) (hs : s < n) (hc : c < n) (hx : x < n) (m8 : m ≤ 8) (_n66 : n ≤ 66) (hxd : (l.pr p).pred = (d : Int)) (hxs : (l.pr p).succ = (s : Int)) (hxc : (l.pr p).cell = (c : Int)) (hxx : (l.pr p).next = (x : Int)) (hph : (l.pr p).phase = 9) :
    Calls Tryz.prog 57 #[.agg #[.slice (some ⟨G1, 0, none⟩) n c1, .slice (some ⟨G2, 0, none⟩) m c2], .int .i64 (p : Int)] w (OptP (stepV l p) l base G1 G2 c1 c2 w) := by
  have HE := Lib.hid (step_9 hph hxc hcr)
  have HK : Hid (Chg G1 G2 w _) := Lib.hid (Chg.of ((Below.refl w.heap.size w).alloc (Nat.le_refl _) (.cells #[.slice (some ⟨G1, 0, none⟩) n c1, .slice (some ⟨G2, 0, none⟩) m c2] 28)))
  have HH := Lib.hid (h.below ((Below.refl _ _).alloc (Nat.le_refl _) (.cells #[.slice (some ⟨G1, 0, none⟩) n c1, .slice (some ⟨G2, 0, none⟩) m c2] 28)))
  have HX := Lib.hid (Has.new w 28 #[.slice (some ⟨G1, 0, none⟩) n c1, .slice (some ⟨G2, 0, none⟩) m c2])
  have hbn : G1 < w.heap.size ∧ G2 < w.heap.size := ⟨h.cs.lt, h.ps.lt⟩
  have hne : ¬ G1 = G2 := h.ne
  have hne' : ¬ G2 = G1 := fun e => h.ne e.symm
  have HN := Lib.hid hn
  have HM := Lib.hid hm
  have hp' : p < l.ps.length := by rw [hm]; exact hp
  have hd' : d < l.cs.length := by rw [hn]; exact hd
  have hs' : s < l.cs.length := by rw [hn]; exact hs
  have hc' : c < l.cs.length := by rw [hn]; exact hc
  have hx' : x < l.cs.length := by rw [hn]; exact hx
  have p0 : (0 : Int) ≤ (p : Int) := by omega
  have p1 : (p : Int) < (m : Int) := by omega
  have r0 : (0 : Int) ≤ (d : Int) := by omega
  have r1 : (d : Int) < (n : Int) := by omega
  have q0 : (0 : Int) ≤ (s : Int) := by omega
  have q1 : (s : Int) < (n : Int) := by omega
  have t0 : (0 : Int) ≤ (c : Int) := by omega
  have t1 : (c : Int) < (n : Int) := by omega
  have u0 : (0 : Int) ≤ (x : Int) := by omega
  have u1 : (x : Int) < (n : Int) := by omega
  have HXD := Lib.hid hxd
  have HXS := Lib.hid hxs
  have HXC := Lib.hid hxc
  have HXX := Lib.hid hxx
  have HPH := Lib.hid hph
  obtain ⟨O, hO⟩ : ∃ O, O = stepV l p := ⟨_, rfl⟩
  rw [← hO] at HE ⊢
  clear h hn hm hxd hxs hxc hxx hph hO
  go_enter Tryz.func57, Tryz.ntmps57
  go_upto_region 1 with fail
  generalize w.alloc (.cells #[.slice (some ⟨G1, 0, none⟩) n c1, .slice (some ⟨G2, 0, none⟩) m c2] 28) = W at *
  obtain ⟨B, hB⟩ : ∃ B, B = w.heap.size := ⟨_, rfl⟩
  rw [← hB] at HX hbn ⊢
  clear hB
  have x0 := HX.out.cell 0
  have x1 := HX.out.cell 1
  go_quiet (fail)
  have hqb := below_drw (Below.refl W.heap.size W) nq
  have HHQ := Lib.hid (HH.out.below hqb)
  have HKQ := Lib.hid (HK.out.add hqb)
  have HXQ := Lib.hid (HX.out.below hqb)
  clear x0 x1 hqb HH HK HX
  generalize W.drewN nq = V at *
  have x0 := HXQ.out.cell 0
  have x1 := HXQ.out.cell 1
  obtain ⟨z1, z2⟩ := HHQ.out.fz
  obtain ⟨a1, a2, a3, a4, a5, a6, a7⟩ := HHQ.out.proc hp'
  rw [HPH.out] at a3
  rw [HXD.out] at a4
  rw [HXS.out] at a5
  rw [HXX.out] at a6
  rw [HXC.out] at a2
  obtain ⟨-, b2, b3, -, b5⟩ := HHQ.out.cell hd'
  obtain ⟨-, e2, e3, -, e5⟩ := HHQ.out.cell hs'
  obtain ⟨-, f2, f3, -, f5⟩ := HHQ.out.cell hc'
  obtain ⟨-, g2, g3, -, g5⟩ := HHQ.out.cell hx'
  have HL := Lib.hid (lockNext_any l n m p c r base G1 G2 c1 c2 V HN.out HM.out HHQ.out hp hc hr m8 HXC.out hcr)
  go_wp2_with fail
  refine (HL.out).mono ?_
  rintro e w2 ⟨rfl, hm2, hb2⟩
  clear x0 x1 z1 z2 a1 a2 a3 a4 a5 a6 a7 b2 b3 b5 e2 e3 e5 f2 f3 f5 g2 g3 g5
  have HM2 := Lib.hid hm2
  have HB2 := Lib.hid hb2
  clear hm2 hb2
  go_wp2_with fail
  go_ret
  exact ⟨by rw [HE.out]; rfl, by rw [HE.out]; exact HM2.out, HKQ.out.trans HB2.out⟩
set_option maxRecDepth 100000 in
set_option maxHeartbeats 1600000 in
theorem act_10 (l : Ls) (n m p d s c x base G1 G2 c1 c2 : Nat) (w : World) (hn : l.cs.length = n) (hm : l.ps.length = m) (h : MemL w base G1 G2 c1 c2 l) (hp : p < m) (hd : d < n) (hs : s < n) (hc : c < n) (hx : x < n) (_m8 : m ≤ 8) (_n66 : n ≤ 66) (hxd : (l.pr p).pred = (d : Int)) (hxs : (l.pr p).succ = (s : Int)) (hxc : (l.pr p).cell = (c : Int)) (hxx : (l.pr p).next = (x : Int)) (hph : (l.pr p).phase = 10) :
    Calls Tryz.prog 57 #[.agg #[.slice (some ⟨G1, 0, none⟩) n c1, .slice (some ⟨G2, 0, none⟩) m c2], .int .i64 (p : Int)] w (OptP (stepV l p) l base G1 G2 c1 c2 w) := by
  have HE := Lib.hid (step_10 hph hxc)
  have HK : Hid (Chg G1 G2 w _) := Lib.hid (Chg.of ((Below.refl w.heap.size w).alloc (Nat.le_refl _) (.cells #[.slice (some ⟨G1, 0, none⟩) n c1, .slice (some ⟨G2, 0, none⟩) m c2] 28)))
  have HH := Lib.hid (h.below ((Below.refl _ _).alloc (Nat.le_refl _) (.cells #[.slice (some ⟨G1, 0, none⟩) n c1, .slice (some ⟨G2, 0, none⟩) m c2] 28)))
  have HX := Lib.hid (Has.new w 28 #[.slice (some ⟨G1, 0, none⟩) n c1, .slice (some ⟨G2, 0, none⟩) m c2])
  have hbn : G1 < w.heap.size ∧ G2 < w.heap.size := ⟨h.cs.lt, h.ps.lt⟩
  have hne : ¬ G1 = G2 := h.ne
  have hne' : ¬ G2 = G1 := fun e => h.ne e.symm
  have HN := Lib.hid hn
  have HM := Lib.hid hm
  have hp' : p < l.ps.length := by rw [hm]; exact hp
  have hd' : d < l.cs.length := by rw [hn]; exact hd
  have hs' : s < l.cs.length := by rw [hn]; exact hs
  have hc' : c < l.cs.length := by rw [hn]; exact hc
  have hx' : x < l.cs.length := by rw [hn]; exact hx
  have p0 : (0 : Int) ≤ (p : Int) := by omega
  have p1 : (p : Int) < (m : Int) := by omega
  have r0 : (0 : Int) ≤ (d : Int) := by omega
  have r1 : (d : Int) < (n : Int) := by omega
  have q0 : (0 : Int) ≤ (s : Int) := by omega
  have q1 : (s : Int) < (n : Int) := by omega
  have t0 : (0 : Int) ≤ (c : Int) := by omega
  have t1 : (c : Int) < (n : Int) := by omega
  have u0 : (0 : Int) ≤ (x : Int) := by omega
  have u1 : (x : Int) < (n : Int) := by omega
  have HXD := Lib.hid hxd
  have HXS := Lib.hid hxs
  have HXC := Lib.hid hxc
  have HXX := Lib.hid hxx
  have HPH := Lib.hid hph
  obtain ⟨O, hO⟩ : ∃ O, O = stepV l p := ⟨_, rfl⟩
  rw [← hO] at HE ⊢
  clear h hn hm hxd hxs hxc hxx hph hO
  go_enter Tryz.func57, Tryz.ntmps57
  go_upto_region 1 with fail
  generalize w.alloc (.cells #[.slice (some ⟨G1, 0, none⟩) n c1, .slice (some ⟨G2, 0, none⟩) m c2] 28) = W at *
  obtain ⟨B, hB⟩ : ∃ B, B = w.heap.size := ⟨_, rfl⟩
  rw [← hB] at HX hbn ⊢
  clear hB
  have x0 := HX.out.cell 0
  have x1 := HX.out.cell 1
  go_quiet (fail)
  have hqb := below_drw (Below.refl W.heap.size W) nq
  have HHQ := Lib.hid (HH.out.below hqb)
  have HKQ := Lib.hid (HK.out.add hqb)
  have HXQ := Lib.hid (HX.out.below hqb)
  clear x0 x1 hqb HH HK HX
  generalize W.drewN nq = V at *
  have x0 := HXQ.out.cell 0
  have x1 := HXQ.out.cell 1
  obtain ⟨z1, z2⟩ := HHQ.out.fz
  obtain ⟨a1, a2, a3, a4, a5, a6, a7⟩ := HHQ.out.proc hp'
  rw [HPH.out] at a3
  rw [HXD.out] at a4
  rw [HXS.out] at a5
  rw [HXX.out] at a6
  rw [HXC.out] at a2
  obtain ⟨-, b2, b3, -, b5⟩ := HHQ.out.cell hd'
  obtain ⟨-, e2, e3, -, e5⟩ := HHQ.out.cell hs'
  obtain ⟨-, f2, f3, -, f5⟩ := HHQ.out.cell hc'
  obtain ⟨-, g2, g3, -, g5⟩ := HHQ.out.cell hx'
  go_wp2_with fail
  clear x0 x1 z1 z2 a1 a2 a3 a4 a5 a6 a7 b2 b3 b5 e2 e3 e5 f2 f3 f5 g2 g3 g5
  go_ret
  refine ⟨by rw [HE.out]; rfl, ?_, (HKQ.out.set1 _ _).set2 _ _⟩
  rw [HE.out]
  exact ((HHQ.out.initC hc').upC hc' 4 (by decide) (.bool true) { l.at_ c with gone := true } rfl).setP hp' 2 (by decide) (.int .i64 11) { l.pr p with phase := 11 } rfl
set_option maxRecDepth 100000 in
set_option maxHeartbeats 3200000 in
theorem act_11 (l : Ls) (n m p d s c x base G1 G2 c1 c2 : Nat) (w : World) (hn : l.cs.length = n) (hm : l.ps.length = m) (h : MemL w base G1 G2 c1 c2 l) (hp : p < m) (hd : d < n) (hs : s < n) (hc : c < n) (hx : x < n) (_m8 : m ≤ 8) (_n66 : n ≤ 66) (hxd : (l.pr p).pred = (d : Int)) (hxs : (l.pr p).succ = (s : Int)) (hxc : (l.pr p).cell = (c : Int)) (hxx : (l.pr p).next = (x : Int)) (hph : (l.pr p).phase = 11) :
    Calls Tryz.prog 57 #[.agg #[.slice (some ⟨G1, 0, none⟩) n c1, .slice (some ⟨G2, 0, none⟩) m c2], .int .i64 (p : Int)] w (OptP (stepV l p) l base G1 G2 c1 c2 w) := by
  have HE := Lib.hid (step_11 hph hxd hxx)
  have HK : Hid (Chg G1 G2 w _) := Lib.hid (Chg.of ((Below.refl w.heap.size w).alloc (Nat.le_refl _) (.cells #[.slice (some ⟨G1, 0, none⟩) n c1, .slice (some ⟨G2, 0, none⟩) m c2] 28)))
  have HH := Lib.hid (h.below ((Below.refl _ _).alloc (Nat.le_refl _) (.cells #[.slice (some ⟨G1, 0, none⟩) n c1, .slice (some ⟨G2, 0, none⟩) m c2] 28)))
  have HX := Lib.hid (Has.new w 28 #[.slice (some ⟨G1, 0, none⟩) n c1, .slice (some ⟨G2, 0, none⟩) m c2])
  have hbn : G1 < w.heap.size ∧ G2 < w.heap.size := ⟨h.cs.lt, h.ps.lt⟩
  have hne : ¬ G1 = G2 := h.ne
  have hne' : ¬ G2 = G1 := fun e => h.ne e.symm
  have HN := Lib.hid hn
  have HM := Lib.hid hm
  have hp' : p < l.ps.length := by rw [hm]; exact hp
  have hd' : d < l.cs.length := by rw [hn]; exact hd
  have hs' : s < l.cs.length := by rw [hn]; exact hs
  have hc' : c < l.cs.length := by rw [hn]; exact hc
  have hx' : x < l.cs.length := by rw [hn]; exact hx
  have p0 : (0 : Int) ≤ (p : Int) := by omega
  have p1 : (p : Int) < (m : Int) := by omega
  have r0 : (0 : Int) ≤ (d : Int) := by omega
  have r1 : (d : Int) < (n : Int) := by omega
  have q0 : (0 : Int) ≤ (s : Int) := by omega
  have q1 : (s : Int) < (n : Int) := by omega
  have t0 : (0 : Int) ≤ (c : Int) := by omega
  have t1 : (c : Int) < (n : Int) := by omega
  have u0 : (0 : Int) ≤ (x : Int) := by omega
  have u1 : (x : Int) < (n : Int) := by omega
  have HXD := Lib.hid hxd
  have HXS := Lib.hid hxs
  have HXC := Lib.hid hxc
  have HXX := Lib.hid hxx
  have HPH := Lib.hid hph
  obtain ⟨O, hO⟩ : ∃ O, O = stepV l p := ⟨_, rfl⟩
  rw [← hO] at HE ⊢
  clear h hn hm hxd hxs hxc hxx hph hO
  go_enter Tryz.func57, Tryz.ntmps57
  go_upto_region 1 with fail
  generalize w.alloc (.cells #[.slice (some ⟨G1, 0, none⟩) n c1, .slice (some ⟨G2, 0, none⟩) m c2] 28) = W at *
  obtain ⟨B, hB⟩ : ∃ B, B = w.heap.size := ⟨_, rfl⟩
  rw [← hB] at HX hbn ⊢
  clear hB
  have x0 := HX.out.cell 0
  have x1 := HX.out.cell 1
  go_quiet (fail)
  have hqb := below_drw (Below.refl W.heap.size W) nq
  have HHQ := Lib.hid (HH.out.below hqb)
  have HKQ := Lib.hid (HK.out.add hqb)
  have HXQ := Lib.hid (HX.out.below hqb)
  clear x0 x1 hqb HH HK HX
  generalize W.drewN nq = V at *
  have x0 := HXQ.out.cell 0
  have x1 := HXQ.out.cell 1
  obtain ⟨z1, z2⟩ := HHQ.out.fz
  obtain ⟨a1, a2, a3, a4, a5, a6, a7⟩ := HHQ.out.proc hp'
  rw [HPH.out] at a3
  rw [HXD.out] at a4
  rw [HXS.out] at a5
  rw [HXX.out] at a6
  rw [HXC.out] at a2
  obtain ⟨-, b2, b3, -, b5⟩ := HHQ.out.cell hd'
  obtain ⟨-, e2, e3, -, e5⟩ := HHQ.out.cell hs'
  obtain ⟨-, f2, f3, -, f5⟩ := HHQ.out.cell hc'
  obtain ⟨-, g2, g3, -, g5⟩ := HHQ.out.cell hx'
  go_upto_region 31 with fail
  go_region
  clear x0 x1 z1 z2 a1 a2 a3 a4 a5 a6 a7 b2 b3 b5 e2 e3 e5 f2 f3 f5 g2 g3 g5
  have HHR := Lib.hid (MemL.drew ((HHQ.out.initC hd').upC hd' 2 (by decide) (.int .i64 (x : Int)) { l.at_ d with right := (x : Int) } rfl))
  have HKR := Lib.hid (Chg.drew (HKQ.out.set1 (d * 5 + 2) (.int .i64 (x : Int))))
  generalize World.drew _ = V2 at *
  obtain ⟨z1, z2⟩ := HHR.out.fz
  obtain ⟨a1, a2, a3, a4, a5, a6, a7⟩ := HHR.out.proc hp'
  go_wp2_with fail
  clear z1 z2 a1 a2 a3 a4 a5 a6 a7
  go_ret
  refine ⟨by rw [HE.out]; rfl, ?_, HKR.out.set2 _ _⟩
  rw [HE.out]
  exact HHR.out.setP hp' 2 (by decide) (.int .i64 12) { l.pr p with phase := 12 } rfl
set_option maxRecDepth 100000 in
set_option maxHeartbeats 3200000 in
theorem act_12 (l : Ls) (n m p d s c x base G1 G2 c1 c2 : Nat) (w : World) (hn : l.cs.length = n) (hm : l.ps.length = m) (h : MemL w base G1 G2 c1 c2 l) (hp : p < m) (hd : d < n) (hs : s < n) (hc : c < n) (hx : x < n) (_m8 : m ≤ 8) (_n66 : n ≤ 66) (hxd : (l.pr p).pred = (d : Int)) (hxs : (l.pr p).succ = (s : Int)) (hxc : (l.pr p).cell = (c : Int)) (hxx : (l.pr p).next = (x : Int)) (hph : (l.pr p).phase = 12) :
    Calls Tryz.prog 57 #[.agg #[.slice (some ⟨G1, 0, none⟩) n c1, .slice (some ⟨G2, 0, none⟩) m c2], .int .i64 (p : Int)] w (OptP (stepV l p) l base G1 G2 c1 c2 w) := by
  have HE := Lib.hid (step_12 hph hxd hxx)
  have HK : Hid (Chg G1 G2 w _) := Lib.hid (Chg.of ((Below.refl w.heap.size w).alloc (Nat.le_refl _) (.cells #[.slice (some ⟨G1, 0, none⟩) n c1, .slice (some ⟨G2, 0, none⟩) m c2] 28)))
  have HH := Lib.hid (h.below ((Below.refl _ _).alloc (Nat.le_refl _) (.cells #[.slice (some ⟨G1, 0, none⟩) n c1, .slice (some ⟨G2, 0, none⟩) m c2] 28)))
  have HX := Lib.hid (Has.new w 28 #[.slice (some ⟨G1, 0, none⟩) n c1, .slice (some ⟨G2, 0, none⟩) m c2])
  have hbn : G1 < w.heap.size ∧ G2 < w.heap.size := ⟨h.cs.lt, h.ps.lt⟩
  have hne : ¬ G1 = G2 := h.ne
  have hne' : ¬ G2 = G1 := fun e => h.ne e.symm
  have HN := Lib.hid hn
  have HM := Lib.hid hm
  have hp' : p < l.ps.length := by rw [hm]; exact hp
  have hd' : d < l.cs.length := by rw [hn]; exact hd
  have hs' : s < l.cs.length := by rw [hn]; exact hs
  have hc' : c < l.cs.length := by rw [hn]; exact hc
  have hx' : x < l.cs.length := by rw [hn]; exact hx
  have p0 : (0 : Int) ≤ (p : Int) := by omega
  have p1 : (p : Int) < (m : Int) := by omega
  have r0 : (0 : Int) ≤ (d : Int) := by omega
  have r1 : (d : Int) < (n : Int) := by omega
  have q0 : (0 : Int) ≤ (s : Int) := by omega
  have q1 : (s : Int) < (n : Int) := by omega
  have t0 : (0 : Int) ≤ (c : Int) := by omega
  have t1 : (c : Int) < (n : Int) := by omega
  have u0 : (0 : Int) ≤ (x : Int) := by omega
  have u1 : (x : Int) < (n : Int) := by omega
  have HXD := Lib.hid hxd
  have HXS := Lib.hid hxs
  have HXC := Lib.hid hxc
  have HXX := Lib.hid hxx
  have HPH := Lib.hid hph
  obtain ⟨O, hO⟩ : ∃ O, O = stepV l p := ⟨_, rfl⟩
  rw [← hO] at HE ⊢
  clear h hn hm hxd hxs hxc hxx hph hO
  go_enter Tryz.func57, Tryz.ntmps57
  go_upto_region 1 with fail
  generalize w.alloc (.cells #[.slice (some ⟨G1, 0, none⟩) n c1, .slice (some ⟨G2, 0, none⟩) m c2] 28) = W at *
  obtain ⟨B, hB⟩ : ∃ B, B = w.heap.size := ⟨_, rfl⟩
  rw [← hB] at HX hbn ⊢
  clear hB
  have x0 := HX.out.cell 0
  have x1 := HX.out.cell 1
  go_quiet (fail)
  have hqb := below_drw (Below.refl W.heap.size W) nq
  have HHQ := Lib.hid (HH.out.below hqb)
  have HKQ := Lib.hid (HK.out.add hqb)
  have HXQ := Lib.hid (HX.out.below hqb)
  clear x0 x1 hqb HH HK HX
  generalize W.drewN nq = V at *
  have x0 := HXQ.out.cell 0
  have x1 := HXQ.out.cell 1
  obtain ⟨z1, z2⟩ := HHQ.out.fz
  obtain ⟨a1, a2, a3, a4, a5, a6, a7⟩ := HHQ.out.proc hp'
  rw [HPH.out] at a3
  rw [HXD.out] at a4
  rw [HXS.out] at a5
  rw [HXX.out] at a6
  rw [HXC.out] at a2
  obtain ⟨-, b2, b3, -, b5⟩ := HHQ.out.cell hd'
  obtain ⟨-, e2, e3, -, e5⟩ := HHQ.out.cell hs'
  obtain ⟨-, f2, f3, -, f5⟩ := HHQ.out.cell hc'
  obtain ⟨-, g2, g3, -, g5⟩ := HHQ.out.cell hx'
  go_upto_region 34 with fail
  go_region
  clear x0 x1 z1 z2 a1 a2 a3 a4 a5 a6 a7 b2 b3 b5 e2 e3 e5 f2 f3 f5 g2 g3 g5
  have HHR := Lib.hid (MemL.drew ((HHQ.out.initC hx').upC hx' 1 (by decide) (.int .i64 (d : Int)) { l.at_ x with left := (d : Int) } rfl))
  have HKR := Lib.hid (Chg.drew (HKQ.out.set1 (x * 5 + 1) (.int .i64 (d : Int))))
  generalize World.drew _ = V2 at *
  obtain ⟨z1, z2⟩ := HHR.out.fz
  obtain ⟨a1, a2, a3, a4, a5, a6, a7⟩ := HHR.out.proc hp'
  go_wp2_with fail
  clear z1 z2 a1 a2 a3 a4 a5 a6 a7
  go_ret
  refine ⟨by rw [HE.out]; rfl, ?_, (HKR.out.set2 _ _).set2 _ _⟩
  rw [HE.out]
  exact MemL.up (HHR.out.setP hp' 6 (by decide) (.bool true) { l.pr p with res := true } rfl) hp' 2 (by decide) (.int .i64 13) { l.pr p with res := true, phase := 13 } rfl
set_option maxRecDepth 100000 in
set_option maxHeartbeats 1600000 in
theorem act_13 (l : Ls) (n m p d s c x base G1 G2 c1 c2 : Nat) (w : World) (hn : l.cs.length = n) (hm : l.ps.length = m) (h : MemL w base G1 G2 c1 c2 l) (hp : p < m) (hd : d < n) (hs : s < n) (hc : c < n) (hx : x < n) (m8 : m ≤ 8) (n66 : n ≤ 66) (hxd : (l.pr p).pred = (d : Int)) (hxs : (l.pr p).succ = (s : Int)) (hxc : (l.pr p).cell = (c : Int)) (hxx : (l.pr p).next = (x : Int)) (hph : (l.pr p).phase = 13) :
    Calls Tryz.prog 57 #[.agg #[.slice (some ⟨G1, 0, none⟩) n c1, .slice (some ⟨G2, 0, none⟩) m c2], .int .i64 (p : Int)] w (OptP (stepV l p) l base G1 G2 c1 c2 w) := by
  have HE := Lib.hid (step_13 hph)
  have HK : Hid (Chg G1 G2 w _) := Lib.hid (Chg.of ((Below.refl w.heap.size w).alloc (Nat.le_refl _) (.cells #[.slice (some ⟨G1, 0, none⟩) n c1, .slice (some ⟨G2, 0, none⟩) m c2] 28)))
  have HH := Lib.hid (h.below ((Below.refl _ _).alloc (Nat.le_refl _) (.cells #[.slice (some ⟨G1, 0, none⟩) n c1, .slice (some ⟨G2, 0, none⟩) m c2] 28)))
  have HX := Lib.hid (Has.new w 28 #[.slice (some ⟨G1, 0, none⟩) n c1, .slice (some ⟨G2, 0, none⟩) m c2])
  have hbn : G1 < w.heap.size ∧ G2 < w.heap.size := ⟨h.cs.lt, h.ps.lt⟩
  have hne : ¬ G1 = G2 := h.ne
  have hne' : ¬ G2 = G1 := fun e => h.ne e.symm
  have HN := Lib.hid hn
  have HM := Lib.hid hm
  have hp' : p < l.ps.length := by rw [hm]; exact hp
  have hd' : d < l.cs.length := by rw [hn]; exact hd
  have hs' : s < l.cs.length := by rw [hn]; exact hs
  have hc' : c < l.cs.length := by rw [hn]; exact hc
  have hx' : x < l.cs.length := by rw [hn]; exact hx
  have p0 : (0 : Int) ≤ (p : Int) := by omega
  have p1 : (p : Int) < (m : Int) := by omega
  have r0 : (0 : Int) ≤ (d : Int) := by omega
  have r1 : (d : Int) < (n : Int) := by omega
  have q0 : (0 : Int) ≤ (s : Int) := by omega
  have q1 : (s : Int) < (n : Int) := by omega
  have t0 : (0 : Int) ≤ (c : Int) := by omega
  have t1 : (c : Int) < (n : Int) := by omega
  have u0 : (0 : Int) ≤ (x : Int) := by omega
  have u1 : (x : Int) < (n : Int) := by omega
  have HXD := Lib.hid hxd
  have HXS := Lib.hid hxs
  have HXC := Lib.hid hxc
  have HXX := Lib.hid hxx
  have HPH := Lib.hid hph
  obtain ⟨O, hO⟩ : ∃ O, O = stepV l p := ⟨_, rfl⟩
  rw [← hO] at HE ⊢
  clear h hn hm hxd hxs hxc hxx hph hO
  go_enter Tryz.func57, Tryz.ntmps57
  go_upto_region 1 with fail
  generalize w.alloc (.cells #[.slice (some ⟨G1, 0, none⟩) n c1, .slice (some ⟨G2, 0, none⟩) m c2] 28) = W at *
  obtain ⟨B, hB⟩ : ∃ B, B = w.heap.size := ⟨_, rfl⟩
  rw [← hB] at HX hbn ⊢
  clear hB
  have x0 := HX.out.cell 0
  have x1 := HX.out.cell 1
  go_quiet (fail)
  have hqb := below_drw (Below.refl W.heap.size W) nq
  have HHQ := Lib.hid (HH.out.below hqb)
  have HKQ := Lib.hid (HK.out.add hqb)
  have HXQ := Lib.hid (HX.out.below hqb)
  clear x0 x1 hqb HH HK HX
  generalize W.drewN nq = V at *
  have x0 := HXQ.out.cell 0
  have x1 := HXQ.out.cell 1
  obtain ⟨z1, z2⟩ := HHQ.out.fz
  obtain ⟨a1, a2, a3, a4, a5, a6, a7⟩ := HHQ.out.proc hp'
  rw [HPH.out] at a3
  rw [HXD.out] at a4
  rw [HXS.out] at a5
  rw [HXX.out] at a6
  rw [HXC.out] at a2
  obtain ⟨-, b2, b3, -, b5⟩ := HHQ.out.cell hd'
  obtain ⟨-, e2, e3, -, e5⟩ := HHQ.out.cell hs'
  obtain ⟨-, f2, f3, -, f5⟩ := HHQ.out.cell hc'
  obtain ⟨-, g2, g3, -, g5⟩ := HHQ.out.cell hx'
  have HL := Lib.hid (unlock_any l n m p base G1 G2 c1 c2 V HN.out HM.out HHQ.out hp m8 n66)
  go_wp2_with fail
  refine (HL.out).mono ?_
  rintro e w2 ⟨rfl, hm2, hb2⟩
  clear x0 x1 z1 z2 a1 a2 a3 a4 a5 a6 a7 b2 b3 b5 e2 e3 e5 f2 f3 f5 g2 g3 g5
  have HM2 := Lib.hid hm2
  have HB2 := Lib.hid hb2
  clear hm2 hb2 HL
  obtain ⟨z1, z2⟩ := HM2.out.fz
  obtain ⟨a1, a2, a3, a4, a5, a6, a7⟩ := HM2.out.proc (i := p) hp'
  go_wp2_with fail
  clear z1 z2 a1 a2 a3 a4 a5 a6 a7
  go_ret
  refine ⟨by rw [HE.out]; rfl, ?_, (HKQ.out.trans HB2.out).set2 _ _⟩
  rw [HE.out]
  exact HM2.out.setP (l := l.free p) hp' 2 (by decide) (.int .i64 18) { l.pr p with phase := 18 } rfl
set_option maxRecDepth 100000 in
set_option maxHeartbeats 1600000 in
theorem act_0 (l : Ls) (n m p d s c x base G1 G2 c1 c2 : Nat) (w : World) (hn : l.cs.length = n) (hm : l.ps.length = m) (h : MemL w base G1 G2 c1 c2 l) (hp : p < m) (hd : d < n) (hs : s < n) (hc : c < n) (hx : x < n) (_m8 : m ≤ 8) (_n66 : n ≤ 66) (hxd : (l.pr p).pred = (d : Int)) (hxs : (l.pr p).succ = (s : Int)) (hxc : (l.pr p).cell = (c : Int)) (hxx : (l.pr p).next = (x : Int)) (hph : (l.pr p).phase = 0) :
    Calls Tryz.prog 57 #[.agg #[.slice (some ⟨G1, 0, none⟩) n c1, .slice (some ⟨G2, 0, none⟩) m c2], .int .i64 (p : Int)] w (OptP (stepV l p) l base G1 G2 c1 c2 w) := by
  have HE := Lib.hid (step_0 (p := p) (l := l) (.inl hph))
  have HK : Hid (Chg G1 G2 w _) := Lib.hid (Chg.of ((Below.refl w.heap.size w).alloc (Nat.le_refl _) (.cells #[.slice (some ⟨G1, 0, none⟩) n c1, .slice (some ⟨G2, 0, none⟩) m c2] 28)))
  have HH := Lib.hid (h.below ((Below.refl _ _).alloc (Nat.le_refl _) (.cells #[.slice (some ⟨G1, 0, none⟩) n c1, .slice (some ⟨G2, 0, none⟩) m c2] 28)))
  have HX := Lib.hid (Has.new w 28 #[.slice (some ⟨G1, 0, none⟩) n c1, .slice (some ⟨G2, 0, none⟩) m c2])
  have hbn : G1 < w.heap.size ∧ G2 < w.heap.size := ⟨h.cs.lt, h.ps.lt⟩
  have hne : ¬ G1 = G2 := h.ne
  have hne' : ¬ G2 = G1 := fun e => h.ne e.symm
  have HN := Lib.hid hn
  have HM := Lib.hid hm
  have hp' : p < l.ps.length := by rw [hm]; exact hp
  have hd' : d < l.cs.length := by rw [hn]; exact hd
  have hs' : s < l.cs.length := by rw [hn]; exact hs
  have hc' : c < l.cs.length := by rw [hn]; exact hc
  have hx' : x < l.cs.length := by rw [hn]; exact hx
  have p0 : (0 : Int) ≤ (p : Int) := by omega
  have p1 : (p : Int) < (m : Int) := by omega
  have r0 : (0 : Int) ≤ (d : Int) := by omega
  have r1 : (d : Int) < (n : Int) := by omega
  have q0 : (0 : Int) ≤ (s : Int) := by omega
  have q1 : (s : Int) < (n : Int) := by omega
  have t0 : (0 : Int) ≤ (c : Int) := by omega
  have t1 : (c : Int) < (n : Int) := by omega
  have u0 : (0 : Int) ≤ (x : Int) := by omega
  have u1 : (x : Int) < (n : Int) := by omega
  have HXD := Lib.hid hxd
  have HXS := Lib.hid hxs
  have HXC := Lib.hid hxc
  have HXX := Lib.hid hxx
  have HPH := Lib.hid hph
  obtain ⟨O, hO⟩ : ∃ O, O = stepV l p := ⟨_, rfl⟩
  rw [← hO] at HE ⊢
  clear h hn hm hxd hxs hxc hxx hph hO
  go_enter Tryz.func57, Tryz.ntmps57
  go_upto_region 1 with fail
  generalize w.alloc (.cells #[.slice (some ⟨G1, 0, none⟩) n c1, .slice (some ⟨G2, 0, none⟩) m c2] 28) = W at *
  obtain ⟨B, hB⟩ : ∃ B, B = w.heap.size := ⟨_, rfl⟩
  rw [← hB] at HX hbn ⊢
  clear hB
  have x0 := HX.out.cell 0
  have x1 := HX.out.cell 1
  go_quiet (fail)
  have hqb := below_drw (Below.refl W.heap.size W) nq
  have HHQ := Lib.hid (HH.out.below hqb)
  have HKQ := Lib.hid (HK.out.add hqb)
  have HXQ := Lib.hid (HX.out.below hqb)
  clear x0 x1 hqb HH HK HX
  generalize W.drewN nq = V at *
  have x0 := HXQ.out.cell 0
  have x1 := HXQ.out.cell 1
  obtain ⟨z1, z2⟩ := HHQ.out.fz
  obtain ⟨a1, a2, a3, a4, a5, a6, a7⟩ := HHQ.out.proc hp'
  rw [HPH.out] at a3
  rw [HXD.out] at a4
  rw [HXS.out] at a5
  rw [HXX.out] at a6
  rw [HXC.out] at a2
  obtain ⟨-, b2, b3, -, b5⟩ := HHQ.out.cell hd'
  obtain ⟨-, e2, e3, -, e5⟩ := HHQ.out.cell hs'
  obtain ⟨-, f2, f3, -, f5⟩ := HHQ.out.cell hc'
  obtain ⟨-, g2, g3, -, g5⟩ := HHQ.out.cell hx'
  go_wp2_with fail
  clear x0 x1 z1 z2 a1 a2 a3 a4 a5 a6 a7 b2 b3 b5 e2 e3 e5 f2 f3 f5 g2 g3 g5
  go_ret
  exact ⟨by rw [HE.out]; rfl, by rw [HE.out]; exact HHQ.out, HKQ.out⟩
set_option maxRecDepth 100000 in
set_option maxHeartbeats 1600000 in
theorem act_18 (l : Ls) (n m p d s c x base G1 G2 c1 c2 : Nat) (w : World) (hn : l.cs.length = n) (hm : l.ps.length = m) (h : MemL w base G1 G2 c1 c2 l) (hp : p < m) (hd : d < n) (hs : s < n) (hc : c < n) (hx : x < n) (_m8 : m ≤ 8) (_n66 : n ≤ 66) (hxd : (l.pr p).pred = (d : Int)) (hxs : (l.pr p).succ = (s : Int)) (hxc : (l.pr p).cell = (c : Int)) (hxx : (l.pr p).next = (x : Int)) (hph : (l.pr p).phase = 18) :
    Calls Tryz.prog 57 #[.agg #[.slice (some ⟨G1, 0, none⟩) n c1, .slice (some ⟨G2, 0, none⟩) m c2], .int .i64 (p : Int)] w (OptP (stepV l p) l base G1 G2 c1 c2 w) := by
  have HE := Lib.hid (step_0 (p := p) (l := l) (.inr hph))
  have HK : Hid (Chg G1 G2 w _) := Lib.hid (Chg.of ((Below.refl w.heap.size w).alloc (Nat.le_refl _) (.cells #[.slice (some ⟨G1, 0, none⟩) n c1, .slice (some ⟨G2, 0, none⟩) m c2] 28)))
  have HH := Lib.hid (h.below ((Below.refl _ _).alloc (Nat.le_refl _) (.cells #[.slice (some ⟨G1, 0, none⟩) n c1, .slice (some ⟨G2, 0, none⟩) m c2] 28)))
  have HX := Lib.hid (Has.new w 28 #[.slice (some ⟨G1, 0, none⟩) n c1, .slice (some ⟨G2, 0, none⟩) m c2])
  have hbn : G1 < w.heap.size ∧ G2 < w.heap.size := ⟨h.cs.lt, h.ps.lt⟩
  have hne : ¬ G1 = G2 := h.ne
  have hne' : ¬ G2 = G1 := fun e => h.ne e.symm
  have HN := Lib.hid hn
  have HM := Lib.hid hm
  have hp' : p < l.ps.length := by rw [hm]; exact hp
  have hd' : d < l.cs.length := by rw [hn]; exact hd
  have hs' : s < l.cs.length := by rw [hn]; exact hs
  have hc' : c < l.cs.length := by rw [hn]; exact hc
  have hx' : x < l.cs.length := by rw [hn]; exact hx
  have p0 : (0 : Int) ≤ (p : Int) := by omega
  have p1 : (p : Int) < (m : Int) := by omega
  have r0 : (0 : Int) ≤ (d : Int) := by omega
  have r1 : (d : Int) < (n : Int) := by omega
  have q0 : (0 : Int) ≤ (s : Int) := by omega
  have q1 : (s : Int) < (n : Int) := by omega
  have t0 : (0 : Int) ≤ (c : Int) := by omega
  have t1 : (c : Int) < (n : Int) := by omega
  have u0 : (0 : Int) ≤ (x : Int) := by omega
  have u1 : (x : Int) < (n : Int) := by omega
  have HXD := Lib.hid hxd
  have HXS := Lib.hid hxs
  have HXC := Lib.hid hxc
  have HXX := Lib.hid hxx
  have HPH := Lib.hid hph
  obtain ⟨O, hO⟩ : ∃ O, O = stepV l p := ⟨_, rfl⟩
  rw [← hO] at HE ⊢
  clear h hn hm hxd hxs hxc hxx hph hO
  go_enter Tryz.func57, Tryz.ntmps57
  go_upto_region 1 with fail
  generalize w.alloc (.cells #[.slice (some ⟨G1, 0, none⟩) n c1, .slice (some ⟨G2, 0, none⟩) m c2] 28) = W at *
  obtain ⟨B, hB⟩ : ∃ B, B = w.heap.size := ⟨_, rfl⟩
  rw [← hB] at HX hbn ⊢
  clear hB
  have x0 := HX.out.cell 0
  have x1 := HX.out.cell 1
  go_quiet (fail)
  have hqb := below_drw (Below.refl W.heap.size W) nq
  have HHQ := Lib.hid (HH.out.below hqb)
  have HKQ := Lib.hid (HK.out.add hqb)
  have HXQ := Lib.hid (HX.out.below hqb)
  clear x0 x1 hqb HH HK HX
  generalize W.drewN nq = V at *
  have x0 := HXQ.out.cell 0
  have x1 := HXQ.out.cell 1
  obtain ⟨z1, z2⟩ := HHQ.out.fz
  obtain ⟨a1, a2, a3, a4, a5, a6, a7⟩ := HHQ.out.proc hp'
  rw [HPH.out] at a3
  rw [HXD.out] at a4
  rw [HXS.out] at a5
  rw [HXX.out] at a6
  rw [HXC.out] at a2
  obtain ⟨-, b2, b3, -, b5⟩ := HHQ.out.cell hd'
  obtain ⟨-, e2, e3, -, e5⟩ := HHQ.out.cell hs'
  obtain ⟨-, f2, f3, -, f5⟩ := HHQ.out.cell hc'
  obtain ⟨-, g2, g3, -, g5⟩ := HHQ.out.cell hx'
  go_wp2_with fail
  clear x0 x1 z1 z2 a1 a2 a3 a4 a5 a6 a7 b2 b3 b5 e2 e3 e5 f2 f3 f5 g2 g3 g5
  go_ret
  exact ⟨by rw [HE.out]; rfl, by rw [HE.out]; exact HHQ.out, HKQ.out⟩
end Lk
end
end Go.Proofs.YtmhbloefmknikaaGreatDoor
