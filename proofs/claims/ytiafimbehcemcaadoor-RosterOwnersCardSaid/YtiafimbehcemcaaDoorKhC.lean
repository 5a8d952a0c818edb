/-
  The library's exchange of ranges, rotation and merge in place at a row of nodes: what they leave. Condition: the row is as the sort holds it.
-/
import Derived.Test.YtiafimbehcemcaaDoorKhB
import Derived.Test.YtiafimbehcemcaaDoorKgD
namespace Go.Proofs.YtiafimbehcemcaaDoor
open Go.RowKit

/-- The row of the sort holds the numbered nodes in the order of G. -/
def SG (F : Nat → Nd) (n : Nat) (w0 : World) (g : Nat) (pad : List Value) (W : World) (G : Nat → Nat) : Prop := ∃ d, SRel w0 g pad W d ∧ Rp F n d G
section
variable {F : Nat → Nd} {n : Nat} {w0 W W' : World} {g : Nat} {pad : List Value} {G : Nat → Nat}
theorem SG.below (h : SG F n w0 g pad W G) (k : Below W.heap.size W W') : SG F n w0 g pad W' G := by
  obtain ⟨d, h1, h2⟩ := h
  exact ⟨d, h1.below k, h2⟩
theorem SG.lt (h : SG F n w0 g pad W G) : g < W.heap.size := by
  obtain ⟨d, h1, _⟩ := h
  exact h1.2.lt
theorem SG.less {B : Nat} (hL : LessN B w0 g pad n) (h : SG F n w0 g pad W G) {i j : Nat} (hi : i < n) (hj : j < n) :
    Calls Tryd.prog 107 #[.int .i64 (i : Int), .int .i64 (j : Int), .pointer (some ⟨B, 0, none⟩)] W fun e W' => e = .returned (.bool (nlt (F (G i)) (F (G j)))) ∧ Below W.heap.size W W' := by
  obtain ⟨d, h1, h2⟩ := h
  rw [← h2.2 i hi, ← h2.2 j hj]
  exact hL W d h1 h2.1 i j hi hj
theorem SG.swap {sf : Nat} {sb : Array Value} (hSw : ∀ w1, SwapN sf sb w1 g pad n) (h : SG F n w0 g pad W G) {i j : Nat} (hi : i < n) (hj : j < n) (hij : i ≠ j) :
    ∃ W', (callFunc sf (#[.int .i64 (i : Int), .int .i64 (j : Int)] ++ sb)).run Tryd.prog W = .ok (.value (.tuple #[])) W' ∧ SG F n w0 g pad W' (sw i j G) ∧ W.grownBy W' (some g) := by
  obtain ⟨d, h1, h2⟩ := h
  obtain ⟨W', r, s, _⟩ := hSw W W d (SRel.start h1.2) h2.1 i j hi hj hij
  exact ⟨W', r, ⟨_, s.base h1.1, h2.swap hi hj⟩, s.1⟩
theorem has_aside {w1 : World} (k : w1.grownBy W (some g)) {X : Nat} {t : TypeId} {cs : Array Value} (hX : Has w1 X t cs) (hne : X ≠ g) : Has W X t cs := (k.block X hX.lt (fun e => hne (Option.some.inj e))).trans hX
theorem grown_of (k : Below W.heap.size W W') : W.grownBy W' (some g) := ⟨k.os, k.tape, k.output, k.size, fun i hi _ => k.block i hi⟩
end
/-- What such a call leaves. -/
def SwP (F : Nat → Nd) (n : Nat) (w0 : World) (g : Nat) (pad : List Value) (G' : Nat → Nat) (w : World) (e : Ending) (w' : World) : Prop := e = .returned (.tuple #[]) ∧ w.grownBy w' (some g) ∧ SG F n w0 g pad w' G'

set_option maxRecDepth 100000 in
set_option maxHeartbeats 1600000 in
theorem swapR (F : Nat → Nd) (B g n : Nat) (pad : List Value) (w0 : World) (sf : Nat) (sb : Array Value) (hSw : ∀ w1, SwapN sf sb w1 g pad n) (hn : n ≤ 1000000) (a b m : Nat) (hab : a + m ≤ b) (hb : b + m ≤ n) (G : Nat → Nat) (w : World) (hs : SG F n w0 g pad w G) :
    Calls Tryd.prog 175 #[.agg #[.func (.func 107) #[] #[.pointer (some ⟨B, 0, none⟩)], .func (.func sf) #[] sb], .int .i64 (a : Int), .int .i64 (b : Int), .int .i64 (m : Int)] w (SwP F n w0 g pad (swr a b m G) w) := by
  obtain ⟨w1, hw1⟩ : ∃ w1, w1 = w.alloc (.cells #[.func (.func 107) #[] #[.pointer (some ⟨B, 0, none⟩)], .func (.func sf) #[] sb] 186) := ⟨_, rfl⟩
  have hbw : Below w.heap.size w w1 := by rw [hw1]; exact (Below.refl _ _).alloc (Nat.le_refl _) _
  have hX : Has w1 w.heap.size 186 #[.func (.func 107) #[] #[.pointer (some ⟨B, 0, none⟩)], .func (.func sf) #[] sb] := by rw [hw1]; exact Has.new _ _ _
  have hXg : w.heap.size ≠ g := by have := hs.lt; omega
  have HK := Lib.hid (grown_of (g := g) hbw)
  have HSW := Lib.hid (fun (W : World) (G' : Nat → Nat) (h : SG F n w0 g pad W G') (i j : Nat) (hi : i < n) (hj : j < n) (hij : i ≠ j) => h.swap hSw hi hj hij)
  have hs1 := hs.below hbw
  clear hs hSw hbw
  go_enter Tryd.func175, Tryd.ntmps175
  go_wp2_with fail
  rw [← hw1]
  clear hw1
  go_loopw [8] (fun vi wr => ∃ i : Nat, vi = .int .i64 (i : Int) ∧ i ≤ m ∧ w1.grownBy wr (some g) ∧ SG F n w0 g pad wr (swr a b i G)) (fun vi _ => m - (intOf vi).toNat)
  case atStart => exact ⟨0, rfl, Nat.zero_le _, grownBy_refl _ _, by rw [swr_zero]; exact hs1⟩
  case round =>
    clear hs1
    obtain ⟨i, rfl, him, hgr, hs⟩ := hrel
    by_cases hlt : i < m
    · have hX2 := has_aside hgr hX hXg
      have x1 := hX2.cell 1
      obtain ⟨w2, hr2, hs2, hg2⟩ := HSW.out wr _ hs (a + i) (b + i) (by omega) (by omega) (by omega)
      rw [swr_next (by omega)] at hs2
      rw [show ((a + i : Nat) : Int) = (a : Int) + (i : Int) by omega, show ((b + i : Nat) : Int) = (b : Int) + (i : Int) by omega] at hr2
      have hz : (i : Int) < (m : Int) := by omega
      clear hX2 hs
      go_wp2_with fail
      exact ⟨⟨i + 1, by go_num, hlt, grownBy_trans hgr hg2, hs2⟩, by simp [intOf]; omega⟩
    · have e : i = m := by omega
      subst e
      have hz : ¬ (i : Int) < (i : Int) := by omega
      go_wp2_with fail
      go_end0
      exact ⟨rfl, grownBy_trans HK.out hgr, hs⟩

set_option maxRecDepth 100000 in
set_option maxHeartbeats 1600000 in
theorem rotate (F : Nat → Nd) (B g n : Nat) (pad : List Value) (w0 : World) (sf : Nat) (sb : Array Value) (hSw : ∀ w1, SwapN sf sb w1 g pad n) (hn : n ≤ 1000000) (a m b : Nat) (ham : a < m) (hmb : m < b) (hb : b ≤ n) (G : Nat → Nat) (w : World) (hs : SG F n w0 g pad w G) :
    Calls Tryd.prog 174 #[.agg #[.func (.func 107) #[] #[.pointer (some ⟨B, 0, none⟩)], .func (.func sf) #[] sb], .int .i64 (a : Int), .int .i64 (m : Int), .int .i64 (b : Int)] w (SwP F n w0 g pad (rot a m b G) w) := by
  obtain ⟨w1, hw1⟩ : ∃ w1, w1 = w.alloc (.cells #[.func (.func 107) #[] #[.pointer (some ⟨B, 0, none⟩)], .func (.func sf) #[] sb] 186) := ⟨_, rfl⟩
  have hbw : Below w.heap.size w w1 := by rw [hw1]; exact (Below.refl _ _).alloc (Nat.le_refl _) _
  have hX : Has w1 w.heap.size 186 #[.func (.func 107) #[] #[.pointer (some ⟨B, 0, none⟩)], .func (.func sf) #[] sb] := by rw [hw1]; exact Has.new _ _ _
  have hXg : w.heap.size ≠ g := by have := hs.lt; omega
  have HK := Lib.hid (grown_of (g := g) hbw)
  have HR := Lib.hid (fun (W : World) (G' : Nat → Nat) (h : SG F n w0 g pad W G') (a b m : Nat) (h1 : a + m ≤ b) (h2 : b + m ≤ n) => swapR F B g n pad w0 sf sb hSw hn a b m h1 h2 G' W h)
  have hs1 := hs.below hbw
  have w1' : IntKind.i64.wrap ((m : Int) - (a : Int)) = ((m - a : Nat) : Int) := by rw [show (m : Int) - (a : Int) = ((m - a : Nat) : Int) by omega]; exact IntWalk.i64_in _ (by omega)
  have w2' : IntKind.i64.wrap ((b : Int) - (m : Int)) = ((b - m : Nat) : Int) := by rw [show (b : Int) - (m : Int) = ((b - m : Nat) : Int) by omega]; exact IntWalk.i64_in _ (by omega)
  clear hs hSw hbw
  go_enter Tryd.func174, Tryd.ntmps174
  go_wp2_with fail
  rw [← hw1]
  clear hw1
  go_loopw [8, 9] (fun vi vj wr => ∃ (i j : Nat) (H : Nat → Nat), vi = .int .i64 (i : Int) ∧ vj = .int .i64 (j : Int) ∧ 1 ≤ i ∧ 1 ≤ j ∧ i ≤ m - a ∧ j ≤ b - m ∧ w1.grownBy wr (some g) ∧ SG F n w0 g pad wr H ∧ Hid (rot (m - i) m (m + j) H = rot a m b G)) (fun vi vj _ => (intOf vi).toNat + (intOf vj).toNat)
  case atStart => exact ⟨m - a, b - m, G, by first | rfl | (congr 1; omega), by first | rfl | (congr 1; omega), by omega, by omega, Nat.le_refl _, Nat.le_refl _, grownBy_refl _ _, hs1, Lib.hid (by rw [show m - (m - a) = a by omega, show m + (b - m) = b by omega])⟩
  case round =>
    clear hs1 w1' w2'
    obtain ⟨i, j, H, rfl, rfl, hi1, hj1, him, hjb, hgr, hs, HE⟩ := hrel
    have hX2 := has_aside hgr hX hXg
    have x0 := hX2.cell 0
    have x1 := hX2.cell 1
    clear hX2
    rcases Nat.lt_trichotomy i j with hij | hij | hij
    · have hne : ((i : Int) != (j : Int)) = true := by simp; omega
      have hgt : ¬ (j : Int) < (i : Int) := by omega
      have HC := HR.out wr H hs (m - i) (m + j - i) i (by omega) (by omega)
      rw [show ((m - i : Nat) : Int) = (m : Int) - (i : Int) by omega, show ((m + j - i : Nat) : Int) = (m : Int) + (j : Int) - (i : Int) by omega] at HC
      have HC := Lib.hid HC
      have HRL := Lib.hid (rot_less (m := m) (i := i) (j := j) (by omega) hij H)
      clear hs
      go_wp2_with fail
      refine (HC.out).mono ?_
      rintro e w2 ⟨rfl, hg2, hs2⟩
      go_wp2_with fail
      exact ⟨⟨i, j - i, swr (m - i) (m + j - i) i H, rfl, by first | rfl | (congr 1; omega), hi1, by omega, him, by omega, grownBy_trans hgr hg2, hs2, Lib.hid (HRL.out.trans HE.out)⟩, by simp [intOf]; omega⟩
    · subst hij
      have hne : ((i : Int) != (i : Int)) = false := by simp
      have HC := HR.out wr H hs (m - i) m i (by omega) (by omega)
      rw [show ((m - i : Nat) : Int) = (m : Int) - (i : Int) by omega, rot_same (by omega), HE.out] at HC
      have HC := Lib.hid HC
      clear hs
      go_wp2_with fail
      refine (HC.out).mono ?_
      rintro e w2 ⟨rfl, hg2, hs2⟩
      go_wp2_with fail
      go_end0
      exact ⟨rfl, grownBy_trans HK.out (grownBy_trans hgr hg2), hs2⟩
    · have hne : ((i : Int) != (j : Int)) = true := by simp; omega
      have hgt : (j : Int) < (i : Int) := by omega
      have HC := HR.out wr H hs (m - i) m j (by omega) (by omega)
      rw [show ((m - i : Nat) : Int) = (m : Int) - (i : Int) by omega] at HC
      have HC := Lib.hid HC
      have HRL := Lib.hid (rot_more (m := m) (i := i) (j := j) (by omega) hij H)
      clear hs
      go_wp2_with fail
      refine (HC.out).mono ?_
      rintro e w2 ⟨rfl, hg2, hs2⟩
      go_wp2_with fail
      exact ⟨⟨i - j, j, swr (m - i) m j H, by first | rfl | (congr 1; omega), rfl, by omega, hj1, by omega, hjb, grownBy_trans hgr hg2, hs2, Lib.hid (HRL.out.trans HE.out)⟩, by simp [intOf]; omega⟩
end Go.Proofs.YtiafimbehcemcaaDoor
