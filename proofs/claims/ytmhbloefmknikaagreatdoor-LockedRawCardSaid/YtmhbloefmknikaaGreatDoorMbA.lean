/-
  lock and unlock of the reference of chapter 11. Conditions: the list may be changed in place.
-/
import Derived.Test.YtmhbloefmknikaaGreatDoorLzD
namespace Go.Proofs.YtmhbloefmknikaaGreatDoor
open Go.RowKit Go.Maps
namespace Lk
def rlkV (l : Ls) (p c : Nat) : Option Ls := if (l.at_ c).lock ≠ 0 then none else some (l.setC c { l.at_ c with lock := (p : Int) + 1 })
set_option maxRecDepth 100000 in
set_option maxHeartbeats 1600000 in
theorem rlock_any (l : Ls) (n m p c base G1 G2 c1 c2 : Nat) (w : World) (hn : l.cs.length = n) (_hm : l.ps.length = m) (h : MemL w base G1 G2 c1 c2 l) (hp : p < m) (hc : c < n) (m8 : m ≤ 8) :
    Calls Tryz.prog 104 #[.agg #[.slice (some ⟨G1, 0, none⟩) n c1, .slice (some ⟨G2, 0, none⟩) m c2], .int .i64 (p : Int), .int .i64 (c : Int)] w (OptP (rlkV l p c) l base G1 G2 c1 c2 w) := by
  have HK : Hid (Chg G1 G2 w _) := Lib.hid (Chg.of ((Below.refl w.heap.size w).alloc (Nat.le_refl _) (.cells #[.slice (some ⟨G1, 0, none⟩) n c1, .slice (some ⟨G2, 0, none⟩) m c2] 28)))
  have HH := Lib.hid (h.below ((Below.refl _ _).alloc (Nat.le_refl _) (.cells #[.slice (some ⟨G1, 0, none⟩) n c1, .slice (some ⟨G2, 0, none⟩) m c2] 28)))
  have HX := Lib.hid (Has.new w 28 #[.slice (some ⟨G1, 0, none⟩) n c1, .slice (some ⟨G2, 0, none⟩) m c2])
  have hbn : G1 < w.heap.size ∧ G2 < w.heap.size := ⟨h.cs.lt, h.ps.lt⟩
  have HN := Lib.hid hn
  have q0 : (0 : Int) ≤ (c : Int) := by omega
  have q1 : (c : Int) < (n : Int) := by omega
  have hw : IntKind.i64.wrap ((p : Int) + 1) = (p : Int) + 1 := IntWalk.i64_in _ (by omega)
  clear h hn
  go_enter Tryz.func104, Tryz.ntmps104
  go_upto_region 1 with fail
  generalize w.alloc (.cells #[.slice (some ⟨G1, 0, none⟩) n c1, .slice (some ⟨G2, 0, none⟩) m c2] 28) = W at *
  have x0 := HX.out.cell 0
  have x1 := HX.out.cell 1
  have hX1 : ¬ w.heap.size = G1 := by omega
  have hX2 : ¬ w.heap.size = G2 := by omega
  obtain ⟨z1, z2⟩ := HH.out.fz
  obtain ⟨b1, b2, b3, b4, b5⟩ := HH.out.cell (i := c) (by rw [HN.out]; exact hc)
  by_cases hl : (l.at_ c).lock = 0
  · have e : rlkV l p c = some (l.setC c { l.at_ c with lock := (p : Int) + 1 }) := by unfold rlkV; rw [if_neg (fun q => q hl)]
    have HE := Lib.hid e
    have hd : ((l.at_ c).lock != 0) = false := by simp [hl]
    clear e hl
    go_wp2_with fail
    clear x0 x1 z1 z2 b1 b2 b3 b4 b5 hd hw
    go_ret
    have hc' : c < l.cs.length := by rw [HN.out]; exact hc
    refine ⟨by rw [HE.out]; rfl, by rw [HE.out]; exact (HH.out.initC hc').upC hc' 3 (by decide) (.int .i64 ((p : Int) + 1)) { l.at_ c with lock := (p : Int) + 1 } rfl, ?_⟩
    exact HK.out.set1 _ _
  · have e : rlkV l p c = none := by unfold rlkV; rw [if_pos hl]
    have HE := Lib.hid e
    have hd : ((l.at_ c).lock != 0) = true := by simpa using hl
    clear e hl
    go_wp2_with fail
    go_ret
    exact ⟨by rw [HE.out]; rfl, by rw [HE.out]; exact HH.out, HK.out⟩
set_option maxRecDepth 100000 in
set_option maxHeartbeats 1600000 in
/-- All cells that a process has locked are unlocked. -/
theorem runlock_any (l : Ls) (n m p base G1 G2 c1 c2 : Nat) (w : World) (hn : l.cs.length = n) (_hm : l.ps.length = m) (h : MemL w base G1 G2 c1 c2 l) (hp : p < m) (m8 : m ≤ 8) (n66 : n ≤ 66) :
    Calls Tryz.prog 106 #[.agg #[.slice (some ⟨G1, 0, none⟩) n c1, .slice (some ⟨G2, 0, none⟩) m c2], .int .i64 (p : Int)] w (StP (l.free p) base G1 G2 c1 c2 (.tuple #[]) w) := by
  have HN := Lib.hid hn
  have HH := Lib.hid h
  have HF := Lib.hid (fun (W : World) (k : MemL W base G1 G2 c1 c2 (freeK l p n)) => (by rw [← free_all l p, hn]; exact k : MemL W base G1 G2 c1 c2 (l.free p)))
  have HB : Hid (Chg G1 G2 w _) := Lib.hid (Chg.of ((Below.refl w.heap.size w).alloc (Nat.le_refl _) (.cells #[.slice (some ⟨G1, 0, none⟩) n c1, .slice (some ⟨G2, 0, none⟩) m c2] 28)))
  have HZ : Hid (MemL _ base G1 G2 c1 c2 (freeK l p 0)) := Lib.hid (by rw [free_zero]; exact h.below ((Below.refl _ _).alloc (Nat.le_refl _) (.cells #[.slice (some ⟨G1, 0, none⟩) n c1, .slice (some ⟨G2, 0, none⟩) m c2] 28)))
  have HX := Lib.hid (Has.new w 28 #[.slice (some ⟨G1, 0, none⟩) n c1, .slice (some ⟨G2, 0, none⟩) m c2])
  have hbn : G1 < w.heap.size ∧ G2 < w.heap.size := ⟨h.cs.lt, h.ps.lt⟩
  have hX1 : ¬ w.heap.size = G1 := by omega
  have hX2 : ¬ w.heap.size = G2 := by omega
  have hw : IntKind.i64.wrap ((p : Int) + 1) = (p : Int) + 1 := IntWalk.i64_in _ (by omega)
  clear h hn
  go_enter Tryz.func106, Tryz.ntmps106
  go_upto_region 1 with fail
  generalize w.alloc (.cells #[.slice (some ⟨G1, 0, none⟩) n c1, .slice (some ⟨G2, 0, none⟩) m c2] 28) = W at *
  go_wp2_with fail
  go_loopw [4] (fun vi wr => ∃ i : Nat, vi = .int .i64 (i : Int) ∧ i ≤ n ∧ MemL wr base G1 G2 c1 c2 (freeK l p i) ∧ Chg G1 G2 W wr) (fun vi _ => n - (intOf vi).toNat)
  case atStart => exact ⟨0, rfl, by omega, HZ.out, Chg.refl⟩
  case round =>
    obtain ⟨i, rfl, hi, hM, hB⟩ := hrel
    have HMW := Lib.hid hM
    have HBW := Lib.hid hB
    have HXW := Lib.hid (hB.has HX.out hX1 hX2)
    have x0 := HXW.out.cell 0
    have x1 := HXW.out.cell 1
    clear hM hB
    by_cases hlt : i < n
    · have i0 : (0 : Int) ≤ (i : Int) := by omega
      have i1 : (i : Int) < (n : Int) := by omega
      have hi' : i < (freeK l p i).cs.length := by rw [free_len, HN.out]; exact hlt
      obtain ⟨b1, b2, b3, b4, b5⟩ := HMW.out.cell hi'
      obtain ⟨z1, z2⟩ := HMW.out.fz
      have e := free_at l p i
      rw [e] at b1 b2 b3 b4 b5
      by_cases hl : (l.at_ i).lock = (p : Int) + 1
      · have hz : ((l.at_ i).lock == (p : Int) + 1) = true := by simpa using hl
        have HNX := Lib.hid (free_next (by rw [HN.out]; exact hlt) hl)
        have HEQ := Lib.hid e
        clear e
        go_wp2_with fail
        refine ⟨⟨i + 1, by go_num, hlt, ?_, HBW.out.set1 _ _⟩, by simp [intOf]; omega⟩
        rw [HNX.out]
        exact HMW.out.setC hi' 3 (by decide) _ _ (by rw [HEQ.out]; rfl)
      · have hz : ((l.at_ i).lock == (p : Int) + 1) = false := by simpa using hl
        have HNX := Lib.hid (free_skip (by rw [HN.out]; exact hlt) hl)
        clear e
        go_wp2_with fail
        exact ⟨⟨i + 1, by go_num, hlt, by rw [HNX.out]; exact HMW.out, HBW.out⟩, by simp [intOf]; omega⟩
    · obtain rfl : i = n := by omega
      have HR := Lib.hid (HF.out _ HMW.out)
      clear HF HMW
      go_wp2_with fail
      go_end0
      exact ⟨rfl, HR.out, HB.out.trans HBW.out⟩
end Lk
end Go.Proofs.YtmhbloefmknikaaGreatDoor
