/-
  Steps of package locked in place: lock, lockNext, unlock, find and decide. Conditions: the list is valid and may be changed in place.
-/
import Derived.Test.YtgmffgdhijcfcaaDoorKzD
namespace Go.Proofs.YtgmffgdhijcfcaaDoor
open Go.RowKit Go.Maps
namespace Lk

/-- What a call leaves that may change a list in place, and says whether it did. -/
def OptP (o : Option Ls) (l : Ls) (base G1 G2 c1 c2 : Nat) (w : World) (e : Ending) (w' : World) : Prop := e = .returned (.bool o.isSome) ∧ MemL w' base G1 G2 c1 c2 (o.getD l) ∧ Chg G1 G2 w w'
def lokV (l : Ls) (p c : Nat) (ph : Int) : Option Ls := if (l.at_ c).lock ≠ 0 then none else some ((l.setC c { l.at_ c with lock := (p : Int) + 1 }).setP p { l.pr p with phase := ph })
set_option maxRecDepth 100000 in
set_option maxHeartbeats 1600000 in
theorem lock_any (l : Ls) (n m p c base G1 G2 c1 c2 : Nat) (ph : Int) (w : World) (hn : l.cs.length = n) (hm : l.ps.length = m) (h : MemL w base G1 G2 c1 c2 l) (hp : p < m) (hc : c < n) (m8 : m ≤ 8) :
    Calls Tryd.prog 71 #[.agg #[.slice (some ⟨G1, 0, none⟩) n c1, .slice (some ⟨G2, 0, none⟩) m c2], .int .i64 (p : Int), .int .i64 (c : Int), .int .i64 ph] w (OptP (lokV l p c ph) l base G1 G2 c1 c2 w) := by
  have HK : Hid (Chg G1 G2 w _) := Lib.hid (Chg.of ((Below.refl w.heap.size w).alloc (Nat.le_refl _) (.cells #[.slice (some ⟨G1, 0, none⟩) n c1, .slice (some ⟨G2, 0, none⟩) m c2] 35)))
  have HH := Lib.hid (h.below ((Below.refl _ _).alloc (Nat.le_refl _) (.cells #[.slice (some ⟨G1, 0, none⟩) n c1, .slice (some ⟨G2, 0, none⟩) m c2] 35)))
  have HX := Lib.hid (Has.new w 35 #[.slice (some ⟨G1, 0, none⟩) n c1, .slice (some ⟨G2, 0, none⟩) m c2])
  have hbn : G1 < w.heap.size ∧ G2 < w.heap.size := ⟨h.cs.lt, h.ps.lt⟩
  have hne := h.ne
  have HN := Lib.hid hn
  have HM := Lib.hid hm
  have p0 : (0 : Int) ≤ (p : Int) := by omega
  have p1 : (p : Int) < (m : Int) := by omega
  have q0 : (0 : Int) ≤ (c : Int) := by omega
  have q1 : (c : Int) < (n : Int) := by omega
  have hw : IntKind.i64.wrap ((p : Int) + 1) = (p : Int) + 1 := IntWalk.i64_in _ (by omega)
  clear h hn hm
  go_enter Tryd.func71, Tryd.ntmps71
  go_upto_region 1 with fail
  generalize w.alloc (.cells #[.slice (some ⟨G1, 0, none⟩) n c1, .slice (some ⟨G2, 0, none⟩) m c2] 35) = W at *
  have x0 := HX.out.cell 0
  have x1 := HX.out.cell 1
  have hX1 : ¬ w.heap.size = G1 := by omega
  have hX2 : ¬ w.heap.size = G2 := by omega
  obtain ⟨z1, z2⟩ := HH.out.fz
  obtain ⟨a1, a2, a3, a4, a5, a6, a7⟩ := HH.out.proc (i := p) (by rw [HM.out]; exact hp)
  obtain ⟨b1, b2, b3, b4, b5⟩ := HH.out.cell (i := c) (by rw [HN.out]; exact hc)
  by_cases hl : (l.at_ c).lock = 0
  · have e : lokV l p c ph = some ((l.setC c { l.at_ c with lock := (p : Int) + 1 }).setP p { l.pr p with phase := ph }) := by unfold lokV; rw [if_neg (fun q => q hl)]
    have HE := Lib.hid e
    have hd : ((l.at_ c).lock != 0) = false := by simp [hl]
    clear e hl
    go_wp2_with fail
    clear x0 x1 z1 z2 a1 a2 a3 a4 a5 a6 a7 b1 b2 b3 b4 b5 hd hw
    go_ret
    have hp' : p < l.ps.length := by rw [HM.out]; exact hp
    have hc' : c < l.cs.length := by rw [HN.out]; exact hc
    refine ⟨by rw [HE.out]; rfl, by rw [HE.out]; exact ((HH.out.initC hc').upC hc' 3 (by decide) (.int .i64 ((p : Int) + 1)) { l.at_ c with lock := (p : Int) + 1 } rfl).setP hp' 2 (by decide) (.int .i64 ph) { l.pr p with phase := ph } rfl, ?_⟩
    exact (HK.out.set1 _ _).set2 _ _
  · have e : lokV l p c ph = none := by unfold lokV; rw [if_pos hl]
    have HE := Lib.hid e
    have hd : ((l.at_ c).lock != 0) = true := by simpa using hl
    clear e hl
    go_wp2_with fail
    go_ret
    exact ⟨by rw [HE.out]; rfl, by rw [HE.out]; exact HH.out, HK.out⟩

/-- The first k cells freed. -/
def freeK (l : Ls) (p k : Nat) : Ls := { l with cs := (l.cs.take k).map (fun c => if c.lock = (p : Int) + 1 then { c with lock := 0 } else c) ++ l.cs.drop k }
theorem free_zero (l : Ls) (p : Nat) : freeK l p 0 = l := by simp [freeK]
theorem free_all (l : Ls) (p : Nat) : freeK l p l.cs.length = l.free p := by simp [freeK, Ls.free]
theorem free_len (l : Ls) (p k : Nat) : (freeK l p k).cs.length = l.cs.length := by simp [freeK]; omega
theorem free_at (l : Ls) (p k : Nat) : (freeK l p k).at_ k = l.at_ k := by
  unfold Ls.at_ freeK
  simp only [List.getD_eq_getElem?_getD]
  by_cases h : k < l.cs.length
  · rw [List.getElem?_append_right (by simp; omega)]
    simp [Nat.min_eq_left (Nat.le_of_lt h)]
  · rw [List.getElem?_eq_none (by simp; omega), List.getElem?_eq_none (by omega)]
theorem free_succ {l : Ls} {p k : Nat} (h : k < l.cs.length) (y : Ce) (hy : y = if (l.at_ k).lock = (p : Int) + 1 then { l.at_ k with lock := 0 } else l.at_ k) : freeK l p (k + 1) = (freeK l p k).setC k y := by
  unfold freeK Ls.setC
  simp only
  have e : ((l.cs.take k).map (fun c : Ce => if c.lock = (p : Int) + 1 then { c with lock := 0 } else c)).length = k := by simp; omega
  rw [List.set_append_right _ _ (by omega), e, Nat.sub_self, List.drop_eq_getElem_cons h, List.set_cons_zero, List.take_succ_eq_append_getElem h, List.map_append, List.append_assoc]
  rw [l.at_lt h, hy]
  simp only [List.map_cons, List.map_nil, List.cons_append, List.nil_append]
theorem free_next {l : Ls} {p k : Nat} (h : k < l.cs.length) (hl : (l.at_ k).lock = (p : Int) + 1) : freeK l p (k + 1) = (freeK l p k).setC k { l.at_ k with lock := 0 } := free_succ h _ (by rw [if_pos hl])
theorem free_skip {l : Ls} {p k : Nat} (h : k < l.cs.length) (hl : ¬ (l.at_ k).lock = (p : Int) + 1) : freeK l p (k + 1) = freeK l p k := by
  rw [free_succ h (l.at_ k) (by rw [if_neg hl])]
  conv => lhs; rw [← free_at l p k]
  exact Ls.setC_at _ (by rw [free_len]; exact h)
set_option maxRecDepth 100000 in
set_option maxHeartbeats 1600000 in
/-- All cells that a process has locked are unlocked. -/
theorem unlock_any (l : Ls) (n m p base G1 G2 c1 c2 : Nat) (w : World) (hn : l.cs.length = n) (hm : l.ps.length = m) (h : MemL w base G1 G2 c1 c2 l) (hp : p < m) (m8 : m ≤ 8) (n66 : n ≤ 66) :
    Calls Tryd.prog 73 #[.slice (some ⟨G1, 0, none⟩) n c1, .int .i64 (p : Int)] w (StP (l.free p) base G1 G2 c1 c2 (.tuple #[]) w) := by
  have HN := Lib.hid hn
  have HM := Lib.hid hm
  have HH := Lib.hid h
  have HF := Lib.hid (fun (W : World) (k : MemL W base G1 G2 c1 c2 (freeK l p n)) => (by rw [← free_all l p, hn]; exact k : MemL W base G1 G2 c1 c2 (l.free p)))
  have HB : Hid (Chg G1 G2 w w) := Lib.hid Chg.refl
  have HZ : Hid (MemL w base G1 G2 c1 c2 (freeK l p 0)) := Lib.hid (by rw [free_zero]; exact h)
  have hw : IntKind.i64.wrap ((p : Int) + 1) = (p : Int) + 1 := IntWalk.i64_in _ (by omega)
  clear h hn hm
  go_enter Tryd.func73, Tryd.ntmps73
  go_wp2_with fail
  go_loopw [7] (fun vi wr => ∃ i : Nat, vi = .int .i64 (i : Int) ∧ i ≤ n ∧ MemL wr base G1 G2 c1 c2 (freeK l p i) ∧ Chg G1 G2 w wr) (fun vi _ => n - (intOf vi).toNat)
  case atStart => exact ⟨0, rfl, by omega, HZ.out, HB.out⟩
  case round =>
    obtain ⟨i, rfl, hi, hM, hB⟩ := hrel
    have HMW := Lib.hid hM
    have HBW := Lib.hid hB
    clear hM hB
    by_cases hlt : i < n
    · have i0 : (0 : Int) ≤ (i : Int) := by omega
      have i1 : (i : Int) < (n : Int) := by omega
      have hi' : i < (freeK l p i).cs.length := by rw [free_len, HN.out]; exact hlt
      obtain ⟨b1, b2, b3, b4, b5⟩ := HMW.out.cell hi'
      obtain ⟨z1, z2⟩ := HMW.out.fz
      have e := free_at l p i
      rw [e] at b1 b2 b3 b4 b5
      by_cases hl : (l.at_ i).lock = (p : Int) + 1
      · have hz : decide ((l.at_ i).lock = (p : Int) + 1) = true := decide_eq_true hl
        have HNX := Lib.hid (free_next (by rw [HN.out]; exact hlt) hl)
        have HEQ := Lib.hid e
        clear e
        go_wp2_with fail
        refine ⟨⟨i + 1, by go_num, hlt, ?_, HBW.out.set1 _ _⟩, by simp [intOf]; omega⟩
        rw [HNX.out]
        exact HMW.out.setC hi' 3 (by decide) _ _ (by rw [HEQ.out]; rfl)
      · have hz : decide ((l.at_ i).lock = (p : Int) + 1) = false := decide_eq_false hl
        have HNX := Lib.hid (free_skip (by rw [HN.out]; exact hlt) hl)
        clear e
        go_wp2_with fail
        exact ⟨⟨i + 1, by go_num, hlt, by rw [HNX.out]; exact HMW.out, HBW.out⟩, by simp [intOf]; omega⟩
    · obtain rfl : i = n := by omega
      have HR := Lib.hid (HF.out _ HMW.out)
      clear HF HMW
      go_wp2_with fail
      go_end0
      exact ⟨rfl, HR.out, HBW.out⟩
end Lk
end Go.Proofs.YtgmffgdhijcfcaaDoor
