/-
  less, isPhase, underWay, change, begin, decide and find of package lockfree. Conditions: the list can be read, or may be changed in place.
  find of package lockfree, in place. Conditions: the list may be changed in place, the indices are those of cells.
  act of package lockfree, phase by phase, in place. Conditions: the list may be changed in place, the indices are those of cells.
  Valid of package lockfree. Conditions: the list can be read, it has processes; no list is long.
  copied, Step of package lockfree. Conditions: the list can be read, it is valid.
-/
import Derived.Test.YtmhbloefmknikaaGreatDoorLzJ
import Derived.Test.YtmhbloefmknikaaGreatDoorOaA
namespace Go.Proofs.YtmhbloefmknikaaGreatDoor
section
open Go.RowKit Go.Maps
namespace Lf
open Lk
set_option maxRecDepth 100000 in
set_option maxHeartbeats 1600000 in
theorem less_any (A1 : Option Addr) (l : Ls) (n c1 a b lo : Nat) (w : World) (hn : l.cs.length = n) (hl : Ces w lo A1 l.cs) (ha : a < n) (hb : b < n) :
    Calls Tryz.prog 124 #[.slice A1 n c1, .int .i64 (a : Int), .int .i64 (b : Int)] w (Quiet (.bool (blw l a b)) w) := by
  obtain ⟨b1, o1, e1, -, h1, f1, -⟩ := hl.at_ (i := a) (by rw [hn]; exact ha)
  obtain ⟨b2, o2, e2, -, h2, g1, -⟩ := hl.at_ (i := b) (by rw [hn]; exact hb)
  subst e1
  injection e2 with e2
  injection e2 with e3 e4
  subst e3 e4
  rw [l.at_lt (by rw [hn]; exact ha)] at f1
  rw [l.at_lt (by rw [hn]; exact hb)] at g1
  have HB0 : Hid (Below w.heap.size w w) := Lib.hid (Below.refl _ _)
  have a0 : (0 : Int) ≤ (a : Int) := by omega
  have a1 : (a : Int) < (n : Int) := by omega
  have b0 : (0 : Int) ≤ (b : Int) := by omega
  have b3 : (b : Int) < (n : Int) := by omega
  clear hl ha hb
  by_cases q1 : a = 0
  · subst q1
    by_cases q2 : b = 0
    · subst q2
      rw [blw_irr]
      go_enter Tryz.func124, Tryz.ntmps124
      go_wp2_with fail
      go_ret
      exact ⟨rfl, HB0.out⟩
    · rw [blw_zero l q2]
      have e1 : ((0 : Int) != (b : Int)) = true := by simp; omega
      have e2 : ¬ ((0 : Int) = (b : Int)) := by omega
      go_enter Tryz.func124, Tryz.ntmps124
      go_wp2_with fail
      go_ret
      exact ⟨rfl, HB0.out⟩
  · have e1 : (((a : Int)) == 0) = false := by simp; omega
    have e2 : ¬ ((a : Int) = 0) := by omega
    by_cases q2 : b = 1
    · subst q2
      by_cases q3 : a = 1
      · subst q3
        rw [blw_irr]
        go_enter Tryz.func124, Tryz.ntmps124
        go_wp2_with fail
        go_ret
        exact ⟨rfl, HB0.out⟩
      · rw [blw_one l q3]
        have e3 : (((a : Int)) != 1) = true := by simp; omega
        have e4 : ¬ ((a : Int) = 1) := by omega
        go_enter Tryz.func124, Tryz.ntmps124
        go_wp2_with fail
        go_ret
        exact ⟨rfl, HB0.out⟩
    · have e3 : (((b : Int)) == 1) = false := by simp; omega
      have e4 : ¬ ((b : Int) = 1) := by omega
      by_cases q3 : a = 1
      · subst q3
        rw [blw_from1]
        go_enter Tryz.func124, Tryz.ntmps124
        go_wp2_with fail
        go_ret
        exact ⟨rfl, HB0.out⟩
      · have e5 : (((a : Int)) == 1) = false := by simp; omega
        have e6 : ¬ ((a : Int) = 1) := by omega
        by_cases q4 : b = 0
        · subst q4
          rw [blw_to0]
          go_enter Tryz.func124, Tryz.ntmps124
          go_wp2_with fail
          go_ret
          exact ⟨rfl, HB0.out⟩
        · have e7 : (((b : Int)) == 0) = false := by simp; omega
          have e8 : ¬ ((b : Int) = 0) := by omega
          rw [blw_key l (by omega) (by omega)]
          generalize (l.at_ a).key = ka at *
          generalize (l.at_ b).key = kb at *
          cases hk : kl ka kb
          · have t1 : Op.bytesLess ka.toList kb.toList = false := hk
            clear hk
            go_enter Tryz.func124, Tryz.ntmps124
            go_wp2_with fail
            go_quiet (fail)
            go_wp2_with fail
            go_ret
            exact ⟨rfl, below_drw HB0.out _⟩
          · have t1 : Op.bytesLess ka.toList kb.toList = true := hk
            clear hk
            go_enter Tryz.func124, Tryz.ntmps124
            go_wp2_with fail
            go_quiet (fail)
            go_wp2_with fail
            go_ret
            exact ⟨rfl, below_drw HB0.out _⟩
theorem isPhase_any (k : Int) (w : World) : Calls Tryz.prog 117 #[.int .i64 k] w (BoolI (isPh k) w) := by
  have HB0 : Hid (Below w.heap.size w w) := Lib.hid (Below.refl _ _)
  by_cases q0 : k = 0
  · subst q0
    go_enter Tryz.func117, Tryz.ntmps117
    go_wp2_with fail
    go_ret
    exact ⟨true, rfl, by simp [isPh], HB0.out⟩
  by_cases q1 : k = 1
  · subst q1
    go_enter Tryz.func117, Tryz.ntmps117
    go_wp2_with fail
    go_ret
    exact ⟨true, rfl, by simp [isPh], HB0.out⟩
  by_cases q2 : k = 14
  · subst q2
    go_enter Tryz.func117, Tryz.ntmps117
    go_wp2_with fail
    go_ret
    exact ⟨true, rfl, by simp [isPh], HB0.out⟩
  by_cases q3 : k = 6
  · subst q3
    go_enter Tryz.func117, Tryz.ntmps117
    go_wp2_with fail
    go_ret
    exact ⟨true, rfl, by simp [isPh], HB0.out⟩
  by_cases q4 : k = 15
  · subst q4
    go_enter Tryz.func117, Tryz.ntmps117
    go_wp2_with fail
    go_ret
    exact ⟨true, rfl, by simp [isPh], HB0.out⟩
  by_cases q5 : k = 16
  · subst q5
    go_enter Tryz.func117, Tryz.ntmps117
    go_wp2_with fail
    go_ret
    exact ⟨true, rfl, by simp [isPh], HB0.out⟩
  by_cases q6 : k = 17
  · subst q6
    go_enter Tryz.func117, Tryz.ntmps117
    go_wp2_with fail
    go_ret
    exact ⟨true, rfl, by simp [isPh], HB0.out⟩
  by_cases q7 : k = 18
  · subst q7
    go_enter Tryz.func117, Tryz.ntmps117
    go_wp2_with fail
    go_ret
    exact ⟨true, rfl, by simp [isPh], HB0.out⟩
  have d0 : (k == 0) = false := by simpa using q0
  have d1 : (k == 1) = false := by simpa using q1
  have d2 : (k == 14) = false := by simpa using q2
  have d3 : (k == 6) = false := by simpa using q3
  have d4 : (k == 15) = false := by simpa using q4
  have d5 : (k == 16) = false := by simpa using q5
  have d6 : (k == 17) = false := by simpa using q6
  have d7 : (k == 18) = false := by simpa using q7
  have HN : Hid (¬ isPh k) := Lib.hid (by unfold isPh; omega)
  go_enter Tryz.func117, Tryz.ntmps117
  go_wp2_with fail
  go_ret
  exact ⟨false, rfl, ⟨fun q => (by cases q), fun q => absurd q HN.out⟩, HB0.out⟩
theorem underWay_any (x : Po) (w : World) : Calls Tryz.prog 75 #[x.val] w (BoolI (x.phase ≠ 0 ∧ x.phase ≠ 18) w) := by
  obtain ⟨k, c, ph, pd, sc, nx, rs⟩ := x
  have HX := Lib.hid (Has.new w 63 #[.int .i64 k, .int .i64 c, .int .i64 ph, .int .i64 pd, .int .i64 sc, .int .i64 nx, .bool rs])
  have HB := Lib.hid ((Below.refl w.heap.size w).alloc (Nat.le_refl _) (.cells #[.int .i64 k, .int .i64 c, .int .i64 ph, .int .i64 pd, .int .i64 sc, .int .i64 nx, .bool rs] 63))
  have x2 := HX.out.cell 2
  by_cases h0 : ph = 0
  · subst h0
    go_enter Tryz.func75, Tryz.ntmps75
    go_wp2_with fail
    go_ret
    exact ⟨false, rfl, by simp, HB.out⟩
  · by_cases h1 : ph = 18
    · subst h1
      go_enter Tryz.func75, Tryz.ntmps75
      go_wp2_with fail
      go_ret
      exact ⟨false, rfl, by simp, HB.out⟩
    · have e0 : (ph != 0) = true := by simpa using h0
      have e1 : (ph != 18) = true := by simpa using h1
      go_enter Tryz.func75, Tryz.ntmps75
      go_wp2_with fail
      go_ret
      exact ⟨true, rfl, by simp; exact ⟨h0, h1⟩, HB.out⟩
/-- What change leaves; none: it changes nothing. -/
def chgV (l : Ls) (i : Nat) (e r : Int) (g : Bool) : Option Ls := if okI l i e then some (l.setC i { l.at_ i with right := r, gone := g }) else none
set_option maxRecDepth 100000 in
set_option maxHeartbeats 1600000 in
theorem change_any (l : Ls) (n i base G1 G2 c1 c2 : Nat) (e r : Int) (g : Bool) (w : World) (hn : l.cs.length = n) (h : MemL w base G1 G2 c1 c2 l) (hi : i < n) :
    Calls Tryz.prog 120 #[.pointer (some ⟨G1, i * 5, none⟩), .int .i64 e, .int .i64 r, .bool g] w (OptP (chgV l i e r g) l base G1 G2 c1 c2 w) := by
  have hi' : i < l.cs.length := by rw [hn]; exact hi
  have HK : Hid (Chg G1 G2 w w) := Lib.hid Chg.refl
  have HH := Lib.hid h
  obtain ⟨z1, z2⟩ := h.fz
  obtain ⟨b1, b2, b3, b4, b5⟩ := h.cell hi'
  clear h
  by_cases hg : (l.at_ i).gone = true
  · have HE : Hid (chgV l i e r g = none) := Lib.hid (by unfold chgV; rw [if_neg (fun q : okI l i e => by have := q.2; rw [hg] at this; cases this)])
    rw [hg] at b5
    go_enter Tryz.func120, Tryz.ntmps120
    go_wp2_with fail
    go_ret
    exact ⟨by rw [HE.out]; rfl, by rw [HE.out]; exact HH.out, HK.out⟩
  · have hg' : (l.at_ i).gone = false := by simpa using hg
    by_cases hr : (l.at_ i).right = e
    · have HE : Hid (chgV l i e r g = some (l.setC i { l.at_ i with right := r, gone := g })) := Lib.hid (by unfold chgV; rw [if_pos ⟨hr, hg'⟩])
      rw [hg'] at b5
      rw [hr] at b3
      have d1 : (e != e) = false := by simp
      clear hr hg hg'
      go_enter Tryz.func120, Tryz.ntmps120
      go_wp2_with fail
      clear b1 b2 b3 b4 b5 z1 z2
      go_ret
      refine ⟨by rw [HE.out]; rfl, by rw [HE.out]; exact ((HH.out.initC hi').upC hi' 2 (by decide) (.int .i64 r) { l.at_ i with right := r } rfl).upC hi' 4 (by decide) (.bool g) { l.at_ i with right := r, gone := g } rfl, ?_⟩
      exact (HK.out.set1 _ _).set1 _ _
    · have HE : Hid (chgV l i e r g = none) := Lib.hid (by unfold chgV; rw [if_neg (fun q : okI l i e => hr q.1)])
      rw [hg'] at b5
      have d1 : ((l.at_ i).right != e) = true := by simpa using hr
      clear hg hg'
      go_enter Tryz.func120, Tryz.ntmps120
      go_wp2_with fail
      go_ret
      exact ⟨by rw [HE.out]; rfl, by rw [HE.out]; exact HH.out, HK.out⟩
set_option maxRecDepth 100000 in
set_option maxHeartbeats 1600000 in
theorem begin_any (l : Ls) (n m p base G1 G2 c1 c2 : Nat) (w : World) (hn : l.cs.length = n) (hm : l.ps.length = m) (h : MemL w base G1 G2 c1 c2 l) (hp : p < m) (n0 : 0 < n) :
    Calls Tryz.prog 77 #[.slice (some ⟨G1, 0, none⟩) n c1, .pointer (some ⟨G2, p * 7, none⟩)] w (StP (agnV l p) base G1 G2 c1 c2 (.tuple #[]) w) := by
  have hp' : p < l.ps.length := by rw [hm]; exact hp
  have HK : Hid (Chg G1 G2 w w) := Lib.hid Chg.refl
  have HH := Lib.hid h
  obtain ⟨z1, z2⟩ := h.fz
  obtain ⟨a1, a2, a3, a4, a5, a6, a7⟩ := h.proc hp'
  obtain ⟨b1, b2, b3, b4, b5⟩ := h.cell (i := 0) (by rw [hn]; exact n0)
  have n1 : (0 : Int) < (n : Int) := by omega
  clear h hn hm
  go_enter Tryz.func77, Tryz.ntmps77
  go_wp2_with fail
  clear z1 z2 a1 a2 a3 a4 a5 a6 a7 b1 b2 b3 b4 b5
  go_end0
  refine ⟨rfl, (((HH.out.init hp').up hp' 3 (by decide) _ { l.pr p with pred := 0 } rfl).up hp' 4 (by decide) _ { l.pr p with pred := 0, succ := (l.at_ 0).right } rfl).up hp' 2 (by decide) _ _ rfl, ?_⟩
  exact ((HK.out.set2 _ _).set2 _ _).set2 _ _
/-- What decide leaves. -/
def dcdV (l : Ls) (p : Nat) : Ls :=
  if (l.pr p).kind = 3 then l.setP p { l.pr p with res := decide ((l.pr p).succ = (l.pr p).cell), phase := 18 }
  else if (l.pr p).kind = 1 then l.setP p { l.pr p with phase := 6 }
  else if (l.pr p).succ = (l.pr p).cell then l.setP p { l.pr p with phase := 16 }
  else l.setP p { l.pr p with phase := 18 }
set_option maxRecDepth 100000 in
set_option maxHeartbeats 1600000 in
theorem decide_any (l : Ls) (m p base G1 G2 c1 c2 : Nat) (w : World) (hm : l.ps.length = m) (h : MemL w base G1 G2 c1 c2 l) (hp : p < m) :
    Calls Tryz.prog 144 #[.pointer (some ⟨G2, p * 7, none⟩)] w (StP (dcdV l p) base G1 G2 c1 c2 (.tuple #[]) w) := by
  have hp' : p < l.ps.length := by rw [hm]; exact hp
  have HH := Lib.hid h
  have HC0 : Hid (Chg G1 G2 w w) := Lib.hid Chg.refl
  obtain ⟨F, hF⟩ : ∃ F, F = dcdV l p := ⟨_, rfl⟩
  have HFV := Lib.hid hF
  rw [← hF]
  clear h hm hF
  go_enter Tryz.func144, Tryz.ntmps144
  obtain ⟨z1, z2⟩ := HH.out.fz
  obtain ⟨a1, a2, a3, a4, a5, -, a7⟩ := HH.out.proc hp'
  go_upto_region 0 with fail
  go_quiet (fail)
  have hqb := below_drw (Below.refl w.heap.size w) nq
  have HHQ := Lib.hid (HH.out.below hqb)
  have HCQ := Lib.hid (HC0.out.add hqb)
  clear a1 a2 a3 a4 a5 a7 z1 z2 hqb HH HC0
  generalize w.drewN nq = V at *
  obtain ⟨z1, z2⟩ := HHQ.out.fz
  obtain ⟨a1, a2, a3, a4, a5, -, a7⟩ := HHQ.out.proc hp'
  have HI := Lib.hid (HHQ.out.init hp')
  by_cases hk : (l.pr p).kind = 3
  · have HE : Hid (F = l.setP p { l.pr p with res := decide ((l.pr p).succ = (l.pr p).cell), phase := 18 }) := Lib.hid (by rw [HFV.out]; unfold dcdV; rw [if_pos hk])
    have d1 : ((l.pr p).kind == 3) = true := by simp [hk]
    clear HFV
    go_wp2_with fail
    clear a1 a2 a3 a4 a5 a7 z1 z2
    go_end0
    refine ⟨rfl, ?_, (HCQ.out.set2 _ _).set2 _ _⟩
    rw [HE.out]
    have hbe : ((l.pr p).succ == (l.pr p).cell) = decide ((l.pr p).succ = (l.pr p).cell) := by
      by_cases q : (l.pr p).succ = (l.pr p).cell <;> simp [q]
    first
      | (rw [hbe]; exact (HI.out.up hp' 6 (by decide) (.bool (decide ((l.pr p).succ = (l.pr p).cell))) { l.pr p with res := decide ((l.pr p).succ = (l.pr p).cell) } rfl).up hp' 2 (by decide) (.int .i64 18) { l.pr p with res := decide ((l.pr p).succ = (l.pr p).cell), phase := 18 } rfl)
      | exact (HI.out.up hp' 6 (by decide) (.bool (decide ((l.pr p).succ = (l.pr p).cell))) { l.pr p with res := decide ((l.pr p).succ = (l.pr p).cell) } rfl).up hp' 2 (by decide) (.int .i64 18) { l.pr p with res := decide ((l.pr p).succ = (l.pr p).cell), phase := 18 } rfl
  · have d1 : ((l.pr p).kind == 3) = false := by simpa using hk
    by_cases hk1 : (l.pr p).kind = 1
    · have HE : Hid (F = l.setP p { l.pr p with phase := 6 }) := Lib.hid (by rw [HFV.out]; unfold dcdV; rw [if_neg hk, if_pos hk1])
      have d2 : ((l.pr p).kind == 1) = true := by simp [hk1]
      clear HFV
      go_wp2_with fail
      clear a1 a2 a3 a4 a5 a7 z1 z2
      go_end0
      exact ⟨rfl, by rw [HE.out]; exact HI.out.up hp' 2 (by decide) (.int .i64 6) { l.pr p with phase := 6 } rfl, HCQ.out.set2 _ _⟩
    · have d2 : ((l.pr p).kind == 1) = false := by simpa using hk1
      by_cases hf : (l.pr p).succ = (l.pr p).cell
      · have HE : Hid (F = l.setP p { l.pr p with phase := 16 }) := Lib.hid (by rw [HFV.out]; unfold dcdV; rw [if_neg hk, if_neg hk1, if_pos hf])
        have d3 : ((l.pr p).succ == (l.pr p).cell) = true := by simp [hf]
        clear HFV
        go_wp2_with fail
        clear a1 a2 a3 a4 a5 a7 z1 z2
        go_end0
        exact ⟨rfl, by rw [HE.out]; exact HI.out.up hp' 2 (by decide) (.int .i64 16) { l.pr p with phase := 16 } rfl, HCQ.out.set2 _ _⟩
      · have HE : Hid (F = l.setP p { l.pr p with phase := 18 }) := Lib.hid (by rw [HFV.out]; unfold dcdV; rw [if_neg hk, if_neg hk1, if_neg hf])
        have d3 : ((l.pr p).succ == (l.pr p).cell) = false := by simpa using hf
        clear HFV
        go_wp2_with fail
        clear a1 a2 a3 a4 a5 a7 z1 z2
        go_end0
        exact ⟨rfl, by rw [HE.out]; exact HI.out.up hp' 2 (by decide) (.int .i64 18) { l.pr p with phase := 18 } rfl, HCQ.out.set2 _ _⟩
end Lf
end
section
open Go.RowKit Go.Maps
namespace Lf
open Lk
/-- What find leaves. -/
def fndV (l : Ls) (p s c : Nat) : Ls :=
  if (l.at_ s).gone = true then l.setP p { l.pr p with next := (l.at_ s).right, phase := 14 }
  else if blw l s c = true then l.setP p { l.pr p with pred := (s : Int), succ := (l.at_ s).right }
  else dcdV (l.setP p { l.pr p with next := (l.at_ s).right }) p
set_option maxRecDepth 100000 in
set_option maxHeartbeats 3200000 in
theorem find_any (l : Ls) (n m p s c base G1 G2 c1 c2 : Nat) (w : World) (hn : l.cs.length = n) (hm : l.ps.length = m) (h : MemL w base G1 G2 c1 c2 l) (hp : p < m) (hs : s < n) (hc : c < n) (hxs : (l.pr p).succ = (s : Int)) (hxc : (l.pr p).cell = (c : Int)) :
    Calls Tryz.prog 119 #[.slice (some ⟨G1, 0, none⟩) n c1, .pointer (some ⟨G2, p * 7, none⟩)] w (StP (fndV l p s c) base G1 G2 c1 c2 (.tuple #[]) w) := by
  have HN := Lib.hid hn
  have HM := Lib.hid hm
  have hp' : p < l.ps.length := by rw [hm]; exact hp
  have hs' : s < l.cs.length := by rw [hn]; exact hs
  have q0 : (0 : Int) ≤ (s : Int) := by omega
  have q1 : (s : Int) < (n : Int) := by omega
  have HXS := Lib.hid hxs
  have HXC := Lib.hid hxc
  obtain ⟨F, hF⟩ : ∃ F, F = fndV l p s c := ⟨_, rfl⟩
  have HFV := Lib.hid hF
  rw [← hF]
  have hbn : G1 < w.heap.size ∧ G2 < w.heap.size := ⟨h.cs.lt, h.ps.lt⟩
  have HB := Lib.hid ((Below.refl w.heap.size w).alloc (Nat.le_refl _) (.cells #[.string (l.at_ s).key, .int .i64 (l.at_ s).left, .int .i64 (l.at_ s).right, .int .i64 (l.at_ s).lock, .bool (l.at_ s).gone] 66))
  have HX := Lib.hid (Has.new w 66 #[.string (l.at_ s).key, .int .i64 (l.at_ s).left, .int .i64 (l.at_ s).right, .int .i64 (l.at_ s).lock, .bool (l.at_ s).gone])
  have HH := Lib.hid (h.below HB.out)
  have HC0 : Hid (Chg G1 G2 w _) := Lib.hid (Chg.of HB.out)
  obtain ⟨z1, z2⟩ := h.fz
  obtain ⟨a1, a2, a3, a4, a5, a6, a7⟩ := h.proc hp'
  obtain ⟨b1, b2, b3, b4, b5⟩ := h.cell hs'
  rw [hxs] at a5
  clear h hn hm hF hxs hxc
  go_enter Tryz.func119, Tryz.ntmps119
  go_upto_region 3 with fail
  clear a1 a2 a3 a4 a5 a6 a7 b1 b2 b3 b4 b5 z1 z2
  have hsz : (w.alloc (.cells #[.string (l.at_ s).key, .int .i64 (l.at_ s).left, .int .i64 (l.at_ s).right, .int .i64 (l.at_ s).lock, .bool (l.at_ s).gone] 66)).heap.size = w.heap.size + 1 := World.size_alloc _ _
  generalize w.alloc (.cells #[.string (l.at_ s).key, .int .i64 (l.at_ s).left, .int .i64 (l.at_ s).right, .int .i64 (l.at_ s).lock, .bool (l.at_ s).gone] 66) = W at *
  obtain ⟨B, hB⟩ : ∃ B, B = w.heap.size := ⟨_, rfl⟩
  rw [← hB] at HX hbn hsz ⊢
  clear hB HB
  have x2 := HX.out.cell 2
  have x4 := HX.out.cell 4
  have hX1 : ¬ B = G1 := by omega
  have hX2 : ¬ B = G2 := by omega
  have hX3 : ¬ G2 = B := by omega
  obtain ⟨z1, z2⟩ := HH.out.fz
  obtain ⟨a1, a2, a3, a4, a5, a6, a7⟩ := HH.out.proc hp'
  rw [HXS.out] at a5
  rw [HXC.out] at a2
  have HI := Lib.hid (HH.out.init hp')
  by_cases hg : (l.at_ s).gone = true
  · have HE : Hid (F = l.setP p { l.pr p with next := (l.at_ s).right, phase := 14 }) := Lib.hid (by rw [HFV.out]; unfold fndV; rw [if_pos hg])
    rw [hg] at x4
    clear HFV hg
    go_wp2_with fail
    clear a1 a2 a3 a4 a5 a6 a7 z1 z2 x2 x4
    go_end0
    refine ⟨rfl, ?_, (HC0.out.set2 _ _).set2 _ _⟩
    rw [HE.out]
    exact (HI.out.up hp' 5 (by decide) (.int .i64 (l.at_ s).right) { l.pr p with next := (l.at_ s).right } rfl).up hp' 2 (by decide) (.int .i64 14) { l.pr p with next := (l.at_ s).right, phase := 14 } rfl
  · have hg' : (l.at_ s).gone = false := by simpa using hg
    rw [hg'] at x4
    have HC := Lib.hid (fun (V : World) (k : Below W.heap.size W V) => less_any (some ⟨G1, 0, none⟩) l n c1 s c base V HN.out ((HH.out.below k).cs.rd HH.out.b1) hs hc)
    have HF := Lib.hid (fun (V : World) (k : Below W.heap.size W V) => (⟨by have := ((HH.out.below k).proc hp').2.2.2.2.1; rw [HXS.out] at this; exact this, by have := ((HH.out.below k).proc hp').2.1; rw [HXC.out] at this; exact this, k⟩ : V.cell? ⟨G2, p * 7 + 4, none⟩ = some (.int .i64 (s : Int)) ∧ V.cell? ⟨G2, p * 7 + 1, none⟩ = some (.int .i64 (c : Int)) ∧ Below W.heap.size W V))
    have hS0 := HF.out W.drew (Below.refl _ _).drew
    go_upto_region 5 with fail
    clear a1 a2 a3 a4 a5 a6 a7 z1 z2 x2 x4
    have x0 := hS0.1
    have x1 := hS0.2.1
    go_region_held3 (fun V => V.cell? ⟨G2, p * 7 + 4, none⟩ = some (.int .i64 (s : Int)) ∧ V.cell? ⟨G2, p * 7 + 1, none⟩ = some (.int .i64 (c : Int)) ∧ Below W.heap.size W V) (first | with_reducible exact hS7 | with_reducible exact hS0) ((go_at_call 124; refine (HC.out _ hS0.2.2).mono ?_; rintro e w7 ⟨rfl, hb7⟩; have hS7 := HF.out _ (hS0.2.2.trans (hb7.mono hS0.2.2.size))))
    have HH2 := Lib.hid (HH.out.below hS7.2.2)
    have HC2 := Lib.hid (HC0.out.add hS7.2.2)
    have HX2 := Lib.hid (HX.out.below hS7.2.2)
    clear x0 x1 hS0 hS7 hb7 HH HF HC HC0 HX HI
    have x2 := HX2.out.cell 2
    obtain ⟨z1, z2⟩ := HH2.out.fz
    obtain ⟨a1, a2, a3, a4, a5, a6, a7⟩ := HH2.out.proc hp'
    rw [HXS.out] at a5
    have HI := Lib.hid (HH2.out.init hp')
    cases hbl : blw l s c with
    | true =>
      have HE : Hid (F = l.setP p { l.pr p with pred := (s : Int), succ := (l.at_ s).right }) := Lib.hid (by rw [HFV.out]; unfold fndV; rw [if_neg hg, if_pos hbl])
      clear HFV hg hbl
      go_upto_region 6 with fail
      go_region
      clear a1 a2 a3 a4 a5 a6 a7 z1 z2 x2
      go_end0
      refine ⟨rfl, ?_, ((HC2.out.set2 _ _).set2 _ _).drew⟩
      rw [HE.out]
      exact MemL.drew ((HI.out.up hp' 3 (by decide) (.int .i64 (s : Int)) { l.pr p with pred := (s : Int) } rfl).up hp' 4 (by decide) (.int .i64 (l.at_ s).right) { l.pr p with pred := (s : Int), succ := (l.at_ s).right } rfl)
    | false =>
      have HE : Hid (F = dcdV (l.setP p { l.pr p with next := (l.at_ s).right }) p) := Lib.hid (by rw [HFV.out]; unfold fndV; rw [if_neg hg, if_neg (by rw [hbl]; exact Bool.false_ne_true)])
      have HS := Lib.hid (HI.out.up hp' 5 (by decide) (.int .i64 (l.at_ s).right) { l.pr p with next := (l.at_ s).right } rfl)
      have HCS := Lib.hid (HC2.out.set2 (p * 7 + 5) (.int .i64 (l.at_ s).right))
      have HD := Lib.hid (decide_any (l.setP p { l.pr p with next := (l.at_ s).right }) m p base G1 G2 c1 c2 _ (by rw [Ls.len_setP]; exact HM.out) HS.out hp)
      clear HFV hg hbl
      go_wp2_with fail
      refine (HD.out).mono ?_
      rintro e w3 ⟨rfl, hm3, hb3⟩
      have HM3 := Lib.hid hm3
      have HB3 := Lib.hid hb3
      clear hm3 hb3 a1 a2 a3 a4 a5 a6 a7 z1 z2 x2
      go_wp2_with fail
      go_end0
      exact ⟨rfl, by rw [HE.out]; exact HM3.out, HCS.out.trans HB3.out⟩
end Lf
end
section
open Go.RowKit Go.Maps
namespace Lf
open Lk
theorem fnd_step {l : Ls} {p s c : Nat} (hp : p < l.ps.length) (hph : (l.pr p).phase = 1) (hxs : (l.pr p).succ = (s : Int)) (hxc : (l.pr p).cell = (c : Int)) : stepV l p = some (fndV l p s c) := by
  have hP : ∀ x : Po, (l.setP p x).pr p = x := fun x => by rw [Ls.pr_setP l hp, if_pos rfl]
  unfold stepV fndV dcdV
  simp only [hph, if_pos, hxs, hxc, Int.toNat_natCast, hP, Ls.setP_setP]
  by_cases hg : (l.at_ s).gone = true
  · simp only [hg, if_pos]
  · rw [if_neg hg, if_neg hg]
    by_cases hb : blw l s c = true
    · rw [if_pos hb, if_pos hb]
    · rw [if_neg hb, if_neg hb]
      by_cases k3 : (l.pr p).kind = 3
      · simp [k3]
      · by_cases k1 : (l.pr p).kind = 1
        · simp [k1]
        · by_cases ks : (s : Int) = (c : Int)
          · simp [k3, k1, ks]
          · simp [k3, k1, ks]
theorem four {V : World} {base G1 G2 c1 c2 p d s c x : Nat} {l l1 : Ls} (k : MemL V base G1 G2 c1 c2 l1) (e1 : l1.ps = l.ps) (hp' : p < l.ps.length) (hxd : (l.pr p).pred = (d : Int)) (hxs : (l.pr p).succ = (s : Int)) (hxc : (l.pr p).cell = (c : Int)) (hxx : (l.pr p).next = (x : Int)) :
    V.cell? ⟨G2, p * 7 + 3, none⟩ = some (.int .i64 (d : Int)) ∧ V.cell? ⟨G2, p * 7 + 4, none⟩ = some (.int .i64 (s : Int)) ∧ V.cell? ⟨G2, p * 7 + 5, none⟩ = some (.int .i64 (x : Int)) ∧ V.cell? ⟨G2, p * 7 + 1, none⟩ = some (.int .i64 (c : Int)) := by
  have hp1 : p < l1.ps.length := by rw [e1]; exact hp'
  have e2 : l1.pr p = l.pr p := by unfold Ls.pr; rw [e1]
  obtain ⟨-, k1, -, k3, k4, k5, -⟩ := k.proc hp1
  rw [e2] at k1 k3 k4 k5
  rw [hxc] at k1
  rw [hxd] at k3
  rw [hxs] at k4
  rw [hxx] at k5
  exact ⟨k3, k4, k5, k1⟩
theorem chg_some {l : Ls} {i : Nat} {e r : Int} {g : Bool} (h : okI l i e) : chgV l i e r g = some (l.setC i { l.at_ i with right := r, gone := g }) := if_pos h
theorem chg_none {l : Ls} {i : Nat} {e r : Int} {g : Bool} (h : ¬ okI l i e) : chgV l i e r g = none := if_neg h
theorem gone_same {l : Ls} {i : Nat} {e r : Int} (h : okI l i e) : ({ l.at_ i with right := r, gone := false } : Ce) = { l.at_ i with right := r } := by
  rw [← h.2]
theorem right_same {l : Ls} {i : Nat} {e : Int} (h : okI l i e) : ({ l.at_ i with right := e, gone := true } : Ce) = { l.at_ i with gone := true } := by
  rw [← h.1]
set_option maxRecDepth 100000 in
set_option maxHeartbeats 1600000 in
theorem act_1 (l : Ls) (n m p d s c x base G1 G2 c1 c2 : Nat) (w : World) (hn : l.cs.length = n) (hm : l.ps.length = m) (h : MemL w base G1 G2 c1 c2 l) (hp : p < m) (hd : d < n) (hs : s < n) (hc : c < n) (hx : x < n) (hxd : (l.pr p).pred = (d : Int)) (hxs : (l.pr p).succ = (s : Int)) (hxc : (l.pr p).cell = (c : Int)) (hxx : (l.pr p).next = (x : Int)) (hph : (l.pr p).phase = 1) :
    Calls Tryz.prog 79 #[.slice (some ⟨G1, 0, none⟩) n c1, .pointer (some ⟨G2, p * 7, none⟩)] w (OptP (stepV l p) l base G1 G2 c1 c2 w) := by
  have hp' : p < l.ps.length := by rw [hm]; exact hp
  have hd' : d < l.cs.length := by rw [hn]; exact hd
  have hs' : s < l.cs.length := by rw [hn]; exact hs
  have hc' : c < l.cs.length := by rw [hn]; exact hc
  have hx' : x < l.cs.length := by rw [hn]; exact hx
  have n0 : 0 < n := by omega
  have r0 : (0 : Int) ≤ (d : Int) := by omega
  have r1 : (d : Int) < (n : Int) := by omega
  have t0 : (0 : Int) ≤ (c : Int) := by omega
  have t1 : (c : Int) < (n : Int) := by omega
  have HN := Lib.hid hn
  have HM := Lib.hid hm
  have HH := Lib.hid h
  have HK : Hid (Chg G1 G2 w w) := Lib.hid Chg.refl
  have HXD := Lib.hid hxd
  have HXS := Lib.hid hxs
  have HXC := Lib.hid hxc
  have HXX := Lib.hid hxx
  have HPH := Lib.hid hph
  have hne : ¬ G1 = G2 := h.ne
  have hne' : ¬ G2 = G1 := fun e => h.ne e.symm
  obtain ⟨O, hO⟩ : ∃ O, O = stepV l p := ⟨_, rfl⟩
  have HE : Hid (O = some (fndV l p s c)) := Lib.hid (hO.trans (fnd_step hp' hph hxs hxc))
  rw [← hO]
  clear h hn hm hxd hxs hxc hxx hph hO
  obtain ⟨z1, z2⟩ := HH.out.fz
  obtain ⟨a1, a2, a3, a4, a5, a6, a7⟩ := HH.out.proc hp'
  rw [HPH.out] at a3
  rw [HXD.out] at a4
  rw [HXS.out] at a5
  rw [HXX.out] at a6
  rw [HXC.out] at a2
  go_enter Tryz.func79, Tryz.ntmps79
  have HL := Lib.hid (find_any l n m p s c base G1 G2 c1 c2 w HN.out HM.out HH.out hp hs hc HXS.out HXC.out)
  go_wp2_with fail
  refine (HL.out).mono ?_
  rintro e w2 ⟨rfl, hm2, hb2⟩
  clear z1 z2 a1 a2 a3 a4 a5 a6 a7
  have HM2 := Lib.hid hm2
  have HB2 := Lib.hid hb2
  clear hm2 hb2
  go_wp2_with fail
  go_ret
  exact ⟨by rw [HE.out]; rfl, by rw [HE.out]; exact HM2.out, HB2.out⟩
set_option maxRecDepth 100000 in
set_option maxHeartbeats 1600000 in
theorem act_14 (l : Ls) (n m p d s c x base G1 G2 c1 c2 : Nat) (w : World) (hn : l.cs.length = n) (hm : l.ps.length = m) (h : MemL w base G1 G2 c1 c2 l) (hp : p < m) (hd : d < n) (hs : s < n) (hc : c < n) (hx : x < n) (hxd : (l.pr p).pred = (d : Int)) (hxs : (l.pr p).succ = (s : Int)) (hxc : (l.pr p).cell = (c : Int)) (hxx : (l.pr p).next = (x : Int)) (hph : (l.pr p).phase = 14) :
    Calls Tryz.prog 79 #[.slice (some ⟨G1, 0, none⟩) n c1, .pointer (some ⟨G2, p * 7, none⟩)] w (OptP (stepV l p) l base G1 G2 c1 c2 w) := by
  have hp' : p < l.ps.length := by rw [hm]; exact hp
  have hd' : d < l.cs.length := by rw [hn]; exact hd
  have hs' : s < l.cs.length := by rw [hn]; exact hs
  have hc' : c < l.cs.length := by rw [hn]; exact hc
  have hx' : x < l.cs.length := by rw [hn]; exact hx
  have n0 : 0 < n := by omega
  have r0 : (0 : Int) ≤ (d : Int) := by omega
  have r1 : (d : Int) < (n : Int) := by omega
  have t0 : (0 : Int) ≤ (c : Int) := by omega
  have t1 : (c : Int) < (n : Int) := by omega
  have HN := Lib.hid hn
  have HM := Lib.hid hm
  have HH := Lib.hid h
  have HK : Hid (Chg G1 G2 w w) := Lib.hid Chg.refl
  have HXD := Lib.hid hxd
  have HXS := Lib.hid hxs
  have HXC := Lib.hid hxc
  have HXX := Lib.hid hxx
  have HPH := Lib.hid hph
  have hne : ¬ G1 = G2 := h.ne
  have hne' : ¬ G2 = G1 := fun e => h.ne e.symm
  obtain ⟨O, hO⟩ : ∃ O, O = stepV l p := ⟨_, rfl⟩
  have HY : Hid (okI l d (s : Int) → O = some ((l.setC d { l.at_ d with right := (x : Int), gone := false }).setP p { l.pr p with succ := (x : Int), phase := 1 })) := Lib.hid (fun q => by
    rw [hO]; unfold stepV
    simp only [hph, hxd, hxs, hxc, hxx, Int.toNat_natCast]
    rw [gone_same q]
    simp [q])
  have HNO : Hid (¬ okI l d (s : Int) → O = some (agnV l p)) := Lib.hid (fun q => by
    rw [hO]; unfold stepV
    simp only [hph, hxd, hxs, hxc, hxx, Int.toNat_natCast]
    simp [q])
  rw [← hO]
  clear h hn hm hxd hxs hxc hxx hph hO
  obtain ⟨z1, z2⟩ := HH.out.fz
  obtain ⟨a1, a2, a3, a4, a5, a6, a7⟩ := HH.out.proc hp'
  rw [HPH.out] at a3
  rw [HXD.out] at a4
  rw [HXS.out] at a5
  rw [HXX.out] at a6
  rw [HXC.out] at a2
  go_enter Tryz.func79, Tryz.ntmps79
  have HF := Lib.hid (fun (V : World) (l1 : Ls) (e1 : l1.ps = l.ps) (k : MemL V base G1 G2 c1 c2 l1) => four k e1 hp' HXD.out HXS.out HXC.out HXX.out)
  have HBD : Hid (Below w.heap.size w w.drew) := Lib.hid (Below.refl _ _).drew
  have hS0 := HF.out w.drew l rfl (HH.out.below HBD.out)
  have HC := Lib.hid (fun (V : World) (k : Below w.heap.size w V) => change_any l n d base G1 G2 c1 c2 (s : Int) (x : Int) false V HN.out (HH.out.below k) hd)
  go_upto_region 6 with fail
  clear a1 a2 a3 a4 a5 a6 a7 z1 z2
  have x0 := hS0.1
  have x1 := hS0.2.1
  have x2 := hS0.2.2.1
  have x3 := hS0.2.2.2
  by_cases q : okI l d (s : Int)
  · have HE := Lib.hid (HY.out q)
    have HCS := Lib.hid (chg_some (r := (x : Int)) (g := false) q)
    clear HY HNO q
    go_region_held3 (fun V => V.cell? ⟨G2, p * 7 + 3, none⟩ = some (.int .i64 (d : Int)) ∧ V.cell? ⟨G2, p * 7 + 4, none⟩ = some (.int .i64 (s : Int)) ∧ V.cell? ⟨G2, p * 7 + 5, none⟩ = some (.int .i64 (x : Int)) ∧ V.cell? ⟨G2, p * 7 + 1, none⟩ = some (.int .i64 (c : Int))) (first | with_reducible exact hS7 | with_reducible exact hS0) ((go_at_call 120; refine (HC.out _ HBD.out).mono ?_; rw [HCS.out]; rintro e w7 ⟨rfl, hm7, hb7⟩; have hS7 := HF.out w7 (l.setC d { l.at_ d with right := (x : Int), gone := false }) rfl hm7))
    have HM7 : Hid (MemL w7 base G1 G2 c1 c2 (l.setC d { l.at_ d with right := (x : Int), gone := false })) := Lib.hid hm7
    have HK7 := Lib.hid ((Chg.of HBD.out).trans hb7)
    clear x0 x1 x2 x3 hS0 hS7 hm7 hb7 HC HF HH HK HCS
    have hpl : p < (l.setC d { l.at_ d with right := (x : Int), gone := false }).ps.length := hp'
    obtain ⟨z1, z2⟩ := HM7.out.fz
    obtain ⟨a1, a2, a3, a4, a5, a6, a7⟩ := HM7.out.proc hpl
    rw [show (l.setC d { l.at_ d with right := (x : Int), gone := false }).pr p = l.pr p from rfl, HXX.out] at a6
    have HI := HM7.out.init hpl
    rw [show (l.setC d { l.at_ d with right := (x : Int), gone := false }).pr p = l.pr p from rfl] at HI
    go_wp2_with fail
    clear z1 z2 a1 a2 a3 a4 a5 a6 a7
    go_ret
    refine ⟨by rw [HE.out]; rfl, ?_, ((HK7.out.set2 _ _).set2 _ _)⟩
    rw [HE.out]
    exact ((HI.up (l := l.setC d { l.at_ d with right := (x : Int), gone := false }) hpl 4 (by decide) (.int .i64 (x : Int)) { l.pr p with succ := (x : Int) } rfl).up (l := l.setC d { l.at_ d with right := (x : Int), gone := false }) hpl 2 (by decide) (.int .i64 1) { l.pr p with succ := (x : Int), phase := 1 } rfl)
  · have HE := Lib.hid (HNO.out q)
    have HCS := Lib.hid (chg_none (r := (x : Int)) (g := false) q)
    clear HY HNO q
    go_region_held3 (fun V => V.cell? ⟨G2, p * 7 + 3, none⟩ = some (.int .i64 (d : Int)) ∧ V.cell? ⟨G2, p * 7 + 4, none⟩ = some (.int .i64 (s : Int)) ∧ V.cell? ⟨G2, p * 7 + 5, none⟩ = some (.int .i64 (x : Int)) ∧ V.cell? ⟨G2, p * 7 + 1, none⟩ = some (.int .i64 (c : Int))) (first | with_reducible exact hS7 | with_reducible exact hS0) ((go_at_call 120; refine (HC.out _ HBD.out).mono ?_; rw [HCS.out]; rintro e w7 ⟨rfl, hm7, hb7⟩; have hS7 := HF.out w7 l rfl hm7))
    have HM7 : Hid (MemL w7 base G1 G2 c1 c2 l) := Lib.hid hm7
    have HK7 := Lib.hid ((Chg.of HBD.out).trans hb7)
    clear x0 x1 x2 x3 hS0 hS7 hm7 hb7 HC HF HH HK HCS
    have HL := Lib.hid (begin_any l n m p base G1 G2 c1 c2 w7 HN.out HM.out HM7.out hp n0)
    go_wp2_with fail
    refine (HL.out).mono ?_
    rintro e w8 ⟨rfl, hm8, hb8⟩
    have HM8 := Lib.hid hm8
    have HK8 := Lib.hid (HK7.out.trans hb8)
    clear hm8 hb8
    go_wp2_with fail
    go_ret
    exact ⟨by rw [HE.out]; rfl, by rw [HE.out]; exact HM8.out, HK8.out⟩
set_option maxRecDepth 100000 in
set_option maxHeartbeats 1600000 in
theorem act_6 (l : Ls) (n m p d s c x base G1 G2 c1 c2 : Nat) (w : World) (hn : l.cs.length = n) (hm : l.ps.length = m) (h : MemL w base G1 G2 c1 c2 l) (hp : p < m) (hd : d < n) (hs : s < n) (hc : c < n) (hx : x < n) (hxd : (l.pr p).pred = (d : Int)) (hxs : (l.pr p).succ = (s : Int)) (hxc : (l.pr p).cell = (c : Int)) (hxx : (l.pr p).next = (x : Int)) (hph : (l.pr p).phase = 6) :
    Calls Tryz.prog 79 #[.slice (some ⟨G1, 0, none⟩) n c1, .pointer (some ⟨G2, p * 7, none⟩)] w (OptP (stepV l p) l base G1 G2 c1 c2 w) := by
  have hp' : p < l.ps.length := by rw [hm]; exact hp
  have hd' : d < l.cs.length := by rw [hn]; exact hd
  have hs' : s < l.cs.length := by rw [hn]; exact hs
  have hc' : c < l.cs.length := by rw [hn]; exact hc
  have hx' : x < l.cs.length := by rw [hn]; exact hx
  have n0 : 0 < n := by omega
  have r0 : (0 : Int) ≤ (d : Int) := by omega
  have r1 : (d : Int) < (n : Int) := by omega
  have t0 : (0 : Int) ≤ (c : Int) := by omega
  have t1 : (c : Int) < (n : Int) := by omega
  have HN := Lib.hid hn
  have HM := Lib.hid hm
  have HH := Lib.hid h
  have HK : Hid (Chg G1 G2 w w) := Lib.hid Chg.refl
  have HXD := Lib.hid hxd
  have HXS := Lib.hid hxs
  have HXC := Lib.hid hxc
  have HXX := Lib.hid hxx
  have HPH := Lib.hid hph
  have hne : ¬ G1 = G2 := h.ne
  have hne' : ¬ G2 = G1 := fun e => h.ne e.symm
  obtain ⟨O, hO⟩ : ∃ O, O = stepV l p := ⟨_, rfl⟩
  have HE : Hid (O = some ((l.setC c { l.at_ c with right := (s : Int) }).setP p { l.pr p with phase := 15 })) := Lib.hid (by
    rw [hO]; unfold stepV
    simp only [hph, hxd, hxs, hxc, hxx, Int.toNat_natCast]
    simp)
  rw [← hO]
  clear h hn hm hxd hxs hxc hxx hph hO
  obtain ⟨z1, z2⟩ := HH.out.fz
  obtain ⟨a1, a2, a3, a4, a5, a6, a7⟩ := HH.out.proc hp'
  rw [HPH.out] at a3
  rw [HXD.out] at a4
  rw [HXS.out] at a5
  rw [HXX.out] at a6
  rw [HXC.out] at a2
  go_enter Tryz.func79, Tryz.ntmps79
  obtain ⟨f1, f2, f3, f4, f5⟩ := HH.out.cell hc'
  go_upto_region 10 with fail
  go_region
  clear z1 z2 a1 a2 a3 a4 a5 a6 a7 f1 f2 f3 f4 f5
  have HHR := Lib.hid (MemL.drew (((HH.out.initC hc').upC hc' 2 (by decide) (.int .i64 (s : Int)) { l.at_ c with right := (s : Int) } rfl).setP hp' 2 (by decide) (.int .i64 15) { l.pr p with phase := 15 } rfl))
  have HKR := Lib.hid (Chg.drew ((HK.out.set1 (c * 5 + 2) (.int .i64 (s : Int))).set2 (p * 7 + 2) (.int .i64 15)))
  generalize World.drew _ = V2 at *
  go_wp2_with fail
  go_ret
  exact ⟨by rw [HE.out]; rfl, by rw [HE.out]; exact HHR.out, HKR.out⟩
set_option maxRecDepth 100000 in
set_option maxHeartbeats 1600000 in
theorem act_15 (l : Ls) (n m p d s c x base G1 G2 c1 c2 : Nat) (w : World) (hn : l.cs.length = n) (hm : l.ps.length = m) (h : MemL w base G1 G2 c1 c2 l) (hp : p < m) (hd : d < n) (hs : s < n) (hc : c < n) (hx : x < n) (hxd : (l.pr p).pred = (d : Int)) (hxs : (l.pr p).succ = (s : Int)) (hxc : (l.pr p).cell = (c : Int)) (hxx : (l.pr p).next = (x : Int)) (hph : (l.pr p).phase = 15) :
    Calls Tryz.prog 79 #[.slice (some ⟨G1, 0, none⟩) n c1, .pointer (some ⟨G2, p * 7, none⟩)] w (OptP (stepV l p) l base G1 G2 c1 c2 w) := by
  have hp' : p < l.ps.length := by rw [hm]; exact hp
  have hd' : d < l.cs.length := by rw [hn]; exact hd
  have hs' : s < l.cs.length := by rw [hn]; exact hs
  have hc' : c < l.cs.length := by rw [hn]; exact hc
  have hx' : x < l.cs.length := by rw [hn]; exact hx
  have n0 : 0 < n := by omega
  have r0 : (0 : Int) ≤ (d : Int) := by omega
  have r1 : (d : Int) < (n : Int) := by omega
  have t0 : (0 : Int) ≤ (c : Int) := by omega
  have t1 : (c : Int) < (n : Int) := by omega
  have HN := Lib.hid hn
  have HM := Lib.hid hm
  have HH := Lib.hid h
  have HK : Hid (Chg G1 G2 w w) := Lib.hid Chg.refl
  have HXD := Lib.hid hxd
  have HXS := Lib.hid hxs
  have HXC := Lib.hid hxc
  have HXX := Lib.hid hxx
  have HPH := Lib.hid hph
  have hne : ¬ G1 = G2 := h.ne
  have hne' : ¬ G2 = G1 := fun e => h.ne e.symm
  obtain ⟨O, hO⟩ : ∃ O, O = stepV l p := ⟨_, rfl⟩
  have HY : Hid (okI l d (s : Int) → O = some ((l.setC d { l.at_ d with right := (c : Int), gone := false }).setP p { l.pr p with res := true, phase := 18 })) := Lib.hid (fun q => by
    rw [hO]; unfold stepV
    simp only [hph, hxd, hxs, hxc, hxx, Int.toNat_natCast]
    rw [gone_same q]
    simp [q])
  have HNO : Hid (¬ okI l d (s : Int) → O = some (agnV l p)) := Lib.hid (fun q => by
    rw [hO]; unfold stepV
    simp only [hph, hxd, hxs, hxc, hxx, Int.toNat_natCast]
    simp [q])
  rw [← hO]
  clear h hn hm hxd hxs hxc hxx hph hO
  obtain ⟨z1, z2⟩ := HH.out.fz
  obtain ⟨a1, a2, a3, a4, a5, a6, a7⟩ := HH.out.proc hp'
  rw [HPH.out] at a3
  rw [HXD.out] at a4
  rw [HXS.out] at a5
  rw [HXX.out] at a6
  rw [HXC.out] at a2
  go_enter Tryz.func79, Tryz.ntmps79
  have HF := Lib.hid (fun (V : World) (l1 : Ls) (e1 : l1.ps = l.ps) (k : MemL V base G1 G2 c1 c2 l1) => four k e1 hp' HXD.out HXS.out HXC.out HXX.out)
  have HBD : Hid (Below w.heap.size w w.drew) := Lib.hid (Below.refl _ _).drew
  have hS0 := HF.out w.drew l rfl (HH.out.below HBD.out)
  have HC := Lib.hid (fun (V : World) (k : Below w.heap.size w V) => change_any l n d base G1 G2 c1 c2 (s : Int) (c : Int) false V HN.out (HH.out.below k) hd)
  go_upto_region 12 with fail
  clear a1 a2 a3 a4 a5 a6 a7 z1 z2
  have x0 := hS0.1
  have x1 := hS0.2.1
  have x2 := hS0.2.2.1
  have x3 := hS0.2.2.2
  by_cases q : okI l d (s : Int)
  · have HE := Lib.hid (HY.out q)
    have HCS := Lib.hid (chg_some (r := (c : Int)) (g := false) q)
    clear HY HNO q
    go_region_held3 (fun V => V.cell? ⟨G2, p * 7 + 3, none⟩ = some (.int .i64 (d : Int)) ∧ V.cell? ⟨G2, p * 7 + 4, none⟩ = some (.int .i64 (s : Int)) ∧ V.cell? ⟨G2, p * 7 + 5, none⟩ = some (.int .i64 (x : Int)) ∧ V.cell? ⟨G2, p * 7 + 1, none⟩ = some (.int .i64 (c : Int))) (first | with_reducible exact hS7 | with_reducible exact hS0) ((go_at_call 120; refine (HC.out _ HBD.out).mono ?_; rw [HCS.out]; rintro e w7 ⟨rfl, hm7, hb7⟩; have hS7 := HF.out w7 (l.setC d { l.at_ d with right := (c : Int), gone := false }) rfl hm7))
    have HM7 : Hid (MemL w7 base G1 G2 c1 c2 (l.setC d { l.at_ d with right := (c : Int), gone := false })) := Lib.hid hm7
    have HK7 := Lib.hid ((Chg.of HBD.out).trans hb7)
    clear x0 x1 x2 x3 hS0 hS7 hm7 hb7 HC HF HH HK HCS
    have hpl : p < (l.setC d { l.at_ d with right := (c : Int), gone := false }).ps.length := hp'
    obtain ⟨z1, z2⟩ := HM7.out.fz
    obtain ⟨a1, a2, a3, a4, a5, a6, a7⟩ := HM7.out.proc hpl
    rw [show (l.setC d { l.at_ d with right := (c : Int), gone := false }).pr p = l.pr p from rfl, HXX.out] at a6
    have HI := HM7.out.init hpl
    rw [show (l.setC d { l.at_ d with right := (c : Int), gone := false }).pr p = l.pr p from rfl] at HI
    go_wp2_with fail
    clear z1 z2 a1 a2 a3 a4 a5 a6 a7
    go_ret
    refine ⟨by rw [HE.out]; rfl, ?_, ((HK7.out.set2 _ _).set2 _ _)⟩
    rw [HE.out]
    exact ((HI.up (l := l.setC d { l.at_ d with right := (c : Int), gone := false }) hpl 6 (by decide) (.bool true) { l.pr p with res := true } rfl).up (l := l.setC d { l.at_ d with right := (c : Int), gone := false }) hpl 2 (by decide) (.int .i64 18) { l.pr p with res := true, phase := 18 } rfl)
  · have HE := Lib.hid (HNO.out q)
    have HCS := Lib.hid (chg_none (r := (c : Int)) (g := false) q)
    clear HY HNO q
    go_region_held3 (fun V => V.cell? ⟨G2, p * 7 + 3, none⟩ = some (.int .i64 (d : Int)) ∧ V.cell? ⟨G2, p * 7 + 4, none⟩ = some (.int .i64 (s : Int)) ∧ V.cell? ⟨G2, p * 7 + 5, none⟩ = some (.int .i64 (x : Int)) ∧ V.cell? ⟨G2, p * 7 + 1, none⟩ = some (.int .i64 (c : Int))) (first | with_reducible exact hS7 | with_reducible exact hS0) ((go_at_call 120; refine (HC.out _ HBD.out).mono ?_; rw [HCS.out]; rintro e w7 ⟨rfl, hm7, hb7⟩; have hS7 := HF.out w7 l rfl hm7))
    have HM7 : Hid (MemL w7 base G1 G2 c1 c2 l) := Lib.hid hm7
    have HK7 := Lib.hid ((Chg.of HBD.out).trans hb7)
    clear x0 x1 x2 x3 hS0 hS7 hm7 hb7 HC HF HH HK HCS
    have HL := Lib.hid (begin_any l n m p base G1 G2 c1 c2 w7 HN.out HM.out HM7.out hp n0)
    go_wp2_with fail
    refine (HL.out).mono ?_
    rintro e w8 ⟨rfl, hm8, hb8⟩
    have HM8 := Lib.hid hm8
    have HK8 := Lib.hid (HK7.out.trans hb8)
    clear hm8 hb8
    go_wp2_with fail
    go_ret
    exact ⟨by rw [HE.out]; rfl, by rw [HE.out]; exact HM8.out, HK8.out⟩
set_option maxRecDepth 100000 in
set_option maxHeartbeats 1600000 in
theorem act_16 (l : Ls) (n m p d s c x base G1 G2 c1 c2 : Nat) (w : World) (hn : l.cs.length = n) (hm : l.ps.length = m) (h : MemL w base G1 G2 c1 c2 l) (hp : p < m) (hd : d < n) (hs : s < n) (hc : c < n) (hx : x < n) (hxd : (l.pr p).pred = (d : Int)) (hxs : (l.pr p).succ = (s : Int)) (hxc : (l.pr p).cell = (c : Int)) (hxx : (l.pr p).next = (x : Int)) (hph : (l.pr p).phase = 16) :
    Calls Tryz.prog 79 #[.slice (some ⟨G1, 0, none⟩) n c1, .pointer (some ⟨G2, p * 7, none⟩)] w (OptP (stepV l p) l base G1 G2 c1 c2 w) := by
  have hp' : p < l.ps.length := by rw [hm]; exact hp
  have hd' : d < l.cs.length := by rw [hn]; exact hd
  have hs' : s < l.cs.length := by rw [hn]; exact hs
  have hc' : c < l.cs.length := by rw [hn]; exact hc
  have hx' : x < l.cs.length := by rw [hn]; exact hx
  have n0 : 0 < n := by omega
  have r0 : (0 : Int) ≤ (d : Int) := by omega
  have r1 : (d : Int) < (n : Int) := by omega
  have t0 : (0 : Int) ≤ (c : Int) := by omega
  have t1 : (c : Int) < (n : Int) := by omega
  have HN := Lib.hid hn
  have HM := Lib.hid hm
  have HH := Lib.hid h
  have HK : Hid (Chg G1 G2 w w) := Lib.hid Chg.refl
  have HXD := Lib.hid hxd
  have HXS := Lib.hid hxs
  have HXC := Lib.hid hxc
  have HXX := Lib.hid hxx
  have HPH := Lib.hid hph
  have hne : ¬ G1 = G2 := h.ne
  have hne' : ¬ G2 = G1 := fun e => h.ne e.symm
  obtain ⟨O, hO⟩ : ∃ O, O = stepV l p := ⟨_, rfl⟩
  have HY : Hid (okI l c (x : Int) → O = some ((l.setC c { l.at_ c with right := (x : Int), gone := true }).setP p { l.pr p with res := true, phase := 17 })) := Lib.hid (fun q => by
    rw [hO]; unfold stepV
    simp only [hph, hxd, hxs, hxc, hxx, Int.toNat_natCast]
    rw [right_same q]
    simp [q])
  have HNO : Hid (¬ okI l c (x : Int) → O = some (agnV l p)) := Lib.hid (fun q => by
    rw [hO]; unfold stepV
    simp only [hph, hxd, hxs, hxc, hxx, Int.toNat_natCast]
    simp [q])
  rw [← hO]
  clear h hn hm hxd hxs hxc hxx hph hO
  obtain ⟨z1, z2⟩ := HH.out.fz
  obtain ⟨a1, a2, a3, a4, a5, a6, a7⟩ := HH.out.proc hp'
  rw [HPH.out] at a3
  rw [HXD.out] at a4
  rw [HXS.out] at a5
  rw [HXX.out] at a6
  rw [HXC.out] at a2
  go_enter Tryz.func79, Tryz.ntmps79
  have HF := Lib.hid (fun (V : World) (l1 : Ls) (e1 : l1.ps = l.ps) (k : MemL V base G1 G2 c1 c2 l1) => four k e1 hp' HXD.out HXS.out HXC.out HXX.out)
  have HBD : Hid (Below w.heap.size w w.drew) := Lib.hid (Below.refl _ _).drew
  have hS0 := HF.out w.drew l rfl (HH.out.below HBD.out)
  have HC := Lib.hid (fun (V : World) (k : Below w.heap.size w V) => change_any l n c base G1 G2 c1 c2 (x : Int) (x : Int) true V HN.out (HH.out.below k) hc)
  go_upto_region 16 with fail
  clear a1 a2 a3 a4 a5 a6 a7 z1 z2
  have x0 := hS0.1
  have x1 := hS0.2.1
  have x2 := hS0.2.2.1
  have x3 := hS0.2.2.2
  by_cases q : okI l c (x : Int)
  · have HE := Lib.hid (HY.out q)
    have HCS := Lib.hid (chg_some (r := (x : Int)) (g := true) q)
    clear HY HNO q
    go_region_held3 (fun V => V.cell? ⟨G2, p * 7 + 3, none⟩ = some (.int .i64 (d : Int)) ∧ V.cell? ⟨G2, p * 7 + 4, none⟩ = some (.int .i64 (s : Int)) ∧ V.cell? ⟨G2, p * 7 + 5, none⟩ = some (.int .i64 (x : Int)) ∧ V.cell? ⟨G2, p * 7 + 1, none⟩ = some (.int .i64 (c : Int))) (first | with_reducible exact hS7 | with_reducible exact hS0) ((go_at_call 120; refine (HC.out _ HBD.out).mono ?_; rw [HCS.out]; rintro e w7 ⟨rfl, hm7, hb7⟩; have hS7 := HF.out w7 (l.setC c { l.at_ c with right := (x : Int), gone := true }) rfl hm7))
    have HM7 : Hid (MemL w7 base G1 G2 c1 c2 (l.setC c { l.at_ c with right := (x : Int), gone := true })) := Lib.hid hm7
    have HK7 := Lib.hid ((Chg.of HBD.out).trans hb7)
    clear x0 x1 x2 x3 hS0 hS7 hm7 hb7 HC HF HH HK HCS
    have hpl : p < (l.setC c { l.at_ c with right := (x : Int), gone := true }).ps.length := hp'
    obtain ⟨z1, z2⟩ := HM7.out.fz
    obtain ⟨a1, a2, a3, a4, a5, a6, a7⟩ := HM7.out.proc hpl
    rw [show (l.setC c { l.at_ c with right := (x : Int), gone := true }).pr p = l.pr p from rfl, HXX.out] at a6
    have HI := HM7.out.init hpl
    rw [show (l.setC c { l.at_ c with right := (x : Int), gone := true }).pr p = l.pr p from rfl] at HI
    go_wp2_with fail
    clear z1 z2 a1 a2 a3 a4 a5 a6 a7
    go_ret
    refine ⟨by rw [HE.out]; rfl, ?_, ((HK7.out.set2 _ _).set2 _ _)⟩
    rw [HE.out]
    exact ((HI.up (l := l.setC c { l.at_ c with right := (x : Int), gone := true }) hpl 6 (by decide) (.bool true) { l.pr p with res := true } rfl).up (l := l.setC c { l.at_ c with right := (x : Int), gone := true }) hpl 2 (by decide) (.int .i64 17) { l.pr p with res := true, phase := 17 } rfl)
  · have HE := Lib.hid (HNO.out q)
    have HCS := Lib.hid (chg_none (r := (x : Int)) (g := true) q)
    clear HY HNO q
    go_region_held3 (fun V => V.cell? ⟨G2, p * 7 + 3, none⟩ = some (.int .i64 (d : Int)) ∧ V.cell? ⟨G2, p * 7 + 4, none⟩ = some (.int .i64 (s : Int)) ∧ V.cell? ⟨G2, p * 7 + 5, none⟩ = some (.int .i64 (x : Int)) ∧ V.cell? ⟨G2, p * 7 + 1, none⟩ = some (.int .i64 (c : Int))) (first | with_reducible exact hS7 | with_reducible exact hS0) ((go_at_call 120; refine (HC.out _ HBD.out).mono ?_; rw [HCS.out]; rintro e w7 ⟨rfl, hm7, hb7⟩; have hS7 := HF.out w7 l rfl hm7))
    have HM7 : Hid (MemL w7 base G1 G2 c1 c2 l) := Lib.hid hm7
    have HK7 := Lib.hid ((Chg.of HBD.out).trans hb7)
    clear x0 x1 x2 x3 hS0 hS7 hm7 hb7 HC HF HH HK HCS
    have HL := Lib.hid (begin_any l n m p base G1 G2 c1 c2 w7 HN.out HM.out HM7.out hp n0)
    go_wp2_with fail
    refine (HL.out).mono ?_
    rintro e w8 ⟨rfl, hm8, hb8⟩
    have HM8 := Lib.hid hm8
    have HK8 := Lib.hid (HK7.out.trans hb8)
    clear hm8 hb8
    go_wp2_with fail
    go_ret
    exact ⟨by rw [HE.out]; rfl, by rw [HE.out]; exact HM8.out, HK8.out⟩
set_option maxRecDepth 100000 in
set_option maxHeartbeats 1600000 in
theorem act_17 (l : Ls) (n m p d s c x base G1 G2 c1 c2 : Nat) (w : World) (hn : l.cs.length = n) (hm : l.ps.length = m) (h : MemL w base G1 G2 c1 c2 l) (hp : p < m) (hd : d < n) (hs : s < n) (hc : c < n) (hx : x < n) (hxd : (l.pr p).pred = (d : Int)) (hxs : (l.pr p).succ = (s : Int)) (hxc : (l.pr p).cell = (c : Int)) (hxx : (l.pr p).next = (x : Int)) (hph : (l.pr p).phase = 17) :
    Calls Tryz.prog 79 #[.slice (some ⟨G1, 0, none⟩) n c1, .pointer (some ⟨G2, p * 7, none⟩)] w (OptP (stepV l p) l base G1 G2 c1 c2 w) := by
  have hp' : p < l.ps.length := by rw [hm]; exact hp
  have hd' : d < l.cs.length := by rw [hn]; exact hd
  have hs' : s < l.cs.length := by rw [hn]; exact hs
  have hc' : c < l.cs.length := by rw [hn]; exact hc
  have hx' : x < l.cs.length := by rw [hn]; exact hx
  have n0 : 0 < n := by omega
  have r0 : (0 : Int) ≤ (d : Int) := by omega
  have r1 : (d : Int) < (n : Int) := by omega
  have t0 : (0 : Int) ≤ (c : Int) := by omega
  have t1 : (c : Int) < (n : Int) := by omega
  have HN := Lib.hid hn
  have HM := Lib.hid hm
  have HH := Lib.hid h
  have HK : Hid (Chg G1 G2 w w) := Lib.hid Chg.refl
  have HXD := Lib.hid hxd
  have HXS := Lib.hid hxs
  have HXC := Lib.hid hxc
  have HXX := Lib.hid hxx
  have HPH := Lib.hid hph
  have hne : ¬ G1 = G2 := h.ne
  have hne' : ¬ G2 = G1 := fun e => h.ne e.symm
  obtain ⟨O, hO⟩ : ∃ O, O = stepV l p := ⟨_, rfl⟩
  have HY : Hid (okI l d (c : Int) → O = some ((l.setC d { l.at_ d with right := (x : Int), gone := false }).setP p { l.pr p with phase := 18 })) := Lib.hid (fun q => by
    rw [hO]; unfold stepV
    simp only [hph, hxd, hxs, hxc, hxx, Int.toNat_natCast]
    rw [gone_same q]
    simp [q])
  have HNO : Hid (¬ okI l d (c : Int) → O = some (l.setP p { l.pr p with phase := 18 })) := Lib.hid (fun q => by
    rw [hO]; unfold stepV
    simp only [hph, hxd, hxs, hxc, hxx, Int.toNat_natCast]
    simp [q])
  rw [← hO]
  clear h hn hm hxd hxs hxc hxx hph hO
  obtain ⟨z1, z2⟩ := HH.out.fz
  obtain ⟨a1, a2, a3, a4, a5, a6, a7⟩ := HH.out.proc hp'
  rw [HPH.out] at a3
  rw [HXD.out] at a4
  rw [HXS.out] at a5
  rw [HXX.out] at a6
  rw [HXC.out] at a2
  go_enter Tryz.func79, Tryz.ntmps79
  have HF := Lib.hid (fun (V : World) (l1 : Ls) (e1 : l1.ps = l.ps) (k : MemL V base G1 G2 c1 c2 l1) => four k e1 hp' HXD.out HXS.out HXC.out HXX.out)
  have HBD : Hid (Below w.heap.size w w.drew) := Lib.hid (Below.refl _ _).drew
  have hS0 := HF.out w.drew l rfl (HH.out.below HBD.out)
  have HC := Lib.hid (fun (V : World) (k : Below w.heap.size w V) => change_any l n d base G1 G2 c1 c2 (c : Int) (x : Int) false V HN.out (HH.out.below k) hd)
  go_upto_region 20 with fail
  clear a1 a2 a3 a4 a5 a6 a7 z1 z2
  have x0 := hS0.1
  have x1 := hS0.2.1
  have x2 := hS0.2.2.1
  have x3 := hS0.2.2.2
  by_cases q : okI l d (c : Int)
  · have HE := Lib.hid (HY.out q)
    have HCS := Lib.hid (chg_some (r := (x : Int)) (g := false) q)
    clear HY HNO q
    go_region_held3 (fun V => V.cell? ⟨G2, p * 7 + 3, none⟩ = some (.int .i64 (d : Int)) ∧ V.cell? ⟨G2, p * 7 + 4, none⟩ = some (.int .i64 (s : Int)) ∧ V.cell? ⟨G2, p * 7 + 5, none⟩ = some (.int .i64 (x : Int)) ∧ V.cell? ⟨G2, p * 7 + 1, none⟩ = some (.int .i64 (c : Int))) (first | with_reducible exact hS7 | with_reducible exact hS0) ((go_at_call 120; refine (HC.out _ HBD.out).mono ?_; rw [HCS.out]; rintro e w7 ⟨rfl, hm7, hb7⟩; have hS7 := HF.out w7 (l.setC d { l.at_ d with right := (x : Int), gone := false }) rfl hm7))
    have HM7 : Hid (MemL w7 base G1 G2 c1 c2 (l.setC d { l.at_ d with right := (x : Int), gone := false })) := Lib.hid hm7
    have HK7 := Lib.hid ((Chg.of HBD.out).trans hb7)
    clear x0 x1 x2 x3 hS0 hS7 hm7 hb7 HC HF HH HK HCS
    have hpl : p < (l.setC d { l.at_ d with right := (x : Int), gone := false }).ps.length := hp'
    obtain ⟨z1, z2⟩ := HM7.out.fz
    obtain ⟨a1, a2, a3, a4, a5, a6, a7⟩ := HM7.out.proc hpl
    rw [show (l.setC d { l.at_ d with right := (x : Int), gone := false }).pr p = l.pr p from rfl, HXX.out] at a6
    have HI := HM7.out.init hpl
    rw [show (l.setC d { l.at_ d with right := (x : Int), gone := false }).pr p = l.pr p from rfl] at HI
    go_wp2_with fail
    clear z1 z2 a1 a2 a3 a4 a5 a6 a7
    go_ret
    refine ⟨by rw [HE.out]; rfl, ?_, (HK7.out.set2 _ _)⟩
    rw [HE.out]
    exact (HI.up (l := l.setC d { l.at_ d with right := (x : Int), gone := false }) hpl 2 (by decide) (.int .i64 18) { l.pr p with phase := 18 } rfl)
  · have HE := Lib.hid (HNO.out q)
    have HCS := Lib.hid (chg_none (r := (x : Int)) (g := false) q)
    clear HY HNO q
    go_region_held3 (fun V => V.cell? ⟨G2, p * 7 + 3, none⟩ = some (.int .i64 (d : Int)) ∧ V.cell? ⟨G2, p * 7 + 4, none⟩ = some (.int .i64 (s : Int)) ∧ V.cell? ⟨G2, p * 7 + 5, none⟩ = some (.int .i64 (x : Int)) ∧ V.cell? ⟨G2, p * 7 + 1, none⟩ = some (.int .i64 (c : Int))) (first | with_reducible exact hS7 | with_reducible exact hS0) ((go_at_call 120; refine (HC.out _ HBD.out).mono ?_; rw [HCS.out]; rintro e w7 ⟨rfl, hm7, hb7⟩; have hS7 := HF.out w7 l rfl hm7))
    have HM7 : Hid (MemL w7 base G1 G2 c1 c2 l) := Lib.hid hm7
    have HK7 := Lib.hid ((Chg.of HBD.out).trans hb7)
    clear x0 x1 x2 x3 hS0 hS7 hm7 hb7 HC HF HH HK HCS
    obtain ⟨z1, z2⟩ := HM7.out.fz
    obtain ⟨a1, a2, a3, a4, a5, a6, a7⟩ := HM7.out.proc hp'
    go_wp2_with fail
    clear z1 z2 a1 a2 a3 a4 a5 a6 a7
    go_ret
    exact ⟨by rw [HE.out]; rfl, by rw [HE.out]; exact (HM7.out.init hp').up hp' 2 (by decide) (.int .i64 18) { l.pr p with phase := 18 } rfl, HK7.out.set2 _ _⟩
set_option maxRecDepth 100000 in
set_option maxHeartbeats 1600000 in
theorem act_0 (l : Ls) (n m p d s c x base G1 G2 c1 c2 : Nat) (w : World) (hn : l.cs.length = n) (hm : l.ps.length = m) (h : MemL w base G1 G2 c1 c2 l) (hp : p < m) (hd : d < n) (hs : s < n) (hc : c < n) (hx : x < n) (hxd : (l.pr p).pred = (d : Int)) (hxs : (l.pr p).succ = (s : Int)) (hxc : (l.pr p).cell = (c : Int)) (hxx : (l.pr p).next = (x : Int)) (hph : (l.pr p).phase = 0) :
    Calls Tryz.prog 79 #[.slice (some ⟨G1, 0, none⟩) n c1, .pointer (some ⟨G2, p * 7, none⟩)] w (OptP (stepV l p) l base G1 G2 c1 c2 w) := by
  have hp' : p < l.ps.length := by rw [hm]; exact hp
  have hd' : d < l.cs.length := by rw [hn]; exact hd
  have hs' : s < l.cs.length := by rw [hn]; exact hs
  have hc' : c < l.cs.length := by rw [hn]; exact hc
  have hx' : x < l.cs.length := by rw [hn]; exact hx
  have n0 : 0 < n := by omega
  have r0 : (0 : Int) ≤ (d : Int) := by omega
  have r1 : (d : Int) < (n : Int) := by omega
  have t0 : (0 : Int) ≤ (c : Int) := by omega
  have t1 : (c : Int) < (n : Int) := by omega
  have HN := Lib.hid hn
  have HM := Lib.hid hm
  have HH := Lib.hid h
  have HK : Hid (Chg G1 G2 w w) := Lib.hid Chg.refl
  have HXD := Lib.hid hxd
  have HXS := Lib.hid hxs
  have HXC := Lib.hid hxc
  have HXX := Lib.hid hxx
  have HPH := Lib.hid hph
  have hne : ¬ G1 = G2 := h.ne
  have hne' : ¬ G2 = G1 := fun e => h.ne e.symm
  obtain ⟨O, hO⟩ : ∃ O, O = stepV l p := ⟨_, rfl⟩
  have HE : Hid (O = none) := Lib.hid (by
    rw [hO]; unfold stepV
    simp [hph])
  rw [← hO]
  clear h hn hm hxd hxs hxc hxx hph hO
  obtain ⟨z1, z2⟩ := HH.out.fz
  obtain ⟨a1, a2, a3, a4, a5, a6, a7⟩ := HH.out.proc hp'
  rw [HPH.out] at a3
  rw [HXD.out] at a4
  rw [HXS.out] at a5
  rw [HXX.out] at a6
  rw [HXC.out] at a2
  go_enter Tryz.func79, Tryz.ntmps79
  go_wp2_with fail
  go_ret
  exact ⟨by rw [HE.out]; rfl, by rw [HE.out]; exact HH.out, HK.out⟩
set_option maxRecDepth 100000 in
set_option maxHeartbeats 1600000 in
theorem act_18 (l : Ls) (n m p d s c x base G1 G2 c1 c2 : Nat) (w : World) (hn : l.cs.length = n) (hm : l.ps.length = m) (h : MemL w base G1 G2 c1 c2 l) (hp : p < m) (hd : d < n) (hs : s < n) (hc : c < n) (hx : x < n) (hxd : (l.pr p).pred = (d : Int)) (hxs : (l.pr p).succ = (s : Int)) (hxc : (l.pr p).cell = (c : Int)) (hxx : (l.pr p).next = (x : Int)) (hph : (l.pr p).phase = 18) :
    Calls Tryz.prog 79 #[.slice (some ⟨G1, 0, none⟩) n c1, .pointer (some ⟨G2, p * 7, none⟩)] w (OptP (stepV l p) l base G1 G2 c1 c2 w) := by
  have hp' : p < l.ps.length := by rw [hm]; exact hp
  have hd' : d < l.cs.length := by rw [hn]; exact hd
  have hs' : s < l.cs.length := by rw [hn]; exact hs
  have hc' : c < l.cs.length := by rw [hn]; exact hc
  have hx' : x < l.cs.length := by rw [hn]; exact hx
  have n0 : 0 < n := by omega
  have r0 : (0 : Int) ≤ (d : Int) := by omega
  have r1 : (d : Int) < (n : Int) := by omega
  have t0 : (0 : Int) ≤ (c : Int) := by omega
  have t1 : (c : Int) < (n : Int) := by omega
  have HN := Lib.hid hn
  have HM := Lib.hid hm
  have HH := Lib.hid h
  have HK : Hid (Chg G1 G2 w w) := Lib.hid Chg.refl
  have HXD := Lib.hid hxd
  have HXS := Lib.hid hxs
  have HXC := Lib.hid hxc
  have HXX := Lib.hid hxx
  have HPH := Lib.hid hph
  have hne : ¬ G1 = G2 := h.ne
  have hne' : ¬ G2 = G1 := fun e => h.ne e.symm
  obtain ⟨O, hO⟩ : ∃ O, O = stepV l p := ⟨_, rfl⟩
  have HE : Hid (O = none) := Lib.hid (by
    rw [hO]; unfold stepV
    simp [hph])
  rw [← hO]
  clear h hn hm hxd hxs hxc hxx hph hO
  obtain ⟨z1, z2⟩ := HH.out.fz
  obtain ⟨a1, a2, a3, a4, a5, a6, a7⟩ := HH.out.proc hp'
  rw [HPH.out] at a3
  rw [HXD.out] at a4
  rw [HXS.out] at a5
  rw [HXX.out] at a6
  rw [HXC.out] at a2
  go_enter Tryz.func79, Tryz.ntmps79
  go_wp2_with fail
  go_ret
  exact ⟨by rw [HE.out]; rfl, by rw [HE.out]; exact HH.out, HK.out⟩
/-- act on a valid list. -/
theorem act_any (l : Ls) (n m p base G1 G2 c1 c2 : Nat) (w : World) (hn : l.cs.length = n) (hm : l.ps.length = m) (h : MemL w base G1 G2 c1 c2 l) (hp : p < m) (v : Vlf l) :
    Calls Tryz.prog 79 #[.slice (some ⟨G1, 0, none⟩) n c1, .pointer (some ⟨G2, p * 7, none⟩)] w (OptP (stepV l p) l base G1 G2 c1 c2 w) := by
  have hp' : p < l.ps.length := by rw [hm]; exact hp
  obtain ⟨d, hxd, hd⟩ := nat_of (v.pd hp')
  obtain ⟨s, hxs, hs⟩ := nat_of (v.sc hp')
  obtain ⟨c, hxc, hc⟩ := nat_of (v.ce hp')
  obtain ⟨x, hxx, hx⟩ := nat_of (v.nx hp')
  rw [hn] at hd hs hc hx
  rcases v.ph p hp' with k | k | k | k | k | k | k | k
  · exact act_0 l n m p d s c x base G1 G2 c1 c2 w hn hm h hp hd hs hc hx hxd hxs hxc hxx k
  · exact act_1 l n m p d s c x base G1 G2 c1 c2 w hn hm h hp hd hs hc hx hxd hxs hxc hxx k
  · exact act_6 l n m p d s c x base G1 G2 c1 c2 w hn hm h hp hd hs hc hx hxd hxs hxc hxx k
  · exact act_14 l n m p d s c x base G1 G2 c1 c2 w hn hm h hp hd hs hc hx hxd hxs hxc hxx k
  · exact act_15 l n m p d s c x base G1 G2 c1 c2 w hn hm h hp hd hs hc hx hxd hxs hxc hxx k
  · exact act_16 l n m p d s c x base G1 G2 c1 c2 w hn hm h hp hd hs hc hx hxd hxs hxc hxx k
  · exact act_17 l n m p d s c x base G1 G2 c1 c2 w hn hm h hp hd hs hc hx hxd hxs hxc hxx k
  · exact act_18 l n m p d s c x base G1 G2 c1 c2 w hn hm h hp hd hs hc hx hxd hxs hxc hxx k
end Lf
end
section
open Go.RowKit Go.Maps
namespace Lf
open Lk
/-- The first k processes with the phases that a list with locks may have. -/
def psK (ps : List Po) (k : Nat) : List Po := (ps.take k).map rel ++ ps.drop k
theorem psK_zero (ps : List Po) : psK ps 0 = ps := by simp [psK]
theorem psK_all (ps : List Po) : psK ps ps.length = ps.map rel := by simp [psK]
theorem psK_len (ps : List Po) (k : Nat) : (psK ps k).length = ps.length := by simp [psK]; omega
theorem psK_at (ps : List Po) {k : Nat} (h : k < ps.length) : (psK ps k)[k]'(by rw [psK_len]; exact h) = ps[k] := by
  unfold psK
  rw [List.getElem_append_right (by simp; omega)]
  simp [Nat.min_eq_left (Nat.le_of_lt h)]
theorem psK_succ {ps : List Po} {k : Nat} (h : k < ps.length) (y : Po) (hy : y = rel ps[k]) : psK ps (k + 1) = (psK ps k).set k y := by
  unfold psK
  have e : ((ps.take k).map rel).length = k := by simp; omega
  rw [List.set_append_right _ _ (by omega), e, Nat.sub_self, List.drop_eq_getElem_cons h, List.set_cons_zero, List.take_succ_eq_append_getElem h, List.map_append, List.append_assoc, hy]
  rfl
def celOk (l : Ls) (i : Nat) : Prop := (l.at_ i).left = 0 ∧ ((l.at_ i).lock = 0 ∨ (l.at_ i).lock = 1)
theorem vlf_iff (l : Ls) : Vlf l ↔ (∀ i, i < l.cs.length → celOk l i) ∧ (∀ p, p < l.ps.length → isPh (l.pr p).phase) ∧ Vld (bas l) :=
  ⟨fun v => ⟨fun i hi => ⟨v.lf i hi, v.lk i hi⟩, v.ph, v.v⟩, fun h => ⟨h.2.2, fun i hi => (h.1 i hi).1, fun i hi => (h.1 i hi).2, h.2.1⟩⟩
set_option maxRecDepth 100000 in
set_option maxHeartbeats 6400000 in
theorem valid_any (A1 : Option Addr) (A2 : Addr) (l : Ls) (n m c1 c2 : Nat) (w : World) (hn : l.cs.length = n) (hm : l.ps.length = m) (h : RdL w 0 A1 (some A2) l) (m0 : 0 < m) (m1 : m ≤ 1000000) (n1 : n ≤ 1000000) :
    Calls Tryz.prog 74 #[.agg #[.slice A1 n c1, .slice (some A2) m c2]] w (BoolI (Vlf l) w) := by
  have HB0 := Lib.hid ((Below.refl w.heap.size w).alloc (Nat.le_refl _) (.cells #[.slice A1 n c1, .slice (some A2) m c2] 28))
  have HX0 := Lib.hid (Has.new w 28 #[.slice A1 n c1, .slice (some A2) m c2])
  have HL := Lib.hid h
  have HV : Hid (Vlf l ↔ (∀ i, i < n → celOk l i) ∧ (∀ p, p < m → isPh (l.pr p).phase) ∧ Vld (bas l)) := Lib.hid (by rw [← hn, ← hm]; exact vlf_iff l)
  have HN := Lib.hid hn
  have HM := Lib.hid hm
  obtain ⟨B, hB⟩ : ∃ B, B = w.heap.size := ⟨_, rfl⟩
  have HBB := Lib.hid hB
  have HSZ : Hid ((w.alloc (.cells #[.slice A1 n c1, .slice (some A2) m c2] 28)).heap.size = B + 1) := Lib.hid (by rw [World.size_alloc, hB])
  have x0 := HX0.out.cell 0
  have x1 := HX0.out.cell 1
  rw [← hB] at HB0 HX0 x0 x1
  clear h hn hm
  go_enter Tryz.func74, Tryz.ntmps74
  go_upto_region 1 with fail
  rw [← hB]
  generalize w.alloc (.cells #[.slice A1 n c1, .slice (some A2) m c2] 28) = W0 at *
  clear hB
  go_wp2_with fail
  go_loopw [11] (fun vi wr => ∃ (i : Nat), vi = .int .i64 (i : Int) ∧ i ≤ n ∧ Has wr B 28 #[.slice A1 n c1, .slice (some A2) m c2] ∧ Below B w wr ∧ B + 1 ≤ wr.heap.size ∧ Hid (∀ j, j < i → celOk l j)) (fun vi _ => n - (intOf vi).toNat)
  case atStart => exact ⟨0, rfl, by omega, HX0.out, HB0.out, by rw [HSZ.out]; omega, Lib.hid fun j h => by omega⟩
  case round =>
    obtain ⟨i, rfl, hi, hX, hB, hSz, HS⟩ := hrel
    clear HB0 HX0 HSZ x0 x1
    have HX := Lib.hid hX
    have HB := Lib.hid hB
    have x0 := hX.cell 0
    have x1 := hX.cell 1
    clear hX
    by_cases hlt : i < n
    · have i2 : i < l.cs.length := by rw [HN.out]; exact hlt
      obtain ⟨b, o, e, -, hb, f0, f1, f2, f3, f4⟩ := HL.out.cell i2
      subst e
      rw [← HBB.out] at hb
      replace f0 := (hB.cell (p := ⟨b, o + i * 5, none⟩) hb).trans f0
      replace f1 := (hB.cell (p := ⟨b, o + i * 5 + 1, none⟩) hb).trans f1
      replace f2 := (hB.cell (p := ⟨b, o + i * 5 + 2, none⟩) hb).trans f2
      replace f3 := (hB.cell (p := ⟨b, o + i * 5 + 3, none⟩) hb).trans f3
      replace f4 := (hB.cell (p := ⟨b, o + i * 5 + 4, none⟩) hb).trans f4
      have i0 : (0 : Int) ≤ (i : Int) := by omega
      have i1 : (i : Int) < (n : Int) := by omega
      have HBAD : Hid (¬ celOk l i → ¬ Vlf l) := Lib.hid fun h1 h2 => h1 ((HV.out.1 h2).1 i hlt)
      have HNX : Hid (celOk l i → ∀ j, j < i + 1 → celOk l j) := Lib.hid fun h1 j h2 => by
        rcases Nat.lt_or_ge j i with h3 | h3
        · exact HS.out j h3
        · obtain rfl : j = i := by omega
          exact h1
      have HCO : Hid (celOk l i ↔ (l.at_ i).left = 0 ∧ ((l.at_ i).lock = 0 ∨ (l.at_ i).lock = 1)) := Lib.hid Iff.rfl
      generalize l.at_ i = x at *
      obtain ⟨xk, xl, xr, xo, xg⟩ := x
      simp only at f0 f1 f2 f3 f4 HCO
      have HXN := Lib.hid (Has.new wr 66 #[.string xk, .int .i64 xl, .int .i64 xr, .int .i64 xo, .bool xg])
      have hbn := (Below.refl wr.heap.size wr).alloc (Nat.le_refl _) (.cells #[.string xk, .int .i64 xl, .int .i64 xr, .int .i64 xo, .bool xg] 66)
      have HX2 := Lib.hid (HX.out.below hbn)
      have HB2 := Lib.hid (HB.out.trans (hbn.mono (by omega)))
      have hS2 : (wr.alloc (.cells #[.string xk, .int .i64 xl, .int .i64 xr, .int .i64 xo, .bool xg] 66)).heap.size = wr.heap.size + 1 := by rw [World.size_alloc]
      clear hbn HX HB hB HS i2 hb
      go_upto_region 4 with fail
      clear f0 f1 f2 f3 f4 x0 x1
      generalize wr.alloc (.cells #[.string xk, .int .i64 xl, .int .i64 xr, .int .i64 xo, .bool xg] 66) = W at *
      have x0 := HX2.out.cell 0
      have x1 := HX2.out.cell 1
      have y1 := HXN.out.cell 1
      have y3 := HXN.out.cell 3
      by_cases q1 : xl = 0
      · subst q1
        by_cases q2 : xo = 0
        · subst q2
          have HG := Lib.hid (HNX.out (HCO.out.2 ⟨rfl, .inl rfl⟩))
          clear HBAD HNX HCO
          go_wp2_with fail
          exact ⟨⟨i + 1, by go_num, hlt, HX2.out, HB2.out, by omega, HG⟩, by simp [intOf]; omega⟩
        · have d2 : (xo != 0) = true := by simpa using q2
          by_cases q3 : xo = 1
          · subst q3
            have HG := Lib.hid (HNX.out (HCO.out.2 ⟨rfl, .inr rfl⟩))
            clear HBAD HNX HCO
            go_wp2_with fail
            exact ⟨⟨i + 1, by go_num, hlt, HX2.out, HB2.out, by omega, HG⟩, by simp [intOf]; omega⟩
          · have d3 : (xo != 1) = true := by simpa using q3
            have HG := Lib.hid (HBAD.out (fun q => by have := HCO.out.1 q; omega))
            clear HBAD HNX HCO
            go_wp2_with fail
            go_ret
            exact ⟨false, rfl, ⟨fun q => Bool.noConfusion q, fun q => absurd q HG.out⟩, by rw [← HBB.out]; exact HB2.out⟩
      · have d1 : (xl != 0) = true := by simpa using q1
        have HG := Lib.hid (HBAD.out (fun q => q1 (HCO.out.1 q).1))
        clear HBAD HNX HCO
        go_wp2_with fail
        go_ret
        exact ⟨false, rfl, ⟨fun q => Bool.noConfusion q, fun q => absurd q HG.out⟩, by rw [← HBB.out]; exact HB2.out⟩
    · obtain rfl : n = i := by omega
      have HV2 : Hid (Vlf l ↔ (∀ p, p < m → isPh (l.pr p).phase) ∧ Vld (bas l)) := Lib.hid ⟨fun q => (HV.out.1 q).2, fun q => HV.out.2 ⟨HS.out, q⟩⟩
      have HCL := Lib.hid (cloneP_any A2 l.ps m c2 0 wr HM.out (by
        refine RdR.keep HL.out.ps (by rw [← HBB.out]; omega) fun k _ hk => hB.block k (by rw [HBB.out]; exact hk)) m1 m0)
      clear hB HV HS
      go_wp2_with fail
      refine (HCL.out).mono ?_
      rintro e w3 ⟨G, d, rfl, hgG, hmG, hb3⟩
      have HX3 := Lib.hid (HX.out.below hb3)
      have HB3 := Lib.hid (HB.out.trans (hb3.mono hSz |>.mono (by omega)))
      have HMG : Hid (MutR Po.row 7 63 w3 G d (psK l.ps 0)) := Lib.hid (by rw [psK_zero]; exact hmG)
      have hs3 : B + 1 ≤ w3.heap.size := by have := hb3.size; omega
      have hgB : B + 1 ≤ G := by omega
      have HWR : Hid (Below w3.heap.size w3 w3) := Lib.hid (Below.refl _ _)
      clear hb3 hmG HX HB x0 x1 HCL
      go_wp2_with fail
      go_loopw [34] (fun vi wq => ∃ (i : Nat), vi = .int .i64 (i : Int) ∧ i ≤ m ∧ Has wq B 28 #[.slice A1 n c1, .slice (some A2) m c2] ∧ Below B w wq ∧ B + 1 ≤ wq.heap.size ∧ MutR Po.row 7 63 wq G d (psK l.ps i) ∧ Hid (∀ j, j < i → isPh (l.pr j).phase)) (fun vi _ => m - (intOf vi).toNat)
      case atStart => exact ⟨0, rfl, by omega, HX3.out, HB3.out, hs3, HMG.out, Lib.hid fun j h => by omega⟩
      case round =>
        obtain ⟨i, rfl, hi, hX, hB, hSz, hMG, HS⟩ := hrel
        clear HB3 HX3 HMG
        have HX := Lib.hid hX
        have HB := Lib.hid hB
        have HMG := Lib.hid hMG
        clear hX hB hMG
        by_cases hlt : i < m
        · have i2 : i < l.ps.length := by rw [HM.out]; exact hlt
          have i3 : i < (psK l.ps i).length := by rw [psK_len]; exact i2
          have hz := HMG.out.frozen
          have f0 := HMG.out.cell (i := i) (j := 0) (u := .int .i64 (l.pr i).kind) i3 (by rw [psK_at l.ps i2, l.pr_lt i2]; rfl)
          have f1 := HMG.out.cell (i := i) (j := 1) (u := .int .i64 (l.pr i).cell) i3 (by rw [psK_at l.ps i2, l.pr_lt i2]; rfl)
          have f2 := HMG.out.cell (i := i) (j := 2) (u := .int .i64 (l.pr i).phase) i3 (by rw [psK_at l.ps i2, l.pr_lt i2]; rfl)
          have f3 := HMG.out.cell (i := i) (j := 3) (u := .int .i64 (l.pr i).pred) i3 (by rw [psK_at l.ps i2, l.pr_lt i2]; rfl)
          have f4 := HMG.out.cell (i := i) (j := 4) (u := .int .i64 (l.pr i).succ) i3 (by rw [psK_at l.ps i2, l.pr_lt i2]; rfl)
          have f5 := HMG.out.cell (i := i) (j := 5) (u := .int .i64 (l.pr i).next) i3 (by rw [psK_at l.ps i2, l.pr_lt i2]; rfl)
          have f6 := HMG.out.cell (i := i) (j := 6) (u := .bool (l.pr i).res) i3 (by rw [psK_at l.ps i2, l.pr_lt i2]; rfl)
          rw [Nat.add_zero] at f0
          have i0 : (0 : Int) ≤ (i : Int) := by omega
          have i1 : (i : Int) < (m : Int) := by omega
          by_cases hph : isPh (l.pr i).phase
          · have HG : Hid (∀ j, j < i + 1 → isPh (l.pr j).phase) := Lib.hid fun j h2 => by
              rcases Nat.lt_or_ge j i with h3 | h3
              · exact HS.out j h3
              · obtain rfl : j = i := by omega
                exact hph
            have H1 := Lib.hid ((isPhase_any (l.pr i).phase wr).mono fun e w' h => h.yes hph)
            have HPK : Hid (∀ y, y = rel (l.pr i) → psK l.ps (i + 1) = (psK l.ps i).set i y) := Lib.hid fun y hy => psK_succ i2 y (by rw [hy, l.pr_lt i2])
            have HPS : Hid (psK l.ps i = (psK l.ps i).set i (l.pr i)) := Lib.hid (by
              rw [← l.pr_lt i2, ← psK_at l.ps i2, List.set_getElem_self])
            have HPA : Hid ((psK l.ps i)[i]'i3 = l.pr i) := Lib.hid (by rw [psK_at l.ps i2, l.pr_lt i2])
            go_wp2_with fail
            refine (H1.out).mono ?_
            rintro e w4 ⟨rfl, hb4⟩
            have HX4 := Lib.hid (HX.out.below hb4)
            have HB4 := Lib.hid (HB.out.trans (hb4.mono (by omega)))
            have HMG4 := Lib.hid (HMG.out.below hb4)
            have hs4 : B + 1 ≤ w4.heap.size := by have := hb4.size; omega
            clear hb4 f0 f1 f2 f3 f4 f5 f6 hz HX HB HMG H1 hph
            have hz := HMG4.out.frozen
            have f0 := HMG4.out.cell (i := i) (j := 0) (u := .int .i64 (l.pr i).kind) i3 (by rw [HPA.out]; rfl)
            have f1 := HMG4.out.cell (i := i) (j := 1) (u := .int .i64 (l.pr i).cell) i3 (by rw [HPA.out]; rfl)
            have f2 := HMG4.out.cell (i := i) (j := 2) (u := .int .i64 (l.pr i).phase) i3 (by rw [HPA.out]; rfl)
            have f3 := HMG4.out.cell (i := i) (j := 3) (u := .int .i64 (l.pr i).pred) i3 (by rw [HPA.out]; rfl)
            have f4 := HMG4.out.cell (i := i) (j := 4) (u := .int .i64 (l.pr i).succ) i3 (by rw [HPA.out]; rfl)
            have f5 := HMG4.out.cell (i := i) (j := 5) (u := .int .i64 (l.pr i).next) i3 (by rw [HPA.out]; rfl)
            have f6 := HMG4.out.cell (i := i) (j := 6) (u := .bool (l.pr i).res) i3 (by rw [HPA.out]; rfl)
            rw [Nat.add_zero] at f0
            by_cases hu : (l.pr i).phase ≠ 0 ∧ (l.pr i).phase ≠ 18
            · have H2 := Lib.hid ((underWay_any (l.pr i) w4).mono fun e w' h => h.yes hu)
              have HNX := Lib.hid (HPK.out { l.pr i with phase := 1 } (by unfold rel; rw [if_neg (by omega)]))
              clear HPK HPS hu
              go_wp2_with fail
              refine (H2.out).mono ?_
              rintro e w5 ⟨rfl, hb5⟩
              have HX5 := Lib.hid (HX4.out.below hb5)
              have HB5 := Lib.hid (HB4.out.trans (hb5.mono (by omega)))
              have HMG5 := Lib.hid (HMG4.out.below hb5)
              have hs5 : B + 1 ≤ w5.heap.size := by have := hb5.size; omega
              clear hb5 f0 f1 f2 f3 f4 f5 f6 hz HX4 HB4 HMG4
              have hz := HMG5.out.frozen
              have f2 := HMG5.out.cell (i := i) (j := 2) (u := .int .i64 (l.pr i).phase) i3 (by rw [HPA.out]; rfl)
              go_wp2_with fail
              refine ⟨⟨i + 1, by go_num, hlt, ?_, HB5.out.setCell (by simp only; omega) _, by simpa [World.setCell] using hs5, ?_, HG⟩, by simp [intOf]; omega⟩
              · exact (Below.heap_setCell w5 ⟨G, i * 7 + 2, none⟩ _ B (by simp only; omega)).trans HX5.out
              · rw [HNX.out]
                exact HMG5.out.put Po.row_len i3 (by decide) _ _ (by rw [HPA.out]; rfl)
            · have H2 := Lib.hid ((underWay_any (l.pr i) w4).mono fun e w' h => h.no hu)
              have HNX := Lib.hid (HPK.out (l.pr i) (by unfold rel; rw [if_pos (by omega)]))
              clear HPK hu
              go_wp2_with fail
              refine (H2.out).mono ?_
              rintro e w5 ⟨rfl, hb5⟩
              have HX5 := Lib.hid (HX4.out.below hb5)
              have HB5 := Lib.hid (HB4.out.trans (hb5.mono (by omega)))
              have HMG5 := Lib.hid (HMG4.out.below hb5)
              have hs5 : B + 1 ≤ w5.heap.size := by have := hb5.size; omega
              clear hb5 f0 f1 f2 f3 f4 f5 f6 hz HX4 HB4 HMG4
              go_wp2_with fail
              refine ⟨⟨i + 1, by go_num, hlt, HX5.out, HB5.out, hs5, ?_, HG⟩, by simp [intOf]; omega⟩
              rw [HNX.out, ← HPS.out]
              exact HMG5.out
          · have H1 := Lib.hid ((isPhase_any (l.pr i).phase wr).mono fun e w' h => h.no hph)
            have HG := Lib.hid (fun q => hph ((HV2.out.1 q).1 i hlt))
            go_wp2_with fail
            refine (H1.out).mono ?_
            rintro e w4 ⟨rfl, hb4⟩
            have HB4 := Lib.hid (HB.out.trans (hb4.mono (by omega)))
            clear hb4 f0 f1 f2 f3 f4 f5 f6 hz
            go_wp2_with fail
            go_ret
            exact ⟨false, rfl, ⟨fun q => Bool.noConfusion q, fun q => absurd q HG.out⟩, by rw [← HBB.out]; exact HB4.out⟩
        · obtain rfl : m = i := by omega
          have x0 := HX.out.cell 0
          have x1 := HX.out.cell 1
          have HVA := Lib.hid (Lk.valid_any A1 (some ⟨G, 0, none⟩) (bas l) n m c1 d wr HN.out (by rw [bas_len]; exact HM.out) ⟨RdR.keep HL.out.cs (by have := HB.out.size; rw [← HBB.out]; omega) fun k _ hk => HB.out.block k (by rw [HBB.out]; exact hk), by
            have := HMG.out.rd (lo := 0) (Nat.zero_le _)
            rw [← HM.out, psK_all] at this
            exact this⟩)
          have HV3 : Hid (Vlf l ↔ Vld (bas l)) := Lib.hid ⟨fun q => (HV2.out.1 q).2, fun q => HV2.out.2 ⟨HS.out, q⟩⟩
          clear HV2 HS HMG
          go_wp2_with fail
          refine (HVA.out).mono ?_
          rintro e w5 ⟨b, rfl, hb, hb5⟩
          have HB5 := Lib.hid (HB.out.trans (hb5.mono (by omega)))
          have HBI := Lib.hid hb
          clear hb hb5 x0 x1
          go_wp2_with fail
          go_ret
          exact ⟨b, rfl, HBI.out.trans HV3.out.symm, by rw [← HBB.out]; exact HB5.out⟩
end Lf
end
section
open Go.RowKit Go.Maps
namespace Lf
open Lk
set_option maxRecDepth 100000 in
set_option maxHeartbeats 1600000 in
theorem copied_any (A1 A2 : Addr) (l : Ls) (n m c1 c2 lo : Nat) (w : World) (hn : l.cs.length = n) (hm : l.ps.length = m) (h : RdL w lo (some A1) (some A2) l) (n0 : 0 < n) (m0 : 0 < m) (n1 : n ≤ 1000000) (m1 : m ≤ 1000000) :
    Calls Tryz.prog 76 #[.agg #[.slice (some A1) n c1, .slice (some A2) m c2]] w (CopP l n m w) := by
  have hx := ((Has.new w 28 #[.slice (some A1) n c1, .slice (some A2) m c2]).below ((Below.refl _ _).alloc (Nat.le_refl _) (.cells #[.slice none 0 0, .slice none 0 0] 28)))
  have hb := ((Below.refl w.heap.size w).alloc (Nat.le_refl _) (.cells #[.slice (some A1) n c1, .slice (some A2) m c2] 28)).alloc (by rw [World.size_alloc]; omega) (.cells #[.slice none 0 0, .slice none 0 0] 28)
  have hy := Has.new (w.alloc (.cells #[.slice (some A1) n c1, .slice (some A2) m c2] 28)) 28 #[.slice none 0 0, .slice none 0 0]
  have hz : ((w.alloc (.cells #[.slice (some A1) n c1, .slice (some A2) m c2] 28)).alloc (.cells #[.slice none 0 0, .slice none 0 0] 28)).heap.size = w.heap.size + 1 + 1 := by rw [World.size_alloc, World.size_alloc]
  rw [World.size_alloc] at hy
  go_enter Tryz.func76, Tryz.ntmps76
  go_upto_region 1 with fail
  generalize (w.alloc (.cells #[.slice (some A1) n c1, .slice (some A2) m c2] 28)).alloc (.cells #[.slice none 0 0, .slice none 0 0] 28) = W at *
  have x0 := hx.cell 0
  have x1 := hx.cell 1
  have HC := Lib.hid (fun (V : World) (k : Below W.heap.size W V) => cloneC_any A1 l.cs n c1 lo V hn (RdR.below (RdR.below h.cs hb) k) n1 n0)
  have HP := Lib.hid (fun (V : World) (k : Below W.heap.size W V) => cloneP_any A2 l.ps m c2 lo V hm (RdR.below (RdR.below h.ps hb) k) m1 m0)
  have HX := Lib.hid hx
  have HK := Lib.hid (fun (V : World) (k : Below W.heap.size W V) => (⟨(hx.below k).cell 0, (hx.below k).cell 1, (hy.below k).cell 0, (hy.below k).cell 1, (hy.below k).frozen 0, (hy.below k).frozen 1, k⟩ : V.cell? ⟨w.heap.size, 0, none⟩ = some (.slice (some A1) n c1) ∧ V.cell? ⟨w.heap.size, 1, none⟩ = some (.slice (some A2) m c2) ∧ V.cell? ⟨w.heap.size + 1, 0, none⟩ = some (.slice none 0 0) ∧ V.cell? ⟨w.heap.size + 1, 1, none⟩ = some (.slice none 0 0) ∧ V.frozen? ⟨w.heap.size + 1, 0, none⟩ = false ∧ V.frozen? ⟨w.heap.size + 1, 1, none⟩ = false ∧ Below W.heap.size W V))
  have HY := Lib.hid hy
  have HB := Lib.hid hb
  have HZ := Lib.hid hz
  have HN := Lib.hid hn
  have HM := Lib.hid hm
  have hS0 := HK.out W.drew ((Below.refl _ _).drew)
  clear hx hy hb hz hn hm h n1 m1
  obtain ⟨B, hB⟩ : ∃ B, B = w.heap.size := ⟨_, rfl⟩
  rw [← hB] at x0 x1 hS0 HK HY HB HZ ⊢
  have HBB := Lib.hid hB
  clear hB
  obtain ⟨x0, x1, y0, y1, z0, z1, hbw⟩ := hS0
  go_region_law (first | (go_simp; go_at_call 97; refine (HP.out _ hb7).mono ?_; rintro e w8 ⟨G2, d2, rfl, hg8, ho8, hb8⟩; have hS8 := HK.out _ (hb7.trans (hb8.mono hb7.size)); obtain ⟨x0, x1, y0, y1, z0, z1, hb8⟩ := hS8) | (go_simp; go_at_call 96; refine (HC.out _ hbw).mono ?_; rintro e w7 ⟨G1, d1, rfl, hg7, ho7, hb7⟩; have hS7 := HK.out _ (hbw.trans (hb7.mono hbw.size)); obtain ⟨x0, x1, y0, y1, z0, z1, hb7⟩ := hS7))
  all_goals
    have HE := Lib.hid (cop_end HBB.out HZ.out HB.out hb7 hg7 ho7 (by assumption) hg8 ho8 (.slice (some ⟨G1, 0, none⟩) n d1) (.slice (some ⟨G2, 0, none⟩) m d2))
    clear ho7 ho8 hg7 hg8 hbw
    go_wp2_with fail
    (try simp only [Exit.inBlock, Exit.then])
    have h2 := twice0 w8 (B + 1) (.slice (some ⟨G1, 0, none⟩) n d1) (.slice (some ⟨G2, 0, none⟩) m d2) _ _ y0 y1
    exact bodyPost_ret (results_list rfl _ _ (B + 1) rfl h2.1 h2.2) rfl ⟨_, _, _, _, rfl, HE.out⟩
/-- What a step leads to; none: the process is none, or has nothing to do. -/
def stpO (l : Ls) (p : Int) : Option Ls := if 0 ≤ p ∧ p < (l.ps.length : Int) then stepV l p.toNat else none
/-- A list that a call returns. -/
def StpP (l : Ls) (p : Int) (n m : Nat) (w : World) (e : Ending) (w' : World) : Prop := ∃ G1 G2 d1 d2, e = .returned (.tuple #[.agg #[.slice (some ⟨G1, 0, none⟩) n d1, .slice (some ⟨G2, 0, none⟩) m d2], .bool (stpO l p).isSome]) ∧ RdL w' w.heap.size (some ⟨G1, 0, none⟩) (some ⟨G2, 0, none⟩) ((stpO l p).getD l) ∧ Below w.heap.size w w'
set_option maxRecDepth 100000 in
set_option maxHeartbeats 6400000 in
theorem step_any (A1 A2 : Addr) (l : Ls) (p : Int) (n m c1 c2 : Nat) (w : World) (hn : l.cs.length = n) (hm : l.ps.length = m) (h : RdL w 0 (some A1) (some A2) l) (v : Vlf l) :
    Calls Tryz.prog 33 #[.agg #[.slice (some A1) n c1, .slice (some A2) m c2], .int .i64 p] w (StpP l p n m w) := by
  have n0 : 0 < n := by have := v.n2; omega
  have m0 : 0 < m := by have := v.m1; omega
  have n66 : n ≤ 66 := by rw [← hn]; exact v.n66
  have m8 : m ≤ 8 := by rw [← hm]; exact v.m8
  have hx := ((Has.new w 28 #[.slice (some A1) n c1, .slice (some A2) m c2]).below ((Below.refl _ _).alloc (Nat.le_refl _) (.cells #[.slice none 0 0, .slice none 0 0] 28)))
  have hb := ((Below.refl w.heap.size w).alloc (Nat.le_refl _) (.cells #[.slice (some A1) n c1, .slice (some A2) m c2] 28)).alloc (by rw [World.size_alloc]; omega) (.cells #[.slice none 0 0, .slice none 0 0] 28)
  have hy := Has.new (w.alloc (.cells #[.slice (some A1) n c1, .slice (some A2) m c2] 28)) 28 #[.slice none 0 0, .slice none 0 0]
  have hz : ((w.alloc (.cells #[.slice (some A1) n c1, .slice (some A2) m c2] 28)).alloc (.cells #[.slice none 0 0, .slice none 0 0] 28)).heap.size = w.heap.size + 1 + 1 := by rw [World.size_alloc, World.size_alloc]
  rw [World.size_alloc] at hy
  have HB := Lib.hid hb
  have HX := Lib.hid hx
  have HY := Lib.hid hy
  have HL := Lib.hid (h.below hb)
  have HN := Lib.hid hn
  have HM := Lib.hid hm
  have HV := Lib.hid v
  clear hx hb hy h hn hm v
  go_enter Tryz.func33, Tryz.ntmps33
  go_upto_region 1 with fail
  generalize (w.alloc (.cells #[.slice (some A1) n c1, .slice (some A2) m c2] 28)).alloc (.cells #[.slice none 0 0, .slice none 0 0] 28) = W at *
  obtain ⟨B, hB⟩ : ∃ B, B = w.heap.size := ⟨_, rfl⟩
  rw [← hB] at HX HY HB hz ⊢
  have HBB := Lib.hid hB
  clear hB
  have x0 := HX.out.cell 0
  have x1 := HX.out.cell 1
  have HVA := Lib.hid ((valid_any (some A1) A2 l n m c1 c2 W HN.out HM.out HL.out m0 (by omega) (by omega)).mono fun e w' h => h.yes HV.out)
  go_wp2_with fail
  refine (HVA.out).mono ?_
  rintro e w2 ⟨rfl, hb2⟩
  have HX2 := Lib.hid (HX.out.below hb2)
  have HY2 := Lib.hid (HY.out.below hb2)
  have HB2 := Lib.hid (HB.out.trans (hb2.mono (by omega)))
  have hs2 : B + 1 + 1 ≤ w2.heap.size := by have := hb2.size; omega
  have HCO := Lib.hid (copied_any A1 A2 l n m c1 c2 0 w2 HN.out HM.out (HL.out.below hb2) n0 m0 (by omega) (by omega))
  clear x0 x1 hb2 hz HVA HX HY HB HL
  have x0 := HX2.out.cell 0
  have x1 := HX2.out.cell 1
  go_wp2_with fail
  refine (HCO.out).mono ?_
  rintro e w3 ⟨G1, G2, d1, d2, rfl, hM, hb3⟩
  go_upto_region 4 with fail
  have hA := (Below.refl w3.heap.size w3).alloc (Nat.le_refl _) (.cells #[.slice (some ⟨G1, 0, none⟩) n d1, .slice (some ⟨G2, 0, none⟩) m d2] 28)
  have HX4 := Lib.hid (Has.new w3 28 #[.slice (some ⟨G1, 0, none⟩) n d1, .slice (some ⟨G2, 0, none⟩) m d2])
  have HY4 := Lib.hid ((HY2.out.below hb3).below hA)
  have HM4 := Lib.hid (hM.below hA)
  have hs3 : B + 1 + 1 ≤ w3.heap.size := Nat.le_trans hs2 hb3.size
  have HB4 := Lib.hid ((HB2.out.trans (hb3.mono (by omega))).trans (hA.mono (by omega)))
  have hg1 : G1 < w3.heap.size := hM.cs.lt
  have hg2 : G2 < w3.heap.size := hM.ps.lt
  have hg3 : w2.heap.size ≤ G1 := hM.b1
  have hg4 : w2.heap.size ≤ G2 := hM.b2
  clear hA hM hb3 HX2 HY2 HB2 x0 x1 HCO
  generalize w3.alloc (.cells #[.slice (some ⟨G1, 0, none⟩) n d1, .slice (some ⟨G2, 0, none⟩) m d2] 28) = W4 at *
  obtain ⟨C, hC⟩ : ∃ C, C = w3.heap.size := ⟨_, rfl⟩
  rw [← hC] at HX4 hs3 hg1 hg2 ⊢
  clear hC
  have x0 : W4.drew.cell? ⟨C, 0, none⟩ = some (.slice (some ⟨G1, 0, none⟩) n d1) := HX4.out.cell 0
  have x1 : W4.drew.cell? ⟨C, 1, none⟩ = some (.slice (some ⟨G2, 0, none⟩) m d2) := HX4.out.cell 1
  have y0 : W4.drew.cell? ⟨B + 1, 0, none⟩ = some (.slice none 0 0) := HY4.out.cell 0
  have y1 : W4.drew.cell? ⟨B + 1, 1, none⟩ = some (.slice none 0 0) := HY4.out.cell 1
  have z0 : W4.drew.frozen? ⟨B + 1, 0, none⟩ = false := HY4.out.frozen 0
  have z1 : W4.drew.frozen? ⟨B + 1, 1, none⟩ = false := HY4.out.frozen 1
  by_cases hp0 : 0 ≤ p
  · by_cases hp1 : p < (m : Int)
    · obtain ⟨k, rfl, hk⟩ : ∃ k : Nat, p = (k : Int) ∧ k < m := ⟨p.toNat, by omega, by omega⟩
      have HAC := Lib.hid (act_any l n m k w2.heap.size G1 G2 d1 d2 W4.drew HN.out HM.out HM4.out.drew hk HV.out)
      have HEQ : Hid (stpO l (k : Int) = stepV l k) := Lib.hid (by unfold stpO; rw [if_pos ⟨by omega, by rw [HM.out]; omega⟩]; rfl)
      have HS := Lib.hid (fun (V : World) (k : Chg G1 G2 W4.drew V) => (⟨(k.has (Has.drew HX4.out) (by omega) (by omega)).cell 0, (k.has (Has.drew HX4.out) (by omega) (by omega)).cell 1⟩ : V.cell? ⟨C, 0, none⟩ = some (.slice (some ⟨G1, 0, none⟩) n d1) ∧ V.cell? ⟨C, 1, none⟩ = some (.slice (some ⟨G2, 0, none⟩) m d2)))
      have HT := Lib.hid (fun (V : World) (k : Chg G1 G2 W4.drew V) (u v : Value) => (by
        have e : ((V.setCell ⟨B + 1, 0, none⟩ u).setCell ⟨B + 1, 1, none⟩ v).heap[C]? = V.heap[C]? := (Below.heap_setCell _ ⟨B + 1, 1, none⟩ v C (by simp only; omega)).trans (Below.heap_setCell V ⟨B + 1, 0, none⟩ u C (by simp only; omega))
        have k2 := HS.out V k
        exact ⟨(World.cell?_of_block (a := ⟨C, 0, none⟩) e).trans k2.1, (World.cell?_of_block (a := ⟨C, 1, none⟩) e).trans k2.2⟩ : ((V.setCell ⟨B + 1, 0, none⟩ u).setCell ⟨B + 1, 1, none⟩ v).cell? ⟨C, 0, none⟩ = some (.slice (some ⟨G1, 0, none⟩) n d1) ∧ ((V.setCell ⟨B + 1, 0, none⟩ u).setCell ⟨B + 1, 1, none⟩ v).cell? ⟨C, 1, none⟩ = some (.slice (some ⟨G2, 0, none⟩) m d2)))
      have hS0 := HS.out W4.drew Chg.refl
      have k0 : (0 : Int) ≤ (k : Int) := by omega
      have g0 : decide ((k : Int) ≥ 0) = true := by simp
      have g1 : decide ((k : Int) < (m : Int)) = true := by simp; omega
      go_region_held3 (fun V => V.cell? ⟨C, 0, none⟩ = some (.slice (some ⟨G1, 0, none⟩) n d1) ∧ V.cell? ⟨C, 1, none⟩ = some (.slice (some ⟨G2, 0, none⟩) m d2)) (first | with_reducible exact hS8 | with_reducible exact hS0 | with_reducible exact hS9 _ _) ((go_at_call 79; refine (HAC.out).mono ?_; rintro e w8 ⟨rfl, hm8, hc8⟩; have hS8 := HS.out w8 hc8; have hS9 := HT.out w8 hc8; have y0 := (hc8.has (Has.drew HY4.out) (by omega) (by omega)).cell 0; have y1 := (hc8.has (Has.drew HY4.out) (by omega) (by omega)).cell 1; have z0 := (hc8.has (Has.drew HY4.out) (by omega) (by omega)).frozen 0; have z1 := (hc8.has (Has.drew HY4.out) (by omega) (by omega)).frozen 1))
      all_goals
        have HE := Lib.hid (Lk.step_end HBB.out HB4.out hs2 hg3 hg4 hc8 hm8 (.slice (some ⟨G1, 0, none⟩) n d1) (.slice (some ⟨G2, 0, none⟩) m d2))
        clear hm8 hc8
        go_wp2_with fail
        (try simp only [Exit.inBlock, Exit.then])
        have h2 := twice0 w8 (B + 1) (.slice (some ⟨G1, 0, none⟩) n d1) (.slice (some ⟨G2, 0, none⟩) m d2) _ _ y0 y1
        refine bodyPost_ret (results_list1 rfl _ _ (B + 1) rfl h2.1 h2.2) rfl ⟨G1, G2, d1, d2, ?_, ?_⟩
        · rw [HEQ.out]; rfl
        · rw [HEQ.out]; exact HE.out
    · have HEQ : Hid (stpO l p = none) := Lib.hid (by unfold stpO; rw [if_neg (by rw [HM.out]; exact fun q => hp1 q.2)])
      have e1 : decide (p < (m : Int)) = false := decide_eq_false hp1
      have e0 : decide (p ≥ 0) = true := decide_eq_true hp0
      have e00 : decide (0 ≤ p) = true := decide_eq_true hp0
      clear hp1
      have HM8 := Lib.hid HM4.out.drew
      have x0' : W4.cell? ⟨C, 0, none⟩ = some (.slice (some ⟨G1, 0, none⟩) n d1) := x0
      have x1' : W4.cell? ⟨C, 1, none⟩ = some (.slice (some ⟨G2, 0, none⟩) m d2) := x1
      have y0' : W4.cell? ⟨B + 1, 0, none⟩ = some (.slice none 0 0) := y0
      have y1' : W4.cell? ⟨B + 1, 1, none⟩ = some (.slice none 0 0) := y1
      have z0' : W4.frozen? ⟨B + 1, 0, none⟩ = false := z0
      have z1' : W4.frozen? ⟨B + 1, 1, none⟩ = false := z1
      go_region
      all_goals
        have HE := Lib.hid (Lk.step_end HBB.out HB4.out hs2 hg3 hg4 Chg.refl HM8.out (.slice (some ⟨G1, 0, none⟩) n d1) (.slice (some ⟨G2, 0, none⟩) m d2))
        go_wp2_with fail
        (try simp only [Exit.inBlock, Exit.then])
        have h2 := twice0 W4.drew (B + 1) (.slice (some ⟨G1, 0, none⟩) n d1) (.slice (some ⟨G2, 0, none⟩) m d2) _ _ y0 y1
        refine bodyPost_ret (results_list1 rfl _ _ (B + 1) rfl h2.1 h2.2) rfl ⟨G1, G2, d1, d2, ?_, ?_⟩
        · rw [HEQ.out]; rfl
        · rw [HEQ.out]; exact HE.out
  · have HEQ : Hid (stpO l p = none) := Lib.hid (by unfold stpO; rw [if_neg (by exact fun q => hp0 q.1)])
    have e1 : decide (p ≥ 0) = false := decide_eq_false hp0
    have e2 : decide (0 ≤ p) = false := decide_eq_false hp0
    clear hp0
    have HM8 := Lib.hid HM4.out.drew
    have x0' : W4.cell? ⟨C, 0, none⟩ = some (.slice (some ⟨G1, 0, none⟩) n d1) := x0
    have x1' : W4.cell? ⟨C, 1, none⟩ = some (.slice (some ⟨G2, 0, none⟩) m d2) := x1
    have y0' : W4.cell? ⟨B + 1, 0, none⟩ = some (.slice none 0 0) := y0
    have y1' : W4.cell? ⟨B + 1, 1, none⟩ = some (.slice none 0 0) := y1
    have z0' : W4.frozen? ⟨B + 1, 0, none⟩ = false := z0
    have z1' : W4.frozen? ⟨B + 1, 1, none⟩ = false := z1
    go_region
    all_goals
      have HE := Lib.hid (Lk.step_end HBB.out HB4.out hs2 hg3 hg4 Chg.refl HM8.out (.slice (some ⟨G1, 0, none⟩) n d1) (.slice (some ⟨G2, 0, none⟩) m d2))
      go_wp2_with fail
      (try simp only [Exit.inBlock, Exit.then])
      have h2 := twice0 W4.drew (B + 1) (.slice (some ⟨G1, 0, none⟩) n d1) (.slice (some ⟨G2, 0, none⟩) m d2) _ _ y0 y1
      refine bodyPost_ret (results_list1 rfl _ _ (B + 1) rfl h2.1 h2.2) rfl ⟨G1, G2, d1, d2, ?_, ?_⟩
      · rw [HEQ.out]; rfl
      · rw [HEQ.out]; exact HE.out
end Lf
end
end Go.Proofs.YtmhbloefmknikaaGreatDoor
