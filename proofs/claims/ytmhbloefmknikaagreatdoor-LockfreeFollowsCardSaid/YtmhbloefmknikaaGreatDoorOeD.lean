/-
  swap and again of the reference of chapter 12, in place. Conditions: the list may be changed in place.
-/
import Derived.Test.YtmhbloefmknikaaGreatDoorOeA
import Derived.Test.YtmhbloefmknikaaGreatDoorMbD
namespace Go.Proofs.YtmhbloefmknikaaGreatDoor
open Go.RowKit Go.Maps
namespace Lf
open Lk
set_option maxRecDepth 100000 in
set_option maxHeartbeats 1600000 in
theorem rswapF_any (l : Ls) (n m i base G1 G2 c1 c2 : Nat) (e r : Int) (w : World) (hn : l.cs.length = n) (h : MemL w base G1 G2 c1 c2 l) (hi : i < n) :
    Calls Tryz.prog 122 #[.agg #[.slice (some ⟨G1, 0, none⟩) n c1, .slice (some ⟨G2, 0, none⟩) m c2], .int .i64 (i : Int), .int .i64 e, .int .i64 r] w (OptP (chgV l i e r false) l base G1 G2 c1 c2 w) := by
  have hi' : i < l.cs.length := by rw [hn]; exact hi
  have i0 : (0 : Int) ≤ (i : Int) := by omega
  have i1 : (i : Int) < (n : Int) := by omega
  have HK : Hid (Chg G1 G2 w _) := Lib.hid (Chg.of ((Below.refl w.heap.size w).alloc (Nat.le_refl _) (.cells #[.slice (some ⟨G1, 0, none⟩) n c1, .slice (some ⟨G2, 0, none⟩) m c2] 28)))
  have HH := Lib.hid (h.below ((Below.refl _ _).alloc (Nat.le_refl _) (.cells #[.slice (some ⟨G1, 0, none⟩) n c1, .slice (some ⟨G2, 0, none⟩) m c2] 28)))
  have HX := Lib.hid (Has.new w 28 #[.slice (some ⟨G1, 0, none⟩) n c1, .slice (some ⟨G2, 0, none⟩) m c2])
  have hbn : G1 < w.heap.size ∧ G2 < w.heap.size := ⟨h.cs.lt, h.ps.lt⟩
  clear h hn
  by_cases hr : (l.at_ i).right = e
  · by_cases hg : (l.at_ i).gone = true
    · have HE : Hid (chgV l i e r false = none) := Lib.hid (by unfold chgV; rw [if_neg (fun q : okI l i e => by have := q.2; rw [hg] at this; cases this)])
      go_enter Tryz.func122, Tryz.ntmps122
      go_upto_region 1 with fail
      generalize w.alloc (.cells #[.slice (some ⟨G1, 0, none⟩) n c1, .slice (some ⟨G2, 0, none⟩) m c2] 28) = W at *
      obtain ⟨B, hB⟩ : ∃ B, B = w.heap.size := ⟨_, rfl⟩
      rw [← hB] at HX hbn ⊢
      clear hB
      have x0 := HX.out.cell 0
      have x1 := HX.out.cell 1
      have hX1 : ¬ B = G1 := by omega
      have hX2 : ¬ B = G2 := by omega
      obtain ⟨z1, z2⟩ := HH.out.fz
      obtain ⟨b1, b2, b3, b4, b5⟩ := HH.out.cell hi'
      rw [hg] at b5
      rw [hr] at b3
      have d1 : (e != e) = false := by simp
      clear hr hg
      go_wp2_with fail
      go_ret
      exact ⟨by rw [HE.out]; rfl, by rw [HE.out]; exact HH.out, HK.out⟩
    · have hg' : (l.at_ i).gone = false := by simpa using hg
      have HE : Hid (chgV l i e r false = some (l.setC i { l.at_ i with right := r })) := Lib.hid (by unfold chgV; rw [if_pos ⟨hr, hg'⟩, gone_same ⟨hr, hg'⟩])
      go_enter Tryz.func122, Tryz.ntmps122
      go_upto_region 1 with fail
      generalize w.alloc (.cells #[.slice (some ⟨G1, 0, none⟩) n c1, .slice (some ⟨G2, 0, none⟩) m c2] 28) = W at *
      obtain ⟨B, hB⟩ : ∃ B, B = w.heap.size := ⟨_, rfl⟩
      rw [← hB] at HX hbn ⊢
      clear hB
      have x0 := HX.out.cell 0
      have x1 := HX.out.cell 1
      have hX1 : ¬ B = G1 := by omega
      have hX2 : ¬ B = G2 := by omega
      obtain ⟨z1, z2⟩ := HH.out.fz
      obtain ⟨b1, b2, b3, b4, b5⟩ := HH.out.cell hi'
      rw [hg'] at b5
      rw [hr] at b3
      have d1 : (e != e) = false := by simp
      clear hr hg hg'
      go_wp2_with fail
      clear b1 b2 b3 b4 b5 z1 z2 x0 x1
      go_ret
      exact ⟨by rw [HE.out]; rfl, by rw [HE.out]; exact (HH.out.initC hi').upC hi' 2 (by decide) (.int .i64 r) { l.at_ i with right := r } rfl, HK.out.set1 _ _⟩
  · have HE : Hid (chgV l i e r false = none) := Lib.hid (by unfold chgV; rw [if_neg (fun q : okI l i e => hr q.1)])
    go_enter Tryz.func122, Tryz.ntmps122
    go_upto_region 1 with fail
    generalize w.alloc (.cells #[.slice (some ⟨G1, 0, none⟩) n c1, .slice (some ⟨G2, 0, none⟩) m c2] 28) = W at *
    obtain ⟨B, hB⟩ : ∃ B, B = w.heap.size := ⟨_, rfl⟩
    rw [← hB] at HX hbn ⊢
    clear hB
    have x0 := HX.out.cell 0
    have x1 := HX.out.cell 1
    have hX1 : ¬ B = G1 := by omega
    have hX2 : ¬ B = G2 := by omega
    obtain ⟨z1, z2⟩ := HH.out.fz
    obtain ⟨b1, b2, b3, b4, b5⟩ := HH.out.cell hi'
    have d1 : ((l.at_ i).right != e) = true := by simpa using hr
    clear hr
    go_wp2_with fail
    go_ret
    exact ⟨by rw [HE.out]; rfl, by rw [HE.out]; exact HH.out, HK.out⟩
set_option maxRecDepth 100000 in
set_option maxHeartbeats 1600000 in
theorem ragnF_any (l : Ls) (n m p base G1 G2 c1 c2 : Nat) (w : World) (hn : l.cs.length = n) (hm : l.ps.length = m) (h : MemL w base G1 G2 c1 c2 l) (hp : p < m) (n0 : 0 < n) :
    Calls Tryz.prog 123 #[.agg #[.slice (some ⟨G1, 0, none⟩) n c1, .slice (some ⟨G2, 0, none⟩) m c2], .pointer (some ⟨G2, p * 7, none⟩)] w (StP (agnV l p) base G1 G2 c1 c2 (.tuple #[]) w) := by
  have hp' : p < l.ps.length := by rw [hm]; exact hp
  have hn0 : 0 < l.cs.length := by rw [hn]; exact n0
  have n1 : (0 : Int) < (n : Int) := by omega
  have HK : Hid (Chg G1 G2 w _) := Lib.hid (Chg.of ((Below.refl w.heap.size w).alloc (Nat.le_refl _) (.cells #[.slice (some ⟨G1, 0, none⟩) n c1, .slice (some ⟨G2, 0, none⟩) m c2] 28)))
  have HH := Lib.hid (h.below ((Below.refl _ _).alloc (Nat.le_refl _) (.cells #[.slice (some ⟨G1, 0, none⟩) n c1, .slice (some ⟨G2, 0, none⟩) m c2] 28)))
  have HX := Lib.hid (Has.new w 28 #[.slice (some ⟨G1, 0, none⟩) n c1, .slice (some ⟨G2, 0, none⟩) m c2])
  have hbn : G1 < w.heap.size ∧ G2 < w.heap.size := ⟨h.cs.lt, h.ps.lt⟩
  have hne : ¬ G1 = G2 := h.ne
  have hne' : ¬ G2 = G1 := fun e => h.ne e.symm
  clear h hn hm
  go_enter Tryz.func123, Tryz.ntmps123
  go_upto_region 1 with fail
  generalize w.alloc (.cells #[.slice (some ⟨G1, 0, none⟩) n c1, .slice (some ⟨G2, 0, none⟩) m c2] 28) = W at *
  obtain ⟨B, hB⟩ : ∃ B, B = w.heap.size := ⟨_, rfl⟩
  rw [← hB] at HX hbn ⊢
  clear hB
  have x0 := HX.out.cell 0
  have x1 := HX.out.cell 1
  have hX1 : ¬ B = G1 := by omega
  have hX2 : ¬ B = G2 := by omega
  obtain ⟨z1, z2⟩ := HH.out.fz
  obtain ⟨a1, a2, a3, a4, a5, a6, a7⟩ := HH.out.proc hp'
  obtain ⟨b1, b2, b3, b4, b5⟩ := HH.out.cell hn0
  go_wp2_with fail
  clear z1 z2 a1 a2 a3 a4 a5 a6 a7 b1 b2 b3 b4 b5 x0 x1
  go_end0
  refine ⟨rfl, (((HH.out.init hp').up hp' 3 (by decide) _ { l.pr p with pred := 0 } rfl).up hp' 4 (by decide) _ { l.pr p with pred := 0, succ := (l.at_ 0).right } rfl).up hp' 2 (by decide) _ _ rfl, ?_⟩
  exact ((HK.out.set2 _ _).set2 _ _).set2 _ _
end Lf
end Go.Proofs.YtmhbloefmknikaaGreatDoor
