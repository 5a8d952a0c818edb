/-
  What a step is, phase by phase: plain. No condition.
-/
import Derived.Test.YtgmffgdhijcfcaaDoorKzG
namespace Go.Proofs.YtgmffgdhijcfcaaDoor
open Go.RowKit Go.Maps
namespace Lk
section
variable {l : Ls} {p d s c x r : Nat}
theorem step_1 (h : (l.pr p).phase = 1) (hs : (l.pr p).succ = (s : Int)) (hc : (l.pr p).cell = (c : Int)) : stepV l p = some (fndV l p s c) := by
  unfold stepV fndV
  simp only [h, if_true, hs, hc, Int.toNat_natCast]
  split <;> rfl
theorem step_2 (h : (l.pr p).phase = 2) (hd : (l.pr p).pred = (d : Int)) : stepV l p = lokV l p d 3 := by
  unfold stepV lokV
  simp [h, hd]
theorem step_3 (h : (l.pr p).phase = 3) (hs : (l.pr p).succ = (s : Int)) : stepV l p = lokV l p s 4 := by
  unfold stepV lokV
  dsimp only
  rw [if_neg (by rw [h]; decide), if_neg (by rw [h]; decide), if_pos h, hs]
  rfl
theorem step_4 (h : (l.pr p).phase = 4) (hd : (l.pr p).pred = (d : Int)) (hs : (l.pr p).succ = (s : Int)) (hc : (l.pr p).cell = (c : Int)) : stepV l p = some (dcdV l p d s c) := by
  have e : ((s : Int) = (c : Int)) ↔ s = c := by omega
  unfold stepV dcdV
  dsimp only
  rw [if_neg (by rw [h]; decide), if_neg (by rw [h]; decide), if_neg (by rw [h]; decide), if_pos h, hs, hc, hd]
  simp only [Int.toNat_natCast, e, ne_eq]
  split
  · rfl
  · split
    · rfl
    · split
      · rfl
      · split <;> rfl
theorem step_5 (h : (l.pr p).phase = 5) : stepV l p = some ((l.free p).setP p { l.pr p with pred := 0, succ := (l.at_ 0).right, phase := 1 }) := by
  unfold stepV
  simp [h]
theorem step_6 (h : (l.pr p).phase = 6) (hd : (l.pr p).pred = (d : Int)) (hs : (l.pr p).succ = (s : Int)) (hc : (l.pr p).cell = (c : Int)) : stepV l p = some ((l.setC c { l.at_ c with left := (d : Int), right := (s : Int) }).setP p { l.pr p with phase := 7 }) := by
  unfold stepV
  simp [h, hd, hs, hc]
theorem step_7 (h : (l.pr p).phase = 7) (hd : (l.pr p).pred = (d : Int)) (hc : (l.pr p).cell = (c : Int)) : stepV l p = some (((l.setC d { l.at_ d with right := (c : Int) }).setC c { (l.setC d { l.at_ d with right := (c : Int) }).at_ c with gone := false }).setP p { l.pr p with phase := 8 }) := by
  unfold stepV
  simp [h, hd, hc]
theorem step_8 (h : (l.pr p).phase = 8) (hs : (l.pr p).succ = (s : Int)) (hc : (l.pr p).cell = (c : Int)) : stepV l p = some ((l.setC s { l.at_ s with left := (c : Int) }).setP p { l.pr p with res := true, phase := 13 }) := by
  unfold stepV
  simp [h, hs, hc]
theorem step_9 (h : (l.pr p).phase = 9) (hc : (l.pr p).cell = (c : Int)) (hr : (l.at_ c).right = (r : Int)) : stepV l p = lknV l p r := by
  unfold stepV lknV
  simp [h, hc, hr]
theorem step_10 (h : (l.pr p).phase = 10) (hc : (l.pr p).cell = (c : Int)) : stepV l p = some ((l.setC c { l.at_ c with gone := true }).setP p { l.pr p with phase := 11 }) := by
  unfold stepV
  simp [h, hc]
theorem step_11 (h : (l.pr p).phase = 11) (hd : (l.pr p).pred = (d : Int)) (hx : (l.pr p).next = (x : Int)) : stepV l p = some ((l.setC d { l.at_ d with right := (x : Int) }).setP p { l.pr p with phase := 12 }) := by
  unfold stepV
  simp [h, hd, hx]
theorem step_12 (h : (l.pr p).phase = 12) (hd : (l.pr p).pred = (d : Int)) (hx : (l.pr p).next = (x : Int)) : stepV l p = some ((l.setC x { l.at_ x with left := (d : Int) }).setP p { l.pr p with res := true, phase := 13 }) := by
  unfold stepV
  simp [h, hd, hx]
theorem step_13 (h : (l.pr p).phase = 13) : stepV l p = some ((l.free p).setP p { l.pr p with phase := 18 }) := by
  unfold stepV
  simp [h]
theorem step_0 (h : (l.pr p).phase = 0 ∨ (l.pr p).phase = 18) : stepV l p = none := by
  unfold stepV
  rcases h with h | h <;> simp [h]
end
end Lk
end Go.Proofs.YtgmffgdhijcfcaaDoor
