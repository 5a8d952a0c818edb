/-
  How many nodes an insertion visits at most (plain); nodes that join one after another. Conditions: the nodes are a roster.
-/
import Derived.Test.YtjokbdhineilcaaDoorLuN
import Derived.Test.YtjokbdhineilcaaDoorLxA
namespace Go.Proofs.YtjokbdhineilcaaDoor
open Go.RowKit

theorem run_perm {l m : List Nd} (hp : l.Perm m) (hc : chkV m = 0) (x : Nd) (t : Nat) : runL l x t = runL m x t := by
  unfold runL
  rw [srt_perm hp (chkV_zero.1 hc).2.2]
theorem vs_perm {l m : List Nd} (hp : l.Perm m) (hc : chkV m = 0) (x : Nd) (t : Nat) : vsV l x t = vsV m x t := by
  unfold vsV
  rw [srt_perm hp (chkV_zero.1 hc).2.2]
/-- What Run answers of a node that is there. -/
theorem runR_in {l : List Nd} (hc : chkV l = 0) {x : Nd} (hx : x ∈ l) {t : Nat} (ht : t ≤ 16) : runR l x.id (t : Int) = runL l x t := by
  unfold runR
  rw [if_pos ⟨hc, by simp [lvB]; omega, plc_mem hx⟩, fnd_self (chkV_zero.1 hc).2.2 hx]
  rfl
/-- An insertion's visits are bounded. -/
theorem ins_bound {l : List Nd} {x y : Nd} (hc : chkV (l ++ [x]) = 0) (hy : y ∈ l) {m : Nat} (hm : m ≤ 16) (hh : hgtV l ≤ m) : insN l (bldV l (m + 1)) x y.id (m : Int) ≤ bndR l y.id + sumR (fun t => 2 * (runL (l ++ [x]) x t + 1)) m := by
  have hl : chkV l = 0 := chk_sub hc (List.sublist_append_left _ _)
  have h1 : (rteR l (bldV l (m + 1)) y.id x.key).length ≤ bndR l y.id := by
    unfold rteR
    split
    · rw [fnd_self (chkV_zero.1 hl).2.2 hy]
      exact bld_bound hl hy hm hh
    · exact Nat.zero_le _
  have h2 := sum_run hc (x := x) (by simp) hm
  unfold insN
  rw [show ((m : Int)).toNat = m by omega]
  omega
/-- The same by all the nodes and the others. -/
theorem bound_all {l : List Nd} {x y : Nd} (hc : chkV l = 0) (hx : x ∈ l) (hy : y ∈ wout l [x.id]) {m : Nat} (hm : m ≤ 16) (hh : hgtV (wout l [x.id]) ≤ m) : insN (wout l [x.id]) (bldV (wout l [x.id]) (m + 1)) x y.id (m : Int) ≤ bndR (wout l [x.id]) y.id + sumR (fun t => 2 * (runL l x t + 1)) m := by
  have hp := wout_perm10 hc hx
  have h := ins_bound (chk_perm10 hp hc) hy hm hh
  have e : (fun t => 2 * (runL (wout l [x.id] ++ [x]) x t + 1)) = fun t => 2 * (runL l x t + 1) := by
    funext t
    rw [run_perm hp hc]
  rw [e] at h
  exact h
/-- One node after another. -/
theorem grow_step {l : List Nd} (hc : chkV l = 0) {i : Nat} (hi : i < l.length) : chkV (l.take i ++ [l[i]]) = 0 ∧ l.take (i + 1) = l.take i ++ [l[i]] := by
  have e := List.take_succ_eq_append_getElem hi
  refine ⟨?_, e⟩
  rw [← e]
  exact chk_sub hc (List.take_sublist _ _)
theorem turn_perm {α : Type} (l : List α) (n : Nat) : (l.drop n ++ l.take n).Perm l := by
  refine List.perm_append_comm.trans ?_
  rw [List.take_append_drop]
end Go.Proofs.YtjokbdhineilcaaDoor
