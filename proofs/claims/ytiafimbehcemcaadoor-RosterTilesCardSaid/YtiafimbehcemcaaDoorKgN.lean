/-
  A roster that one node has left: its list, its sorted list, its intervals. No condition.
-/
import Derived.Test.YtiafimbehcemcaaDoorKgM
namespace Go.Proofs.YtiafimbehcemcaaDoor
open Go.RowKit

theorem ivlV_at {s : List Nd} (ha : s.Pairwise Nd.apart) {i : Nat} (hi : i < s.length) : ivlV s s[i].id = ivlAt s i ∧ decide (plc s s[i].id < s.length) = true ∧ rnkV s s[i].id = i := by
  unfold ivlV rnkV
  rw [plc_at ha hi, if_pos hi, if_pos hi]
  exact ⟨rfl, by simpa using hi, rfl⟩
theorem wout_erase {s : List Nd} (ha : s.Pairwise Nd.apart) {p : Nat} (hp : p < s.length) : wout s [s[p].id] = s.eraseIdx p := by
  have e1 : s = s.take p ++ s[p] :: s.drop (p + 1) := by rw [← List.drop_eq_getElem_cons hp, List.take_append_drop]
  have h1 : (s.take p).filter (fun x => !([s[p].id].contains x.id)) = s.take p := by
    rw [List.filter_eq_self]
    intro x hx
    obtain ⟨j, hj, rfl⟩ := List.mem_take_iff_getElem.1 hx
    have := (List.pairwise_iff_getElem.1 ha j p (by omega) hp (by omega)).1
    simpa using this
  have h2 : (s.drop (p + 1)).filter (fun x => !([s[p].id].contains x.id)) = s.drop (p + 1) := by
    rw [List.filter_eq_self]
    intro x hx
    obtain ⟨j, hj, rfl⟩ := List.mem_drop_iff_getElem.1 hx
    have := (List.pairwise_iff_getElem.1 ha p (p + 1 + j) hp (by omega) (by omega)).1
    simpa using fun e => this e.symm
  unfold wout
  rw [List.eraseIdx_eq_take_drop_succ]
  conv => lhs; arg 2; rw [e1]
  rw [List.filter_append, h1, List.filter_cons, h2]
  simp
theorem wout_perm {l m : List Nd} (h : l.Perm m) (ids : List Int) : (wout l ids).Perm (wout m ids) := h.filter _
theorem wout_sub (l : List Nd) (ids : List Int) : (wout l ids).Sublist l := List.filter_sublist
theorem left_srt {l : List Nd} (hc : chkV l = 0) {p : Nat} (hp : p < (srt l).length) : srt (wout l [(srt l)[p].id]) = (srt l).eraseIdx p ∧ chkV (wout l [(srt l)[p].id]) = 0 ∧ (wout l [(srt l)[p].id]).length = l.length - 1 := by
  have hr := ros_of hc
  have h1 : (wout l [(srt l)[p].id]).Perm ((srt l).eraseIdx p) := by
    rw [← wout_erase hr.apart hp]
    exact wout_perm hr.perm.symm _
  have h2 := chkV_sub (wout_sub l [(srt l)[p].id]) hc
  refine ⟨?_, h2, ?_⟩
  · refine (srt_of ⟨h1.symm, ?_⟩ (chkV_zero.1 h2).2.2).symm
    exact (srt_srt l).2.sublist (List.eraseIdx_sublist _ _)
  · rw [h1.length_eq, erase_len hp, (srt_srt l).len]
theorem erase_at {s : List Nd} {p i : Nat} (hp : p < s.length) (hi : i < s.length) (h : i ≠ p) : ∃ h : pos p i < (s.eraseIdx p).length, (s.eraseIdx p)[pos p i] = s[i] := by
  have hl := erase_len hp
  unfold pos
  by_cases hip : i < p
  · refine ⟨by rw [hl, if_pos hip]; omega, ?_⟩
    simp only [if_pos hip]
    rw [List.getElem_eraseIdx, dif_pos hip]
  · refine ⟨by rw [hl, if_neg hip]; omega, ?_⟩
    simp only [if_neg hip]
    rw [List.getElem_eraseIdx, dif_neg (by omega)]
    congr 1
    omega
/-- The interval of a node that stays, in the roster that is left. -/
theorem ivl_left {s : List Nd} (hs : Asc s) (ha : s.Pairwise Nd.apart) (ho : ∀ x ∈ s, Nd.ok x = true) {p i : Nat} (hp : p < s.length) (h2 : 2 ≤ s.length) (hi : i < s.length) (h : i ≠ p) :
    ivlV (s.eraseIdx p) s[i].id = (if i = heir p then Rg.hulK (ivlAt s i) (ivlAt s p) else ivlAt s i) ∧ decide (plc (s.eraseIdx p) s[i].id < (s.eraseIdx p).length) = true := by
  obtain ⟨hq, e⟩ := erase_at hp hi h
  have h3 := ivlV_at (ha.sublist (List.eraseIdx_sublist s p)) hq
  rw [e] at h3
  refine ⟨?_, h3.2.1⟩
  rw [h3.1]
  by_cases hh : i = heir p
  · rw [if_pos hh, hh, hull_bnd hs ho hp h2]
  · rw [if_neg hh, same_bnd hp h2 hi h hh]
end Go.Proofs.YtiafimbehcemcaaDoor
