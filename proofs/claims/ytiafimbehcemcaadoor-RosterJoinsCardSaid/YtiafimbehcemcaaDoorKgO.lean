/-
  A roster that one node has left: who owns that node's key then, and whose interval was cut when it joined. No condition.
-/
import Derived.Test.YtiafimbehcemcaaDoorKgN
namespace Go.Proofs.YtiafimbehcemcaaDoor
open Go.RowKit

theorem heir_lt {p n : Nat} (hp : p < n) (h2 : 2 ≤ n) : heir p < n ∧ heir p ≠ p := by
  unfold heir; split <;> omega
theorem abv_left {s : List Nd} (hs : Asc s) {p : Nat} (hp : p < s.length) : abv (s.eraseIdx p) s[p].key = p := by
  have hl := erase_len hp
  refine abv_uniq (by omega) (fun j hj hjp => ?_) (fun j hj hjp => ?_)
  · rw [List.getElem_eraseIdx, dif_pos hjp]
    exact kl_asymm (asc_at hs hjp hp)
  · rw [List.getElem_eraseIdx, dif_neg (by omega)]
    exact asc_at hs (by omega) (by omega)
theorem own_left {s : List Nd} (hs : Asc s) {p : Nat} (hp : p < s.length) (h2 : 2 ≤ s.length) : ownV (s.eraseIdx p) s[p].key = s[heir p]'(heir_lt hp h2).1 := by
  have hl := erase_len hp
  unfold ownV
  rw [abv_left hs hp]
  by_cases h0 : p = 0
  · subst h0
    rw [List.getElem?_eraseIdx, if_neg (by omega)]
    simp [heir, List.getElem?_eq_getElem (show 1 < s.length by omega)]
  · rw [List.getElem?_eraseIdx, if_pos (by omega)]
    simp [heir, h0, List.getElem?_eq_getElem (show p - 1 < s.length by omega)]
/-- What the loop of RosterJoins sees of one node that stays. -/
structure Stay (s : List Nd) (p : Nat) (oid : Int) (ro : Rg) (y : Int) (rb ra : Rg) : Prop where
  all : ivlV s y = rb ∧ decide (plc s y < s.length) = true
  rest : ivlV (s.eraseIdx p) y = ra ∧ decide (plc (s.eraseIdx p) y < (s.eraseIdx p).length) = true
  who : (y = oid ∧ ra = Rg.hulK rb ro ∧ (Rg.intK rb ro).emp = true) ∨ (y ≠ oid ∧ ra = rb)
theorem stay_at {l : List Nd} (hc : chkV l = 0) {x : Nd} (hx : x ∈ l) : ∃ (p : Nat) (hp : p < (srt l).length), (srt l)[p] = x ∧ srt (wout l [x.id]) = (srt l).eraseIdx p ∧ chkV (wout l [x.id]) = 0 ∧ (wout l [x.id]).length = l.length - 1 ∧
    ivlV (srt l) x.id = ivlAt (srt l) p ∧ decide (plc (srt l) x.id < (srt l).length) = true ∧
    ∀ i (h : i < (wout l [x.id]).length), ∃ rb ra, Stay (srt l) p (ownV ((srt l).eraseIdx p) x.key).id (ivlAt (srt l) p) (wout l [x.id])[i].id rb ra := by
  have hr := ros_of hc
  obtain ⟨p, hp, rfl⟩ := List.getElem_of_mem (((srt_srt l).mem x).2 hx)
  obtain ⟨h1, h2, h3⟩ := left_srt hc hp
  have hv := ivlV_at hr.apart hp
  refine ⟨p, hp, rfl, h1, h2, h3, hv.1, hv.2.1, fun i hi => ?_⟩
  have hm : (wout l [(srt l)[p].id])[i] ∈ wout l [(srt l)[p].id] := List.getElem_mem hi
  generalize (wout l [(srt l)[p].id])[i] = y at *
  unfold wout at hm
  rw [List.mem_filter] at hm
  obtain ⟨hy, hne⟩ := hm
  have hne' : y.id ≠ (srt l)[p].id := by simpa using hne
  obtain ⟨j, hj, rfl⟩ := List.getElem_of_mem (((srt_srt l).mem y).2 hy)
  have hjp : j ≠ p := by rintro rfl; exact hne' rfl
  have hl2 : 2 ≤ (srt l).length := by omega
  have hvj := ivlV_at hr.apart hj
  have hlf := ivl_left hr.asc hr.apart hr.ok hp hl2 hj hjp
  have hh := heir_lt hp hl2
  rw [own_left hr.asc hp hl2]
  refine ⟨ivlAt (srt l) j, if j = heir p then Rg.hulK (ivlAt (srt l) j) (ivlAt (srt l) p) else ivlAt (srt l) j, ⟨hvj.1, hvj.2.1⟩, hlf, ?_⟩
  by_cases e : j = heir p
  · subst e
    rw [if_pos rfl]
    exact .inl ⟨rfl, rfl, apart_bnd hr.asc hr.ok hp hl2⟩
  · rw [if_neg e]
    exact .inr ⟨fun h => e (apart_at hr.apart hj hh.1 h), rfl⟩
end Go.Proofs.YtiafimbehcemcaaDoor
