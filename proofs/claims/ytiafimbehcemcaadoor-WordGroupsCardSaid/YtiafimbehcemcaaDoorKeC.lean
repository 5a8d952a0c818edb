/-
  'lists' of the statements of chapter 4: of rows of rows that are equal it answers true. Condition: they can be read.
-/
import Derived.Test.YtiafimbehcemcaaDoorKdH
import Derived.Test.YtiafimbehcemcaaDoorKdX
namespace Go.Proofs.YtiafimbehcemcaaDoor
open Go.RowKit

set_option maxRecDepth 100000 in
set_option maxHeartbeats 1600000 in
theorem lists_any (A1 A2 : Option Addr) (ls : List (List Nd)) (c1 c2 : Nat) (w : World) (h1 : Rws w w.heap.size A1 ls) (h2 : Rws w w.heap.size A2 ls) (hln : ∀ l ∈ ls, l.length ≤ 1000000) (hm : ls.length ≤ 1000000) :
    Calls Tryd.prog 34 #[.slice A1 ls.length c1, .slice A2 ls.length c2] w (BoolN true w) := by
  have hn : ((ls.length : Int) != (ls.length : Int)) = false := by simp
  generalize hla : ls.length = N at *
  have HA := Lib.hid hla
  clear hla
  go_enter Tryd.func34, Tryd.ntmps34
  go_wp2_with fail
  go_loopw [5] (fun i wr => ∃ k : Nat, i = .int .i64 (k : Int) ∧ k ≤ N ∧ Below w.heap.size w wr) (fun i _ => N - (intOf i).toNat)
  case atStart => exact ⟨0, rfl, by omega, Below.refl _ _⟩
  case round =>
    obtain ⟨k, rfl, hk, hB⟩ := hrel
    by_cases hlt : k < N
    · have k1 : k < ls.length := by rw [HA.out]; exact hlt
      obtain ⟨b1, o1, B1, d1, e1, hb1, f1, hr1⟩ := h1.at_ k1
      obtain ⟨b2, o2, B2, d2, e2, hb2, f2, hr2⟩ := h2.at_ k1
      subst e1 e2
      have hl1 := hln _ (List.getElem_mem k1)
      have hBd := hB.drew
      replace f1 : wr.drew.cell? ⟨b1, o1 + k, none⟩ = _ := (hB.cell (p := ⟨b1, o1 + k, none⟩) hb1).trans f1
      replace f2 : wr.drew.cell? ⟨b2, o2 + k, none⟩ = _ := (hB.cell (p := ⟨b2, o2 + k, none⟩) hb2).trans f2
      replace hr1 := (hr1.below hBd).more hBd.size
      replace hr2 := (hr2.below hBd).more hBd.size
      generalize ls[k] = x at *
      have i0 : (0 : Int) ≤ (k : Int) := by omega
      have i1 : (k : Int) < (N : Int) := by omega
      clear k1 hn
      have HC := Lib.hid ((same_nodes B1 B2 x x d1 d2 wr.drew hr1 hr2 hl1).mono fun e w' h => (⟨by rw [h.1, sameN_self], h.2⟩ : e = .returned (.bool true) ∧ Below wr.drew.heap.size wr.drew w'))
      clear hr1 hr2 h1 h2 hB
      generalize x.length = nx at *
      go_wp2_with fail
      refine wp_region_still_tail 8 (by kernel_rfl) (by kernel_rfl) ?_
      simp only [List.take_succ_cons, List.take_zero, List.drop_succ_cons, List.drop_zero]
      change wpStill _ _ wr.drew (fun a' => wpList _ _ _ _ a' wr.drew) _ _
      generalize wr.drew = w9 at *
      repeat still_step
      refine wpStill_nil ?_
      go_wp2_with fail
      refine (HC.out).mono ?_
      rintro e w' ⟨rfl, hb9⟩
      go_wp2_with fail
      exact ⟨⟨k + 1, by go_num, hlt, hBd.trans (hb9.mono hBd.size)⟩, by simp [intOf]; omega⟩
    · go_wp2_with fail
      go_ret
      exact ⟨rfl, hB⟩
end Go.Proofs.YtiafimbehcemcaaDoor
