/-
  Pick: one of some numbers, as the tape says. Condition: the numbers can be read, and lie not in the tape.
  Words from the tape. Condition: the tape.
-/
import Derived.Test.YtmhbloefmknikaaGreatDoorKwL
namespace Go.Proofs.YtmhbloefmknikaaGreatDoor
section
open Go.RowKit

/-- What Pick gives. -/
def PickP (vs : List Int) (g : Nat) (w : World) (e : Ending) (w' : World) : Prop := ∃ v : Int, v ∈ vs ∧ e = .returned (.int .i64 v) ∧ TStep w g w'
theorem pickP_mk {vs : List Int} {g : Nat} {w w' : World} {v : Int} (h : v ∈ vs) (k : TStep w g w') : PickP vs g w (.returned (.int .i64 v)) w' := ⟨v, h, rfl, k⟩
set_option maxHeartbeats 800000 in
theorem pick_any (g b c : Nat) (vs : List Int) (w : World) (ht : Tape w g) (hn : 0 < vs.length) (hm : vs.length ≤ 1000) (hb : b < w.heap.size) (hbg : b ≠ g) (hc : ∀ i (h : i < vs.length), w.cell? ⟨b, i, none⟩ = some (.int .i64 vs[i])) :
    Calls Tryz.prog 13 #[.pointer (some ⟨g, 0, none⟩), .slice (some ⟨b, 0, none⟩) vs.length c] w (PickP vs g w) := by
  go_enter Tryz.func13, Tryz.ntmps13
  go_wp2_with fail
  refine (next_any g _ _ ht (by omega)).mono ?_
  rintro e w1 ⟨r, r0, r1, rfl, hst⟩
  have hr : r.toNat < vs.length := by omega
  have hcell := (World.cell?_of_block (a := ⟨b, r.toNat, none⟩) (hst.2.block b hb (fun e => hbg (Option.some.inj e)))).trans (hc r.toNat hr)
  have hin := Lib.hid (List.getElem_mem hr)
  generalize vs[r.toNat] = v at *
  have r2 : r < (vs.length : Int) := by omega
  clear r1 hc
  go_wp2_with fail
  go_ret
  exact pickP_mk hin.out hst
end
end Go.Proofs.YtmhbloefmknikaaGreatDoor
