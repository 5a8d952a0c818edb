/-
  Level, Classes, Height and Through of the reference of chapter 6. Condition: the nodes can be read.
  Neighbours of the reference of chapter 6. Condition: the nodes can be read.
  Build of the reference of chapter 6: the links of all nodes, in rows of its own. Condition: the nodes can be read.
-/
import Derived.Test.YtjokbdhineilcaaDoorLmD
import Derived.Test.YtjokbdhineilcaaDoorLhR
import Derived.Test.YtjokbdhineilcaaDoorLeA
import Derived.Test.YtjokbdhineilcaaDoorLdG
import Derived.Deep.DeepCutAuto
import Derived.Deep.CutBlock
import Derived.Deep.RegionHeld3
import Derived.Test.YtjokbdhineilcaaDoorKmL
import Derived.Test.YtjokbdhineilcaaDoorLmG
namespace Go.Proofs.YtjokbdhineilcaaDoor
section
open Go.RowKit

/-- What Through answers. -/
def ThrP (l : List Nd) (id h : Int) (w : World) (e : Ending) (w' : World) : Prop :=
  (nbB l id h = false ∧ e = .returned (.tuple #[.slice none 0 0, .int .i64 0, .bool false]) ∧ Below w.heap.size w w') ∨
  (nbB l id h = true ∧ ∃ A c, e = .returned (.tuple #[.slice A (grp (srt l) h (fndV l id).word).length c, .int .i64 (plc (grp (srt l) h (fndV l id).word) id : Int), .bool true]) ∧ Nds w' w'.heap.size A (grp (srt l) h (fndV l id).word) ∧ Below w.heap.size w w')

end
section
open Go.RowKit

theorem thr_no {l : List Nd} {id h : Int} {w w' : World} {e : Ending} (hn : nbB l id h = false) (k : ThrP l id h w e w') : e = .returned (.tuple #[.slice none 0 0, .int .i64 0, .bool false]) ∧ Below w.heap.size w w' := by
  rcases k with ⟨_, k⟩ | ⟨k, _⟩
  · exact k
  · rw [hn] at k
    cases k
theorem thr_yes {l : List Nd} {id h : Int} {w w' : World} {e : Ending} (hn : nbB l id h = true) {x : Nd} (hx : fndV l id = x) (k : ThrP l id h w e w') : ∃ A c, e = .returned (.tuple #[.slice A (grp (srt l) h x.word).length c, .int .i64 (plc (grp (srt l) h x.word) id : Int), .bool true]) ∧ Nds w' w'.heap.size A (grp (srt l) h x.word) ∧ Below w.heap.size w w' := by
  rcases k with ⟨k, _⟩ | ⟨_, k⟩
  · rw [hn] at k
    cases k
  · rw [hx] at k
    exact k
end
section
open Go.RowKit

theorem srt_idem {l : List Nd} (hc : chkV l = 0) : chkV (srt l) = 0 ∧ srt (srt l) = srt l := by
  have h1 : chkV (srt l) = 0 := chkV_perm (srt_srt l).1.symm hc
  exact ⟨h1, (srt_of ⟨List.Perm.refl _, (srt_srt l).2⟩ (chkV_zero.1 h1).2.2).symm⟩
theorem bld_at {l : List Nd} {n i : Nat} (h : i < (srt l).length) : (bldV l n)[i]? = some ⟨(srt l)[i].id, (List.range n).map fun (t : Nat) => lnk (srt l) (t : Int) (srt l)[i]⟩ := by
  unfold bldV
  rw [List.getElem?_map, List.getElem?_eq_getElem h]
  rfl
theorem range_next (n t : Nat) (h : t < n) (f : Nat → Lk) : ((List.range n).take (t + 1)).map f = ((List.range n).take t).map f ++ [f t] := by
  rw [List.take_succ_eq_append_getElem (by simpa using h), List.map_append]
  simp
def RBldOk (R : List Ld) (w : World) (e : Ending) (w' : World) : Prop := ∃ v, e = .returned (.tuple #[v, .int .i64 0]) ∧ OwnD w' w.heap.size v R ∧ Below w.heap.size w w'
def RBldP (l : List Nd) (h : Int) (w : World) (e : Ending) (w' : World) : Prop :=
  (bldE l h ≠ 0 ∧ e = .returned (.tuple #[.slice none 0 0, .int .i64 (bldE l h)]) ∧ Below w.heap.size w w') ∨ (bldE l h = 0 ∧ RBldOk (bldV l (h + 1).toNat) w e w')
theorem OwnD.low {w : World} {base b : Nat} {v : Value} {ls : List Ld} (h : OwnD w base v ls) (hb : b ≤ base) : OwnD w b v ls := by
  obtain ⟨q, h1, h2, h3, h4⟩ := h
  refine ⟨q, ?_, h2, fun i hq hi => ⟨(h3 i hq hi).1, own_lessK (h3 i hq hi).2.1 hb, (h3 i hq hi).2.2⟩, h4⟩
  obtain ⟨k1, k2 | ⟨g, cap, cur, k3, k4, k5⟩⟩ := h1
  · exact ⟨k1, .inl k2⟩
  · exact ⟨k1, .inr ⟨g, cap, cur, k3, by omega, k5⟩⟩

end
end Go.Proofs.YtjokbdhineilcaaDoor
