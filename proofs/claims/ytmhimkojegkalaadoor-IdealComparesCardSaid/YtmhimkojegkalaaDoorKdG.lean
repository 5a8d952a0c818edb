/-
  Group of package word: the nodes whose words agree with a word up to a level. Condition: the nodes can be read; the library's table of trailing zeros is as its initialiser lays it.
-/
import Derived.Test.YtmhimkojegkalaaDoorKdC
import Derived.Test.YtmhimkojegkalaaDoorKdN
namespace Go.Proofs.YtmhimkojegkalaaDoor
open Go.RowKit

/-- The nodes of a group. -/
def grp (l : List Nd) (h : Int) (v : Nat) : List Nd := l.filter fun x => decide (h ≤ (cm x.word v : Int))
theorem grp_yes {l : List Nd} {h : Int} {v k : Nat} (hk : k < l.length) (hy : h ≤ (cm l[k].word v : Int)) : grp (l.take (k + 1)) h v = grp (l.take k) h v ++ [l[k]] := by
  unfold grp; rw [List.take_succ_eq_append_getElem hk, List.filter_append]; congr 1; simp [hy]
theorem grp_no {l : List Nd} {h : Int} {v k : Nat} (hk : k < l.length) (hy : ¬ h ≤ (cm l[k].word v : Int)) : grp (l.take (k + 1)) h v = grp (l.take k) h v := by
  unfold grp; rw [List.take_succ_eq_append_getElem hk, List.filter_append]; simp [hy]
theorem grp_len (l : List Nd) (h : Int) (v : Nat) : (grp l h v).length ≤ l.length := List.length_filter_le _ _

/-- What Group gives: a row of the call's own. -/
def NdsP (l : List Nd) (w : World) (e : Ending) (w' : World) : Prop := ∃ A c, e = .returned (.slice A l.length c) ∧ OwnN w' w.heap.size (.slice A l.length c) l ∧ Below w.heap.size w w'

theorem two_nodes (w : World) (a b : Nd) : Nds (w.alloc (.cells #[.int .i64 a.id, .string a.key, .int .u32 (a.word : Int), .int .i64 b.id, .string b.key, .int .u32 (b.word : Int)] 57)) (w.heap.size + 1) (some ⟨w.heap.size, 0, none⟩) [a, b] := fun _ => by
  have hN := Has.new w 57 #[.int .i64 a.id, .string a.key, .int .u32 (a.word : Int), .int .i64 b.id, .string b.key, .int .u32 (b.word : Int)]
  refine ⟨_, 0, rfl, by omega, fun i hi => ?_⟩
  have h2 : i = 0 ∨ i = 1 := by simp at hi; omega
  rcases h2 with rfl | rfl
  · exact ⟨hN.cell 0, hN.cell 1, hN.cell 2⟩
  · exact ⟨hN.cell 3, hN.cell 4, hN.cell 5⟩
theorem cm_51 : cm 5 1 = 2 := by decide +kernel
theorem cm_13 : cm 1 3 = 1 := by decide +kernel
theorem cm_23 : cm 2 3 = 0 := by decide +kernel
theorem grp_13 : grp [⟨0, ⟨#[]⟩, 1⟩, ⟨0, ⟨#[]⟩, 2⟩] 1 3 = [⟨0, ⟨#[]⟩, 1⟩] := by
  unfold grp
  simp [cm_13, cm_23]
end Go.Proofs.YtmhimkojegkalaaDoor
