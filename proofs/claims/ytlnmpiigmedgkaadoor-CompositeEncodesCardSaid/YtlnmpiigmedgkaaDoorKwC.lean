/-
  What an argument that is a slice of columns gives a law's walk.
-/
import Derived.Test.YtlnmpiigmedgkaaDoorKwH
namespace Go.Proofs.YtlnmpiigmedgkaaDoor
open Go.ChangeShapes Go.WideShapes Go.ChangeAt Go.RowKit Go.Joins Go.Deep
set_option maxRecDepth 100000

section
variable {H : Type} {enc : TypeId × Value → H}
instance inhColC : Inhabited Col := ⟨⟨0, false⟩⟩
theorem cellsC2 {α : Type} {cs : List α} (h : cs.length = 2) : ∃ c0 c1, cs = [c0, c1] := by
  match cs, h with
  | [c0, c1], _ => exact ⟨c0, c1, rfl⟩
theorem cCol : Tryd.prog.cellsOf 33 = 2 := by kernel_rfl
theorem cBoolC : Tryd.prog.cellsOf 4 = 1 := by kernel_rfl
theorem col_cells {W : World} {fuel : Nat} {cs : List Value} {x : DataW H × List MemPlace} (h : DataW.trod enc Tryd.prog W 0 (fun _ => true) true fuel 33 cs = some x) :
    ∃ c : Col, cs = [.int .i64 c.kind, .bool c.desc] := by
  obtain ⟨y0, y1, n, _, hlen, hy0, hy1⟩ := trod_struct2 Tryd.underlying33 h
  rw [cCol] at hlen
  obtain ⟨c0, c1, rfl⟩ := cellsC2 hlen
  obtain ⟨z, e0, _⟩ := DataW.trod_int Tryd.underlying3 hy0
  obtain ⟨q, e1, _⟩ := DataW.trod_bool Tryd.underlying4 hy1
  rw [cInt] at e0
  simp [cBoolC] at e0 e1
  exact ⟨⟨z, q⟩, by rw [e0, e1]⟩
/-- A slice of columns that came in. -/
theorem cols_of {W : World} {b0 : Nat} {v : Value} {d : DataW H} {p : List MemPlace} (hv : Value.okWide Tryd.prog W .any b0 23 v) (h : DataW.Trod enc Tryd.prog W 0 (fun _ => true) true 23 v d p) :
    ∃ (A : Option Addr) (l : List Col) (c : Nat), v = .slice A l.length c ∧ l.length ≤ c ∧ c ≤ maxLen ∧ Cols W W.heap.size A l := by
  obtain ⟨a0, len, cap, rfl⟩ := okWide_slice Tryd.underlying23 hv
  obtain ⟨fuel, hf⟩ := h
  rcases open_slice Tryd.underlying23 hf with ⟨hcs, hx⟩ | ⟨a, len', cap', m, n, D, Pl, hcs, hb, hl, hm, hmm, hx, hel⟩
  · simp [Value.cells] at hcs
    obtain ⟨rfl, rfl, rfl⟩ := hcs
    exact ⟨none, [], 0, rfl, Nat.le_refl _, by unfold maxLen; omega, fun h => absurd rfl h⟩
  · simp [Value.cells] at hcs
    obtain ⟨rfl, rfl, rfl⟩ := hcs
    simp only [if_true] at hmm
    rw [cCol] at hel
    have key : ∀ i, i < len → ∃ r : Col, ∀ j, j < 2 → W.cell? ((a.add (i * 2)).add j) = ([.int .i64 r.kind, .bool r.desc] : List Value)[j]? := fun i hi => by
      obtain ⟨cs', h1, h2⟩ := hel i (by omega)
      obtain ⟨r, e⟩ := col_cells h2
      obtain ⟨_, _, h3⟩ := World.cells?_some h1
      exact ⟨r, fun j hj => by rw [← e]; exact h3 j hj⟩
    obtain ⟨R, hR⟩ := choose_lt (α := Col) key
    refine ⟨some a, (List.range len).map R, cap, by simp, by simpa using hl, hm, fun hne => ?_⟩
    have hpos : 0 < len := by
      rcases Nat.eq_zero_or_pos len with h0 | h0
      · subst h0
        exact absurd rfl hne
      · exact h0
    obtain ⟨b, off, spot⟩ := a
    have h00 : W.cell? ((Addr.add ⟨b, off, spot⟩ (0 * 2)).add 0) = some (.int .i64 (R 0).kind) := hR 0 hpos 0 (by omega)
    have hspot : spot = none := by simpa [Addr.add] using World.cell?_spot h00
    subst hspot
    refine ⟨b, off, rfl, ?_, fun i hi => ?_⟩
    · simp [Addr.add] at h00
      exact World.block_lt_of_cell? W _ h00
    · have hi' : i < len := by simpa using hi
      have g : ((List.range len).map R)[i] = R i := by simp
      rw [g]
      have k := hR i hi'
      rw [Go.WideShapes.add_plain] at k
      have k' : ∀ j, j < 2 → W.cell? ⟨b, off + i * 2 + j, none⟩ = ([.int .i64 (R i).kind, .bool (R i).desc] : List Value)[j]? := fun j hj => by
        rw [← Go.WideShapes.add_plain]
        exact k j hj
      exact ⟨k' 0 (by omega), k' 1 (by omega)⟩
end
end Go.Proofs.YtlnmpiigmedgkaaDoor
