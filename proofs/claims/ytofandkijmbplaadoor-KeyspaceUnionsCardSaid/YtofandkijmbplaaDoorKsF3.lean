/-
  What arguments that are ranges or slices of ranges give a law's walk.
-/
import Derived.Test.YtofandkijmbplaaDoorKsF2
import Derived.Test.YtofandkijmbplaaDoorKsE
namespace Go.Proofs.YtofandkijmbplaaDoor
open Go.ChangeShapes Go.WideShapes Go.ChangeAt Go.RowKit Go.Joins Go.Deep
set_option maxRecDepth 100000

section
variable {H : Type} {enc : TypeId × Value → H}
instance inhRgF : Inhabited Rg := ⟨⟨⟨ByteArray.empty, false⟩, ⟨ByteArray.empty, false⟩⟩⟩
theorem cells2 {α : Type} {cs : List α} (h : cs.length = 2) : ∃ c0 c1, cs = [c0, c1] := by
  match cs, h with
  | [c0, c1], _ => exact ⟨c0, c1, rfl⟩
theorem cells4 {α : Type} {cs : List α} (h : cs.length = 4) : ∃ c0 c1 c2 c3, cs = [c0, c1, c2, c3] := by
  match cs, h with
  | [c0, c1, c2, c3], _ => exact ⟨c0, c1, c2, c3, rfl⟩
theorem bound_cells {W : World} {fuel : Nat} {c0 c1 : Value} {x : DataW H × List MemPlace} (h : DataW.trod enc Tryd.prog W 0 (fun _ => true) true fuel 28 [c0, c1] = some x) :
    ∃ b : Bd, c0 = .string b.key ∧ c1 = .bool b.top ∧ b.key.size ≤ maxLen := by
  obtain ⟨y0, y1, n, _, _, hy0, hy1⟩ := trod_struct2 Tryd.underlying28 h
  obtain ⟨s, e0, _, hs⟩ := DataW.trod_string Tryd.underlying9 hy0
  obtain ⟨q, e1, _⟩ := DataW.trod_bool Tryd.underlying4 hy1
  rw [cStr] at e0
  simp [show Tryd.prog.cellsOf 4 = 1 by kernel_rfl] at e0 e1
  exact ⟨⟨s, q⟩, e0, e1, hs⟩
theorem range_cells {W : World} {fuel : Nat} {cs : List Value} {x : DataW H × List MemPlace} (h : DataW.trod enc Tryd.prog W 0 (fun _ => true) true fuel 30 cs = some x) :
    ∃ r : Rg, cs = [.string r.lo.key, .bool r.lo.top, .string r.hi.key, .bool r.hi.top] ∧ r.lo.key.size ≤ maxLen ∧ r.hi.key.size ≤ maxLen := by
  obtain ⟨y0, y1, n, _, hlen, hy0, hy1⟩ := trod_struct2 Tryd.underlying30 h
  rw [cRange] at hlen
  obtain ⟨c0, c1, c2, c3, rfl⟩ := cells4 hlen
  rw [cBound] at hy0 hy1
  obtain ⟨b0, e0, e1, h0⟩ := bound_cells hy0
  obtain ⟨b1, e2, e3, h1⟩ := bound_cells hy1
  exact ⟨⟨b0, b1⟩, by rw [e0, e1, e2, e3], h0, h1⟩
/-- A range that came in. -/
theorem range_of {W : World} {b0 : Nat} {v : Value} {d : DataW H} {p : List MemPlace} (hv : Value.okWide Tryd.prog W .any b0 30 v) (h : DataW.Trod enc Tryd.prog W 0 (fun _ => true) true 30 v d p) : ∃ r : Rg, v = r.val ∧ r.lo.key.size ≤ maxLen ∧ r.hi.key.size ≤ maxLen := by
  obtain ⟨cs, rfl, _⟩ := okWide_struct Tryd.underlying30 hv
  obtain ⟨fuel, hf⟩ := h
  obtain ⟨r, e, h0, h1⟩ := range_cells hf
  simp only [Value.cells] at e
  refine ⟨r, ?_, h0, h1⟩
  obtain ⟨l⟩ := cs
  simp only at e
  subst e
  rfl
/-- A slice of ranges that came in. -/
theorem rgs_of {W : World} {b0 : Nat} {v : Value} {d : DataW H} {p : List MemPlace} (hv : Value.okWide Tryd.prog W .any b0 23 v) (h : DataW.Trod enc Tryd.prog W 0 (fun _ => true) true 23 v d p) :
    ∃ (A : Option Addr) (l : List Rg) (c : Nat), v = .slice A l.length c ∧ l.length ≤ c ∧ c ≤ maxLen ∧ Rgs W W.heap.size A l := by
  obtain ⟨a0, len, cap, rfl⟩ := okWide_slice Tryd.underlying23 hv
  obtain ⟨fuel, hf⟩ := h
  rcases open_slice Tryd.underlying23 hf with ⟨hcs, hx⟩ | ⟨a, len', cap', m, n, D, Pl, hcs, hb, hl, hm, hmm, hx, hel⟩
  · simp [Value.cells] at hcs
    obtain ⟨rfl, rfl, rfl⟩ := hcs
    exact ⟨none, [], 0, rfl, Nat.le_refl _, by unfold maxLen; omega, fun h => absurd rfl h⟩
  · simp [Value.cells] at hcs
    obtain ⟨rfl, rfl, rfl⟩ := hcs
    simp only [if_true] at hmm
    rw [cRange] at hel
    have key : ∀ i, i < len → ∃ r : Rg, ∀ j, j < 4 → W.cell? ((a.add (i * 4)).add j) = ([.string r.lo.key, .bool r.lo.top, .string r.hi.key, .bool r.hi.top] : List Value)[j]? := fun i hi => by
      obtain ⟨cs', h1, h2⟩ := hel i (by omega)
      obtain ⟨r, e, _⟩ := range_cells h2
      obtain ⟨_, _, h3⟩ := World.cells?_some h1
      exact ⟨r, fun j hj => by rw [← e]; exact h3 j hj⟩
    obtain ⟨R, hR⟩ := choose_lt (α := Rg) key
    refine ⟨some a, (List.range len).map R, cap, by simp, by simpa using hl, hm, fun hne => ?_⟩
    have hpos : 0 < len := by
      rcases Nat.eq_zero_or_pos len with h0 | h0
      · subst h0
        exact absurd rfl hne
      · exact h0
    obtain ⟨b, off, spot⟩ := a
    have h00 : W.cell? ((Addr.add ⟨b, off, spot⟩ (0 * 4)).add 0) = some (.string (R 0).lo.key) := hR 0 hpos 0 (by omega)
    have hspot : spot = none := by simpa [Addr.add] using World.cell?_spot h00
    subst hspot
    refine ⟨b, off, rfl, ?_, fun i hi => ?_⟩
    · simp [Addr.add] at h00
      exact World.block_lt_of_cell? W _ h00
    · have hi' : i < len := by simpa using hi
      have g : ((List.range len).map R)[i] = R i := by simp
      rw [g]
      have k := hR i hi'
      rw [Go.WideShapes.add_plain] at k
      have k' : ∀ j, j < 4 → W.cell? ⟨b, off + i * 4 + j, none⟩ = ([.string (R i).lo.key, .bool (R i).lo.top, .string (R i).hi.key, .bool (R i).hi.top] : List Value)[j]? := fun j hj => by
        rw [← Go.WideShapes.add_plain]
        exact k j hj
      exact ⟨k' 0 (by omega), k' 1 (by omega), k' 2 (by omega), k' 3 (by omega)⟩
end
end Go.Proofs.YtofandkijmbplaaDoor
