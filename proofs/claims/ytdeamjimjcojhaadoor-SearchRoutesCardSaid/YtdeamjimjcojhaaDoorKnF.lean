/-
  What an argument that is a slice of nodes' links gives a law's walk.
-/
import Derived.Test.YtdeamjimjcojhaaDoorLnA
import Derived.Test.YtdeamjimjcojhaaDoorKwN
namespace Go.Proofs.YtdeamjimjcojhaaDoor
open Go.RowKit

open Go.ChangeShapes Go.WideShapes Go.ChangeAt Go.Joins Go.Deep
set_option maxRecDepth 100000
section
variable {H : Type} {enc : TypeId × Value → H}
instance inhLkF : Inhabited Lk := ⟨⟨0, 0⟩⟩
instance inhLdF : Inhabited Ld := ⟨⟨0, []⟩⟩
theorem cells2F {α : Type} {cs : List α} (h : cs.length = 2) : ∃ c0 c1, cs = [c0, c1] := by
  match cs, h with
  | [c0, c1], _ => exact ⟨c0, c1, rfl⟩
theorem cLkF : Tryd.prog.cellsOf 68 = 2 := by kernel_rfl
theorem cLdF : Tryd.prog.cellsOf 71 = 2 := by kernel_rfl
theorem cLksF : Tryd.prog.cellsOf 69 = 1 := by kernel_rfl
theorem lk_cells {W : World} {fuel : Nat} {cs : List Value} {x : DataW H × List MemPlace} (h : DataW.trod enc Tryd.prog W 0 (fun _ => true) true fuel 68 cs = some x) :
    ∃ c : Lk, cs = [.int .i64 c.left, .int .i64 c.right] ∧ LkW c := by
  obtain ⟨y0, y1, n, _, hlen, hy0, hy1⟩ := trod_struct2 Tryd.underlying68 h
  rw [cLkF] at hlen
  obtain ⟨c0, c1, rfl⟩ := cells2F hlen
  obtain ⟨z, e0, _, hz⟩ := DataW.trod_int Tryd.underlying3 hy0
  obtain ⟨u, e1, _, hu⟩ := DataW.trod_int Tryd.underlying3 hy1
  simp [cIntN] at e0 e1
  exact ⟨⟨z, u⟩, by rw [e0, e1], bounds_i64 hz, bounds_i64 hu⟩
/-- A slice of links that came in, as it is trod. -/
theorem lks_trod {W : World} {fuel : Nat} {cs : List Value} {x : DataW H × List MemPlace} (h : DataW.trod enc Tryd.prog W 0 (fun _ => true) true fuel 69 cs = some x) :
    ∃ (A : Option Addr) (l : List Lk) (c : Nat), cs = [.slice A l.length c] ∧ l.length ≤ c ∧ c ≤ maxLen ∧ (∀ y ∈ l, LkW y) ∧ Lks W W.heap.size A l := by
  rcases open_slice Tryd.underlying69 h with ⟨hcs, hx⟩ | ⟨a, len, cap, m, n, D, Pl, hcs, hb, hl, hm, hmm, hx, hel⟩
  · exact ⟨none, [], 0, hcs, Nat.le_refl _, by unfold maxLen; omega, (by simp), fun h => absurd rfl h⟩
  · simp only [if_true] at hmm
    rw [cLkF] at hel
    have key : ∀ i, i < len → ∃ r : Lk, LkW r ∧ ∀ j, j < 2 → W.cell? ((a.add (i * 2)).add j) = ([.int .i64 r.left, .int .i64 r.right] : List Value)[j]? := fun i hi => by
      obtain ⟨cs', h1, h2⟩ := hel i (by omega)
      obtain ⟨r, e, hw⟩ := lk_cells h2
      obtain ⟨_, _, h3⟩ := World.cells?_some h1
      exact ⟨r, hw, fun j hj => by rw [← e]; exact h3 j hj⟩
    obtain ⟨R, hR⟩ := choose_lt (α := Lk) key
    refine ⟨some a, (List.range len).map R, cap, by simpa using hcs, by simpa using hl, hm, fun y hy => ?_, fun hne => ?_⟩
    · obtain ⟨i, hi, rfl⟩ := List.mem_map.1 hy
      exact (hR i (by simpa using hi)).1
    have hpos : 0 < len := by
      rcases Nat.eq_zero_or_pos len with h0 | h0
      · subst h0
        exact absurd rfl hne
      · exact h0
    obtain ⟨b, off, spot⟩ := a
    have h00 : W.cell? ((Addr.add ⟨b, off, spot⟩ (0 * 2)).add 0) = some (.int .i64 (R 0).left) := (hR 0 hpos).2 0 (by omega)
    have hspot : spot = none := by simpa [Addr.add] using World.cell?_spot h00
    subst hspot
    refine ⟨b, off, rfl, ?_, fun i hi => ?_⟩
    · simp [Addr.add] at h00
      exact World.block_lt_of_cell? W _ h00
    · have hi' : i < len := by simpa using hi
      have g : ((List.range len).map R)[i] = R i := by simp
      rw [g]
      have k := (hR i hi').2
      rw [Go.WideShapes.add_plain] at k
      have k' : ∀ j, j < 2 → W.cell? ⟨b, off + i * 2 + j, none⟩ = ([.int .i64 (R i).left, .int .i64 (R i).right] : List Value)[j]? := fun j hj => by
        rw [← Go.WideShapes.add_plain]
        exact k j hj
      exact ⟨k' 0 (by omega), k' 1 (by omega)⟩
def LdW (x : Ld) : Prop := I64 x.id ∧ ∀ y ∈ x.levels, LkW y
theorem ld_cells {W : World} {fuel : Nat} {cs : List Value} {x : DataW H × List MemPlace} (h : DataW.trod enc Tryd.prog W 0 (fun _ => true) true fuel 71 cs = some x) :
    ∃ (c : Ld) (A : Option Addr) (k : Nat), cs = [.int .i64 c.id, .slice A c.levels.length k] ∧ LdW c ∧ c.levels.length ≤ k ∧ k ≤ maxLen ∧ Lks W W.heap.size A c.levels := by
  obtain ⟨y0, y1, n, _, hlen, hy0, hy1⟩ := trod_struct2 Tryd.underlying71 h
  rw [cLdF] at hlen
  obtain ⟨c0, c1, rfl⟩ := cells2F hlen
  obtain ⟨z, e0, _, hz⟩ := DataW.trod_int Tryd.underlying3 hy0
  obtain ⟨A, l, k, e1, h1, h2, h3, h4⟩ := lks_trod hy1
  simp [cIntN, cLksF] at e0 e1
  exact ⟨⟨z, l⟩, A, k, by rw [e0, e1], ⟨bounds_i64 hz, h3⟩, h1, h2, h4⟩
/-- A slice of nodes' links that came in. -/
theorem lds_of {W : World} {b0 : Nat} {v : Value} {d : DataW H} {p : List MemPlace} (hv : Value.okWide Tryd.prog W .any b0 24 v) (h : DataW.Trod enc Tryd.prog W 0 (fun _ => true) true 24 v d p) :
    ∃ (A : Option Addr) (l : List Ld) (c : Nat), v = .slice A l.length c ∧ l.length ≤ c ∧ c ≤ maxLen ∧ (∀ x ∈ l, LdW x) ∧ Lds W W.heap.size A l := by
  obtain ⟨a0, len, cap, rfl⟩ := okWide_slice Tryd.underlying24 hv
  obtain ⟨fuel, hf⟩ := h
  rcases open_slice Tryd.underlying24 hf with ⟨hcs, hx⟩ | ⟨a, len', cap', m, n, D, Pl, hcs, hb, hl, hm, hmm, hx, hel⟩
  · simp [Value.cells] at hcs
    obtain ⟨rfl, rfl, rfl⟩ := hcs
    exact ⟨none, [], 0, rfl, Nat.le_refl _, by unfold maxLen; omega, (by simp), fun h => absurd rfl h⟩
  · simp [Value.cells] at hcs
    obtain ⟨rfl, rfl, rfl⟩ := hcs
    simp only [if_true] at hmm
    rw [cLdF] at hel
    have key : ∀ i, i < len → ∃ r : Ld, LdW r ∧ ∃ (A : Option Addr) (k : Nat), (r.levels.length ≤ k ∧ k ≤ maxLen ∧ Lks W W.heap.size A r.levels) ∧ ∀ j, j < 2 → W.cell? ((a.add (i * 2)).add j) = ([.int .i64 r.id, .slice A r.levels.length k] : List Value)[j]? := fun i hi => by
      obtain ⟨cs', h1, h2⟩ := hel i (by omega)
      obtain ⟨r, A, k, e, hw, k1, k2, k3⟩ := ld_cells h2
      obtain ⟨_, _, h3⟩ := World.cells?_some h1
      exact ⟨r, hw, A, k, ⟨k1, k2, k3⟩, fun j hj => by rw [← e]; exact h3 j hj⟩
    obtain ⟨R, hR⟩ := choose_lt (α := Ld) key
    refine ⟨some a, (List.range len).map R, cap, by simp, by simpa using hl, hm, fun y hy => ?_, fun hne => ?_⟩
    · obtain ⟨i, hi, rfl⟩ := List.mem_map.1 hy
      exact (hR i (by simpa using hi)).1
    have hpos : 0 < len := by
      rcases Nat.eq_zero_or_pos len with h0 | h0
      · subst h0
        exact absurd rfl hne
      · exact h0
    obtain ⟨b, off, spot⟩ := a
    obtain ⟨_, A0, k0, _, hc0⟩ := hR 0 hpos
    have h00 : W.cell? ((Addr.add ⟨b, off, spot⟩ (0 * 2)).add 0) = some (.int .i64 (R 0).id) := hc0 0 (by omega)
    have hspot : spot = none := by simpa [Addr.add] using World.cell?_spot h00
    subst hspot
    refine ⟨b, off, rfl, ?_, fun i hi => ?_⟩
    · simp [Addr.add] at h00
      exact World.block_lt_of_cell? W _ h00
    · have hi' : i < len := by simpa using hi
      have g : ((List.range len).map R)[i] = R i := by simp
      rw [g]
      obtain ⟨_, A1, k1, ⟨q1, q2, q3⟩, k⟩ := hR i hi'
      rw [Go.WideShapes.add_plain] at k
      have k' : ∀ j, j < 2 → W.cell? ⟨b, off + i * 2 + j, none⟩ = ([.int .i64 (R i).id, .slice A1 (R i).levels.length k1] : List Value)[j]? := fun j hj => by
        rw [← Go.WideShapes.add_plain]
        exact k j hj
      exact ⟨k' 0 (by omega), A1, k1, k' 1 (by omega), q1, q2, q3⟩
end
end Go.Proofs.YtdeamjimjcojhaaDoor
