/-
  What an argument that is a slice of nodes gives a law's walk.
  What an argument that is a node gives a law's walk.
-/
import Derived.Test.YtjokbdhineilcaaGreatDoorLwG
import Derived.Test.YtjokbdhineilcaaGreatDoorLdG
import Derived.Deep.Strs
import Derived.Test.YtjokbdhineilcaaGreatDoorLgG
namespace Go.Proofs.YtjokbdhineilcaaGreatDoor
section
open Go.ChangeShapes Go.WideShapes Go.ChangeAt Go.RowKit Go.Joins Go.Deep
set_option maxRecDepth 100000

section
variable {H : Type} {enc : TypeId × Value → H}
instance inhNdE : Inhabited Nd := ⟨⟨0, ⟨#[]⟩, 0⟩⟩
theorem cellsN3 {α : Type} {cs : List α} (h : cs.length = 3) : ∃ c0 c1 c2, cs = [c0, c1, c2] := by
  match cs, h with
  | [c0, c1, c2], _ => exact ⟨c0, c1, c2, rfl⟩
theorem cNdN : Tryz.prog.cellsOf 25 = 3 := by kernel_rfl
theorem cU32N : Tryz.prog.cellsOf 23 = 1 := by kernel_rfl
theorem cIntN : Tryz.prog.cellsOf 3 = 1 := by kernel_rfl
theorem cStrN : Tryz.prog.cellsOf 9 = 1 := by kernel_rfl
theorem nd_cells {W : World} {fuel : Nat} {cs : List Value} {x : DataW H × List MemPlace} (h : DataW.trod enc Tryz.prog W 0 (fun _ => true) true fuel 25 cs = some x) :
    ∃ c : Nd, cs = [.int .i64 c.id, .string c.key, .int .u32 (c.word : Int)] ∧ c.wide := by
  obtain ⟨y0, y1, y2, n, _, hlen, hy0, hy1, hy2⟩ := trod_struct3 Tryz.underlying25 h
  rw [cNdN] at hlen
  obtain ⟨c0, c1, c2, rfl⟩ := cellsN3 hlen
  obtain ⟨z, e0, _, hz⟩ := DataW.trod_int Tryz.underlying3 hy0
  obtain ⟨q, e1, _⟩ := DataW.trod_string Tryz.underlying9 hy1
  obtain ⟨u, e2, _, hu⟩ := DataW.trod_int Tryz.underlying23 hy2
  simp [cIntN, cStrN, cU32N] at e0 e1 e2
  have hb := bounds_u32 hu
  exact ⟨⟨z, q, u.toNat⟩, by rw [e0, e1, e2]; simp only [Int.toNat_of_nonneg hb.1], bounds_i64 hz, by show u.toNat < 4294967296; omega⟩
/-- A slice of nodes that came in. -/
theorem nds_of {W : World} {b0 : Nat} {v : Value} {d : DataW H} {p : List MemPlace} (hv : Value.okWide Tryz.prog W .any b0 28 v) (h : DataW.Trod enc Tryz.prog W 0 (fun _ => true) true 28 v d p) :
    ∃ (A : Option Addr) (l : List Nd) (c : Nat), v = .slice A l.length c ∧ (∀ i (h : i < l.length), l[i].wide) ∧ Nds W W.heap.size A l := by
  obtain ⟨a0, len, cap, rfl⟩ := okWide_slice Tryz.underlying28 hv
  obtain ⟨fuel, hf⟩ := h
  rcases open_slice Tryz.underlying28 hf with ⟨hcs, hx⟩ | ⟨a, len', cap', m, n, D, Pl, hcs, hb, hl, hm, hmm, hx, hel⟩
  · simp [Value.cells] at hcs
    obtain ⟨rfl, rfl, rfl⟩ := hcs
    exact ⟨none, [], 0, rfl, fun i h => by simp at h, fun h => absurd rfl h⟩
  · simp [Value.cells] at hcs
    obtain ⟨rfl, rfl, rfl⟩ := hcs
    simp only [if_true] at hmm
    rw [cNdN] at hel
    have key : ∀ i, i < len → ∃ r : Nd, r.wide ∧ ∀ j, j < 3 → W.cell? ((a.add (i * 3)).add j) = ([.int .i64 r.id, .string r.key, .int .u32 (r.word : Int)] : List Value)[j]? := fun i hi => by
      obtain ⟨cs', h1, h2⟩ := hel i (by omega)
      obtain ⟨r, e, hw⟩ := nd_cells h2
      obtain ⟨_, _, h3⟩ := World.cells?_some h1
      exact ⟨r, hw, fun j hj => by rw [← e]; exact h3 j hj⟩
    obtain ⟨R, hR⟩ := choose_lt (α := Nd) key
    refine ⟨some a, (List.range len).map R, cap, by simp, fun i hi => ?_, fun hne => ?_⟩
    · have hi' : i < len := by simpa using hi
      have g : ((List.range len).map R)[i] = R i := by simp
      rw [g]
      exact (hR i hi').1
    have hpos : 0 < len := by
      rcases Nat.eq_zero_or_pos len with h0 | h0
      · subst h0
        exact absurd rfl hne
      · exact h0
    obtain ⟨b, off, spot⟩ := a
    have h00 : W.cell? ((Addr.add ⟨b, off, spot⟩ (0 * 3)).add 0) = some (.int .i64 (R 0).id) := (hR 0 hpos).2 0 (by omega)
    have hspot : spot = none := by simpa [Addr.add] using World.cell?_spot h00
    subst hspot
    refine ⟨b, off, rfl, ?_, fun i hi => ?_⟩
    · simp [Addr.add] at h00
      exact World.block_lt_of_cell? W _ h00
    · have hi' : i < len := by simpa using hi
      have g : ((List.range len).map R)[i] = R i := by simp
      rw [g]
      have k := (hR i hi').2
      rw [Go.WideShapes.add_plain] at k
      have k' : ∀ j, j < 3 → W.cell? ⟨b, off + i * 3 + j, none⟩ = ([.int .i64 (R i).id, .string (R i).key, .int .u32 ((R i).word : Int)] : List Value)[j]? := fun j hj => by
        rw [← Go.WideShapes.add_plain]
        exact k j hj
      exact ⟨k' 0 (by omega), k' 1 (by omega), k' 2 (by omega)⟩
end
end
section
open Go.ChangeShapes Go.WideShapes Go.ChangeAt Go.RowKit Go.Joins Go.Deep
set_option maxRecDepth 100000

/-- A node that came in. -/
theorem node_of {H : Type} {enc : TypeId × Value → H} {W : World} {b0 : Nat} {v : Value} {d : DataW H} {p : List MemPlace} (hv : Value.okWide Tryz.prog W .any b0 25 v) (h : DataW.Trod enc Tryz.prog W 0 (fun _ => true) true 25 v d p) : ∃ x : Nd, v = x.val ∧ x.wide := by
  obtain ⟨cs, rfl, _⟩ := okWide_struct Tryz.underlying25 hv
  obtain ⟨fuel, hf⟩ := h
  obtain ⟨x, e, hx⟩ := nd_cells hf
  simp only [Value.cells] at e
  refine ⟨x, ?_, hx⟩
  obtain ⟨l⟩ := cs
  simp only at e
  subst e
  rfl
end
end Go.Proofs.YtjokbdhineilcaaGreatDoor
