/-
  What arguments that are slices of strings and of truths give a law's walk. No condition.
-/
import Derived.Test.YtmhbloefmknikaaDoorLwG
import Derived.Test.YtmhbloefmknikaaDoorKzC
import Derived.Deep.Strs
namespace Go.Proofs.YtmhbloefmknikaaDoor
section
open Go.ChangeShapes Go.WideShapes Go.ChangeAt Go.RowKit Go.Joins Go.Deep
set_option maxRecDepth 100000
variable {H : Type} {enc : TypeId × Value → H}
theorem row1_of {α : Type} [Inhabited α] (f : α → Value) {t e : TypeId} (ht : Tryd.prog.underlying t = some (.slice e)) (hc1 : Tryd.prog.cellsOf e = 1) {W : World}
    (hel1 : ∀ (fuel : Nat) (cs : List Value) (x : DataW H × List MemPlace), DataW.trod enc Tryd.prog W 0 (fun _ => true) true fuel e cs = some x → ∃ r : α, cs = [f r])
    {b0 : Nat} {v : Value} {d : DataW H} {p : List MemPlace} (hv : Value.okWide Tryd.prog W .any b0 t v) (h : DataW.Trod enc Tryd.prog W 0 (fun _ => true) true t v d p) :
    ∃ (A : Option Addr) (l : List α) (c : Nat), v = .slice A l.length c ∧ l.length ≤ maxLen ∧ Lk.RdR (fun x => [f x]) 1 W 0 A l := by
  obtain ⟨a0, len, cap, rfl⟩ := okWide_slice ht hv
  obtain ⟨fuel, hf⟩ := h
  rcases open_slice ht hf with ⟨hcs, hx⟩ | ⟨a, len', cap', m, n, D, Pl, hcs, hb, hl, hm, hmm, hx, hel⟩
  · simp [Value.cells] at hcs
    obtain ⟨rfl, rfl, rfl⟩ := hcs
    exact ⟨none, [], 0, rfl, by unfold maxLen; exact Nat.zero_le _, fun h => absurd rfl h⟩
  · simp [Value.cells] at hcs
    obtain ⟨rfl, rfl, rfl⟩ := hcs
    simp only [if_true] at hmm
    rw [hc1] at hel
    have key : ∀ i, i < len → ∃ r : α, W.cell? ((a.add (i * 1)).add 0) = some (f r) := fun i hi => by
      obtain ⟨cs', h1, h2⟩ := hel i (by omega)
      obtain ⟨r, e⟩ := hel1 _ _ _ h2
      obtain ⟨_, _, h3⟩ := World.cells?_some h1
      exact ⟨r, by rw [h3 0 (by omega), e]; rfl⟩
    obtain ⟨R, hR⟩ := choose_lt (α := α) key
    refine ⟨some a, (List.range len).map R, cap, by simp, by simp; omega, fun hne => ?_⟩
    have hpos : 0 < len := by
      rcases Nat.eq_zero_or_pos len with h0 | h0
      · subst h0
        exact absurd rfl hne
      · exact h0
    obtain ⟨b, off, spot⟩ := a
    have h00 : W.cell? ((Addr.add ⟨b, off, spot⟩ (0 * 1)).add 0) = some (f (R 0)) := hR 0 hpos
    have hspot : spot = none := by simpa [Addr.add] using World.cell?_spot h00
    subst hspot
    refine ⟨b, off, rfl, Nat.zero_le _, ?_, fun i hi j u hu => ?_⟩
    · simp [Addr.add] at h00
      exact World.block_lt_of_cell? W _ h00
    · have hi' : i < len := by simpa using hi
      have g : ((List.range len).map R)[i] = R i := by simp
      rw [g] at hu
      have hj : j = 0 := by
        have := (List.getElem?_eq_some_iff.1 hu).1
        simp at this
        exact this
      subst hj
      have k := hR i hi'
      rw [Go.WideShapes.add_plain, Go.WideShapes.add_plain] at k
      simp at hu
      rw [← hu]
      exact k
theorem cStrK : Tryd.prog.cellsOf 9 = 1 := by kernel_rfl
theorem cBoolK : Tryd.prog.cellsOf 4 = 1 := by kernel_rfl
theorem strs_of {W : World} {b0 : Nat} {v : Value} {d : DataW H} {p : List MemPlace} (hv : Value.okWide Tryd.prog W .any b0 45 v) (h : DataW.Trod enc Tryd.prog W 0 (fun _ => true) true 45 v d p) :
    ∃ (A : Option Addr) (l : List ByteArray) (c : Nat), v = .slice A l.length c ∧ l.length ≤ maxLen ∧ Lk.RdR Lk.trow 1 W 0 A l :=
  row1_of (α := ByteArray) (fun s => .string s) Tryd.underlying45 cStrK (fun fuel cs x hx => by
    obtain ⟨q, e, _⟩ := DataW.trod_string Tryd.underlying9 hx
    exact ⟨q, e⟩) hv h
theorem bools_of {W : World} {b0 : Nat} {v : Value} {d : DataW H} {p : List MemPlace} (hv : Value.okWide Tryd.prog W .any b0 31 v) (h : DataW.Trod enc Tryd.prog W 0 (fun _ => true) true 31 v d p) :
    ∃ (A : Option Addr) (l : List Bool) (c : Nat), v = .slice A l.length c ∧ l.length ≤ maxLen ∧ Lk.RdR Lk.brow 1 W 0 A l :=
  row1_of (α := Bool) (fun s => .bool s) Tryd.underlying31 cBoolK (fun fuel cs x hx => by
    obtain ⟨q, e, _⟩ := DataW.trod_bool Tryd.underlying4 hx
    exact ⟨q, e⟩) hv h
end
end Go.Proofs.YtmhbloefmknikaaDoor
