/-
  What an argument that is a list of chapter 11 gives a law's walk. No condition.
-/
import Derived.Test.YtmhbloefmknikaaGreatDoorLwG
import Derived.Test.YtmhbloefmknikaaGreatDoorKzC
import Derived.Deep.Strs
import Derived.Lib.SmallJoins
namespace Go.Proofs.YtmhbloefmknikaaGreatDoor
section
open Go.ChangeShapes Go.WideShapes Go.ChangeAt Go.RowKit Go.Joins Go.Deep
set_option maxRecDepth 100000
variable {H : Type} {enc : TypeId × Value → H}
theorem trod_struct5 {P : Program} {w : World} {base : Nat} {spare : Nat → Bool} {held : Bool} {t : TypeId} {f0 f1 f2 f3 f4 : Field} {fuel : Nat} {cs : List Value} {x : DataW H × List MemPlace} (ht : P.underlying t = some (.struct #[f0, f1, f2, f3, f4])) (h : DataW.trod enc P w base spare held fuel t cs = some x) :
    ∃ y0 y1 y2 y3 y4 n, cs.length = P.cellsOf t ∧ DataW.trod enc P w base spare held n f0.type ((cs.drop f0.offset).take (P.cellsOf f0.type)) = some y0 ∧ DataW.trod enc P w base spare held n f1.type ((cs.drop f1.offset).take (P.cellsOf f1.type)) = some y1 ∧ DataW.trod enc P w base spare held n f2.type ((cs.drop f2.offset).take (P.cellsOf f2.type)) = some y2 ∧ DataW.trod enc P w base spare held n f3.type ((cs.drop f3.offset).take (P.cellsOf f3.type)) = some y3 ∧ DataW.trod enc P w base spare held n f4.type ((cs.drop f4.offset).take (P.cellsOf f4.type)) = some y4 := by
  obtain ⟨xs, n, _, rfl, hl, hlen, hf⟩ := DataW.trod_struct ht h
  match xs, hlen with
  | [y0, y1, y2, y3, y4], _ => exact ⟨y0, y1, y2, y3, y4, n, hl, by simpa using hf 0 f0 rfl, by simpa using hf 1 f1 rfl, by simpa using hf 2 f2 rfl, by simpa using hf 3 f3 rfl, by simpa using hf 4 f4 rfl⟩
theorem trod_struct7 {P : Program} {w : World} {base : Nat} {spare : Nat → Bool} {held : Bool} {t : TypeId} {f0 f1 f2 f3 f4 f5 f6 : Field} {fuel : Nat} {cs : List Value} {x : DataW H × List MemPlace} (ht : P.underlying t = some (.struct #[f0, f1, f2, f3, f4, f5, f6])) (h : DataW.trod enc P w base spare held fuel t cs = some x) :
    ∃ y0 y1 y2 y3 y4 y5 y6 n, cs.length = P.cellsOf t ∧ DataW.trod enc P w base spare held n f0.type ((cs.drop f0.offset).take (P.cellsOf f0.type)) = some y0 ∧ DataW.trod enc P w base spare held n f1.type ((cs.drop f1.offset).take (P.cellsOf f1.type)) = some y1 ∧ DataW.trod enc P w base spare held n f2.type ((cs.drop f2.offset).take (P.cellsOf f2.type)) = some y2 ∧ DataW.trod enc P w base spare held n f3.type ((cs.drop f3.offset).take (P.cellsOf f3.type)) = some y3 ∧ DataW.trod enc P w base spare held n f4.type ((cs.drop f4.offset).take (P.cellsOf f4.type)) = some y4 ∧ DataW.trod enc P w base spare held n f5.type ((cs.drop f5.offset).take (P.cellsOf f5.type)) = some y5 ∧ DataW.trod enc P w base spare held n f6.type ((cs.drop f6.offset).take (P.cellsOf f6.type)) = some y6 := by
  obtain ⟨xs, n, _, rfl, hl, hlen, hf⟩ := DataW.trod_struct ht h
  match xs, hlen with
  | [y0, y1, y2, y3, y4, y5, y6], _ => exact ⟨y0, y1, y2, y3, y4, y5, y6, n, hl, by simpa using hf 0 f0 rfl, by simpa using hf 1 f1 rfl, by simpa using hf 2 f2 rfl, by simpa using hf 3 f3 rfl, by simpa using hf 4 f4 rfl, by simpa using hf 5 f5 rfl, by simpa using hf 6 f6 rfl⟩
theorem cIntU : Tryz.prog.cellsOf 3 = 1 := by kernel_rfl
theorem cStrU : Tryz.prog.cellsOf 9 = 1 := by kernel_rfl
theorem cBoolU : Tryz.prog.cellsOf 4 = 1 := by kernel_rfl
theorem cCeU : Tryz.prog.cellsOf 66 = 5 := by kernel_rfl
theorem ce_cells {W : World} {fuel : Nat} {cs : List Value} {x : DataW H × List MemPlace} (h : DataW.trod enc Tryz.prog W 0 (fun _ => true) true fuel 66 cs = some x) :
    ∃ c : Lk.Ce, cs = c.row := by
  obtain ⟨y0, y1, y2, y3, y4, n, hlen, hy0, hy1, hy2, hy3, hy4⟩ := trod_struct5 Tryz.underlying66 h
  rw [cCeU] at hlen
  match cs, hlen with
  | [c0, c1, c2, c3, c4], _ =>
    obtain ⟨q0, e0, _⟩ := DataW.trod_string Tryz.underlying9 hy0
    obtain ⟨q1, e1, _, _⟩ := DataW.trod_int Tryz.underlying3 hy1
    obtain ⟨q2, e2, _, _⟩ := DataW.trod_int Tryz.underlying3 hy2
    obtain ⟨q3, e3, _, _⟩ := DataW.trod_int Tryz.underlying3 hy3
    obtain ⟨q4, e4, _⟩ := DataW.trod_bool Tryz.underlying4 hy4
    simp [cIntU, cStrU, cBoolU] at e0 e1 e2 e3 e4
    exact ⟨⟨q0, q1, q2, q3, q4⟩, by rw [e0, e1, e2, e3, e4]; rfl⟩
theorem cPoU : Tryz.prog.cellsOf 63 = 7 := by kernel_rfl
theorem po_cells {W : World} {fuel : Nat} {cs : List Value} {x : DataW H × List MemPlace} (h : DataW.trod enc Tryz.prog W 0 (fun _ => true) true fuel 63 cs = some x) :
    ∃ c : Lk.Po, cs = c.row := by
  obtain ⟨y0, y1, y2, y3, y4, y5, y6, n, hlen, hy0, hy1, hy2, hy3, hy4, hy5, hy6⟩ := trod_struct7 Tryz.underlying63 h
  rw [cPoU] at hlen
  match cs, hlen with
  | [c0, c1, c2, c3, c4, c5, c6], _ =>
    obtain ⟨q0, e0, _, _⟩ := DataW.trod_int Tryz.underlying3 hy0
    obtain ⟨q1, e1, _, _⟩ := DataW.trod_int Tryz.underlying3 hy1
    obtain ⟨q2, e2, _, _⟩ := DataW.trod_int Tryz.underlying3 hy2
    obtain ⟨q3, e3, _, _⟩ := DataW.trod_int Tryz.underlying3 hy3
    obtain ⟨q4, e4, _, _⟩ := DataW.trod_int Tryz.underlying3 hy4
    obtain ⟨q5, e5, _, _⟩ := DataW.trod_int Tryz.underlying3 hy5
    obtain ⟨q6, e6, _⟩ := DataW.trod_bool Tryz.underlying4 hy6
    simp [cIntU, cBoolU] at e0 e1 e2 e3 e4 e5 e6
    exact ⟨⟨q0, q1, q2, q3, q4, q5, q6⟩, by rw [e0, e1, e2, e3, e4, e5, e6]; rfl⟩
theorem rowk_of {α : Type} [Inhabited α] (f : α → List Value) (k : Nat) (hk0 : 0 < k) (hk : ∀ x, (f x).length = k) {t e : TypeId} (ht : Tryz.prog.underlying t = some (.slice e)) (hc1 : Tryz.prog.cellsOf e = k) {W : World}
    (hel1 : ∀ (fuel : Nat) (cs : List Value) (x : DataW H × List MemPlace), DataW.trod enc Tryz.prog W 0 (fun _ => true) true fuel e cs = some x → ∃ r : α, cs = f r)
    {v : Value} {fuel : Nat} {x : DataW H × List MemPlace} (hf : DataW.trod enc Tryz.prog W 0 (fun _ => true) true fuel t [v] = some x) :
    ∃ (A : Option Addr) (l : List α) (n c : Nat), v = .slice A n c ∧ l.length = n ∧ n ≤ maxLen ∧ Lk.RdR f k W 0 A l := by
  rcases open_slice ht hf with ⟨hcs, hx⟩ | ⟨a, len, cap', m, n, D, Pl, hcs, hb, hl, hm, hmm, hx, hel⟩
  · simp at hcs
    subst hcs
    exact ⟨none, [], 0, 0, rfl, rfl, by unfold maxLen; exact Nat.zero_le _, fun h => absurd rfl h⟩
  · simp at hcs
    subst hcs
    simp only [if_true] at hmm
    rw [hc1] at hel
    have key : ∀ i, i < len → ∃ r : α, ∀ j, j < k → W.cell? ((a.add (i * k)).add j) = (f r)[j]? := fun i hi => by
      obtain ⟨cs', h1, h2⟩ := hel i (by omega)
      obtain ⟨r, e⟩ := hel1 _ _ _ h2
      obtain ⟨_, _, h3⟩ := World.cells?_some h1
      exact ⟨r, fun j hj => by rw [← e]; exact h3 j hj⟩
    obtain ⟨R, hR⟩ := choose_lt (α := α) key
    refine ⟨some a, (List.range len).map R, len, cap', rfl, by simp, by omega, fun hne => ?_⟩
    have hpos : 0 < len := by
      rcases Nat.eq_zero_or_pos len with h0 | h0
      · subst h0
        exact absurd rfl hne
      · exact h0
    obtain ⟨b, off, spot⟩ := a
    have h00 := hR 0 hpos 0 hk0
    have hs0 : ∃ u, (f (R 0))[0]? = some u := ⟨_, List.getElem?_eq_getElem (by rw [hk]; exact hk0)⟩
    obtain ⟨u0, hu0⟩ := hs0
    rw [hu0] at h00
    have hspot : spot = none := by simpa [Addr.add] using World.cell?_spot h00
    subst hspot
    refine ⟨b, off, rfl, Nat.zero_le _, ?_, fun i hi j u hu => ?_⟩
    · simp [Addr.add] at h00
      exact World.block_lt_of_cell? W _ h00
    · have hi' : i < len := by simpa using hi
      have g : ((List.range len).map R)[i] = R i := by simp
      rw [g] at hu
      have hj : j < k := by
        have := (List.getElem?_eq_some_iff.1 hu).1
        rwa [hk] at this
      have kk := hR i hi' j hj
      rw [Go.WideShapes.add_plain, Go.WideShapes.add_plain] at kk
      rw [← hu]
      exact kk
instance inhCeU : Inhabited Lk.Ce := ⟨⟨⟨#[]⟩, 0, 0, 0, false⟩⟩
instance inhPoU : Inhabited Lk.Po := ⟨⟨0, 0, 0, 0, 0, 0, false⟩⟩
/-- A list that came in. -/
theorem list_of {W : World} {b0 : Nat} {v : Value} {d : DataW H} {p : List MemPlace} (hv : Value.okWide Tryz.prog W .any b0 28 v) (h : DataW.Trod enc Tryz.prog W 0 (fun _ => true) true 28 v d p) :
    ∃ (A1 A2 : Option Addr) (l : Lk.Ls) (n m c1 c2 : Nat), v = .agg #[.slice A1 n c1, .slice A2 m c2] ∧ l.cs.length = n ∧ l.ps.length = m ∧ n ≤ maxLen ∧ m ≤ maxLen ∧ Lk.RdL W 0 A1 A2 l := by
  obtain ⟨v0, v1, y0, y1, n, rfl, -, -, h0, h1⟩ := open_agg2 Tryz.underlying28 (by kernel_rfl) (by kernel_rfl) hv h
  obtain ⟨A1, cs, k1, c1, rfl, e1, b1, r1⟩ := rowk_of Lk.Ce.row 5 (by decide) Lk.Ce.row_len Tryz.underlying25 cCeU (fun _ _ _ q => ce_cells q) h0
  obtain ⟨A2, ps, k2, c2, rfl, e2, b2, r2⟩ := rowk_of Lk.Po.row 7 (by decide) Lk.Po.row_len Tryz.underlying26 cPoU (fun _ _ _ q => po_cells q) h1
  exact ⟨A1, A2, ⟨cs, ps⟩, k1, k2, c1, c2, rfl, e1, e2, b1, b2, ⟨r1, r2⟩⟩
end
end Go.Proofs.YtmhbloefmknikaaGreatDoor
