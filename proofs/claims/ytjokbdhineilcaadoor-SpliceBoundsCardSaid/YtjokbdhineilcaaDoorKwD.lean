/-
  What the listed variable gives the walk: the library's table of trailing zeros.
-/
import Derived.Test.YtjokbdhineilcaaDoorLwG
import Derived.Test.YtjokbdhineilcaaDoorLdG
import Derived.Test.YtjokbdhineilcaaDoorCards
import Derived.Test.YtjokbdhineilcaaDoorTie
namespace Go.Proofs.YtjokbdhineilcaaDoor
open Go.ChangeShapes Go.WideShapes Go.ChangeAt Go.RowKit Go.Joins
set_option maxRecDepth 100000

theorem u32_of {H : Type} {enc : TypeId × Value → H} {W : World} {b0 : Nat} {v : Value} {d : DataW H} {p : List MemPlace} (hv : Value.okWide Tryd.prog W .any b0 28 v) (h : DataW.Trod enc Tryd.prog W 0 (fun _ => true) true 28 v d p) : ∃ n : Nat, v = .int .u32 (n : Int) ∧ n < 4294967296 := by
  obtain ⟨n, e, _, _, hw⟩ := open_int Tryd.underlying28 hv h
  have hb := bounds_u32 hw
  exact ⟨n.toNat, by rw [e, Int.toNat_of_nonneg hb.1], by omega⟩
theorem gDeb : Tryd.prog.globalNamed "math/bits.deBruijn32tab" = some 1 := by kernel_rfl
theorem tDeb : (Tryd.prog.globals[1]?).map (·.type) = some 144 := by kernel_rfl

/-- What the laws' rows list. -/
def laidD : List (String × DataW Unit) := [("math/bits.deBruijn32tab", Rows.laid_math_bits_deBruijn32tab)]

theorem deb_list : (Rows.laid_math_bits_deBruijn32tab : DataW Unit) = .agg (Lib.deBruijn32tab.map fun (n : Nat) => .lit (.int .u8 (n : Int))) := rfl

theorem cU8 : Tryd.prog.cellsOf 5 = 1 := by kernel_rfl
theorem lit_int {k j : IntKind} {a b : Int} (h : some (DataW.lit (H := Unit) (.int k a)) = some (DataW.lit (.int j b))) : a = b := by simp at h; exact h.2

/-- The listed variable holds the library's table. -/
theorem deb_of_laid {W : World} (h : laidMetH Tryd.prog laidD W) : Deb W ∧ 0 < W.heap.size := by
  rw [MakeChecks.laidMetH_plain _ _ _ (by kernel_rfl)] at h
  obtain ⟨ps, ⟨g0, t0, cs0, f0, p0, q0, hg0, ht0, hv0, hd0, _, _⟩, _, _⟩ := h
  obtain rfl := Option.some.inj (gDeb.symm.trans hg0)
  obtain rfl := Option.some.inj (tDeb.symm.trans ht0)
  obtain ⟨xs, m1, rfl, hx1, hlen, hn3, hel⟩ := DataW.trod_array Tryd.underlying144 hd0
  simp only [Prod.mk.injEq] at hx1
  have e4 : xs.map (·.1) = Lib.deBruijn32tab.map fun (n : Nat) => DataW.lit (.int .u8 (n : Int)) := by
    have := hx1.1
    rw [deb_list] at this
    injection this with this
    exact this.symm
  have key : Deb W := fun i hi => by
    have hi32 : i < 32 := hi
    have he := hel i hi32
    have hxi : xs[i]? = some (xs[i]'(by omega)) := List.getElem?_eq_getElem (by omega)
    rw [hxi, cU8] at he
    obtain ⟨n, e1, e2, _⟩ := DataW.trod_int Tryd.underlying5 he
    have e3 : (xs.map (·.1))[i]? = some (.lit (.int .u8 n)) := by rw [List.getElem?_map, hxi, e2]; rfl
    rw [e4, List.getElem?_map, List.getElem?_eq_getElem hi] at e3
    have en : ((Lib.deBruijn32tab[i] : Nat) : Int) = n := lit_int e3
    have hcell := World.var?_cell hg0 hv0 i
    rw [hcell]
    have hl1 : cs0[i]? = some (.int .u8 n) := by
      have : (cs0.toList.drop (i * 1)).take 1 = [.int .u8 n] := e1
      rw [Nat.mul_one] at this
      have h2 := congrArg (·[0]?) this
      simpa [List.getElem?_take, List.getElem?_drop] using h2
    rw [hl1, ← en, List.getD_eq_getElem?_getD, List.getElem?_eq_getElem hi]
    rfl
  exact ⟨key, Nat.lt_of_le_of_lt (Nat.zero_le _) key.lt⟩
end Go.Proofs.YtjokbdhineilcaaDoor
