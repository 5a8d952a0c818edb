/-
  Grow and Concat of package slices as bulk calls them. Conditions: what is read can be read; no list is long.
  Concat of package slices as bulk calls it. Conditions: what is read can be read; no list is long.
-/
import Derived.Test.YtjokbdhineilcaaGreatDoorKmL
import Derived.Test.YtjokbdhineilcaaGreatDoorLdX
import Derived.Lib.AppendZerosOnto
import Derived.Test.YtjokbdhineilcaaGreatDoorLvB
import Derived.Test.YtjokbdhineilcaaGreatDoorKqJ
import Derived.Test.YtjokbdhineilcaaGreatDoorLgA
import Derived.Deep.DeepCutAuto
import Derived.Deep.CutBlock
namespace Go.Proofs.YtjokbdhineilcaaGreatDoor
section
open Go.RowKit

/-- slices.Grow of nothing: a row with room, none of it in use. -/
def GrwP (e0 : TypeId) (k : Nat) (w : World) (e : Ending) (w' : World) : Prop := ∃ v, e = .returned v ∧ w'.ownsRow w.heap.size e0 k v 0 [] ∧ Below w.heap.size w w'
theorem zc_size (z : Array Value) (n : Nat) : (Builtin.zeroCells z n).size = n * z.size := by simp [Builtin.zeroCells]
set_option maxRecDepth 100000 in
set_option maxHeartbeats 800000 in
theorem growN_any (n : Nat) (w : World) (hn : n ≤ 10000) : Calls Tryz.prog 54 #[.slice none 0 0, .int .i64 (n : Int)] w (GrwP 25 3 w) := by
  have h1 : ¬ ((n : Int) < 0) := by omega
  rcases Nat.eq_zero_or_pos n with rfl | h0
  · go_enter Tryz.func54, Tryz.ntmps54
    go_wp2_with fail
    go_ret
    exact ⟨_, rfl, ⟨rfl, .inl ⟨rfl, rfl⟩⟩, Below.refl _ _⟩
  · obtain ⟨inf, hif, hif1, hif2, hif3⟩ := infoN_parts
    have hrz : ∀ ty, (Builtin.append_ #[28, 3] ty #[.slice none 0 0, .int .i64 (n : Int)]).run Tryz.prog w =
        .ok (.slice (some ⟨w.heap.size, 0, none⟩) n (grownCap w n 0 25)) (w.drew.alloc (.cells (#[] ++ Builtin.zeroCells (Value.cells (.agg #[.int .i64 0, .string ⟨#[]⟩, .int .u32 0])) n ++ Builtin.zeroCells (Value.cells (.agg #[.int .i64 0, .string ⟨#[]⟩, .int .u32 0])) (grownCap w n 0 25 - n)) 25)) := fun ty => by
      have h := Lib.run_append_grow_zeros w 28 3 ty 25 inf (.agg #[.int .i64 0, .string ⟨#[]⟩, .int .u32 0]) .i64 .i64 Tryz.underlying28 Tryz.underlying3 hif hif1 none 0 0 [] (run_firstCells_none w.drew inf.size 0 0 0) n h0 (by omega) (by omega) (by omega) (by rw [hif3]; omega) (growslice_fits (by omega) (by rw [hif3]; omega))
      rw [Nat.zero_add] at h
      exact h
    have hG1 : n ≤ grownCap w n 0 25 := grownCap_ge w _ _ _
    have hG2 := grownCap_le_maxLen w n 0 25 (by unfold maxLen; omega)
    generalize grownCap w n 0 25 = G at *
    have hGm : G ≤ 9223372036854775807 := by unfold maxLen at hG2; omega
    have hpos : (n : Int) > 0 := by omega
    have HO : Hid (∀ cs : Array Value, cs.size = G * 3 → (w.drew.alloc (.cells cs 25)).ownsRow w.heap.size 25 3 (.slice (some ⟨w.heap.size, 0, none⟩) 0 G) 0 []) := Lib.hid fun cs hcs => ⟨rfl, .inr ⟨w.heap.size, G, cs, rfl, Nat.le_refl _, Has.new w.drew _ _, by omega, hG2, hcs, by simp⟩⟩
    have HB : Hid (∀ o : Obj, Below w.heap.size w (w.drew.alloc o)) := Lib.hid fun o => ((Below.refl w.heap.size w).drew).alloc (Nat.le_refl _) o
    have HSZ : Hid ((#[] ++ Builtin.zeroCells (Value.cells (.agg #[.int .i64 0, .string ⟨#[]⟩, .int .u32 0])) n ++ Builtin.zeroCells (Value.cells (.agg #[.int .i64 0, .string ⟨#[]⟩, .int .u32 0])) (G - n)).size = G * 3) := Lib.hid (by
      rw [Array.size_append, Array.size_append, zc_size, zc_size]
      have : (Value.cells (.agg #[.int .i64 0, .string ⟨#[]⟩, .int .u32 0])).size = 3 := rfl
      rw [this]
      simp
      omega)
    generalize #[] ++ Builtin.zeroCells (Value.cells (.agg #[.int .i64 0, .string ⟨#[]⟩, .int .u32 0])) n ++ Builtin.zeroCells (Value.cells (.agg #[.int .i64 0, .string ⟨#[]⟩, .int .u32 0])) (G - n) = cs at *
    clear hif hif1 hif2 hif3 hn
    go_enter Tryz.func54, Tryz.ntmps54
    go_wp2_with (at_builtin; refine Lib.wpList_append_run _ rfl _ _ _ _ rfl _ _ rfl rfl _ _ (hrz _) ?_)
    all_goals (go_ret; exact ⟨_, rfl, HO.out _ HSZ.out, HB.out _⟩)
end
section
open Go.RowKit Go.Maps

def szF (an bn i : Nat) : Nat := if i = 0 then 0 else if i = 1 then an else an + bn
def catF {α : Type} (a b : List α) (i : Nat) : List α := if i = 0 then [] else if i = 1 then a else a ++ b
set_option maxRecDepth 100000 in
set_option maxHeartbeats 1600000 in
theorem concatN_any (X : Nat) (A1 A2 : Option Addr) (a b : List Nd) (c1 c2 : Nat) (w : World) (h0 : w.cell? ⟨X, 0, none⟩ = some (.slice A1 a.length c1)) (h1 : w.cell? ⟨X, 1, none⟩ = some (.slice A2 b.length c2)) (hX : X < w.heap.size) (ha : Nds w w.heap.size A1 a) (hb : Nds w w.heap.size A2 b) (hn1 : a.length ≤ 1000) (hn2 : b.length ≤ 1000) :
    Calls Tryz.prog 28 #[.slice (some ⟨X, 0, none⟩) 2 2] w (NdsP (a ++ b) w) := by
  have HA := Lib.hid ha
  have HB := Lib.hid hb
  have HC0 : Hid (catF a b 0 = []) := Lib.hid rfl
  have HC1 : Hid (catF a b 1 = catF a b 0 ++ a) := Lib.hid rfl
  have HC2 : Hid (catF a b 2 = catF a b 1 ++ b) := Lib.hid rfl
  have HCF : Hid (catF a b 2 = a ++ b) := Lib.hid rfl
  have HCL : Hid ((catF a b 0).length = 0 ∧ (catF a b 1).length = a.length) := Lib.hid ⟨rfl, rfl⟩
  obtain ⟨an, han⟩ : ∃ n, n = a.length := ⟨_, rfl⟩
  obtain ⟨bn, hbn⟩ : ∃ n, n = b.length := ⟨_, rfl⟩
  have HAN := Lib.hid han
  have HBN := Lib.hid hbn
  rw [← han] at h0 hn1 HCL
  rw [← hbn] at h1 hn2
  have HS0 : Hid (szF an bn 0 = 0) := Lib.hid rfl
  have HS1 : Hid (szF an bn 1 = an) := Lib.hid rfl
  have HS2 : Hid (szF an bn 2 = an + bn) := Lib.hid rfl
  obtain ⟨inf, hif, hif1, hif2, hif3⟩ := infoN_parts
  have HG := Lib.hid (fun (n : Nat) (hn : n ≤ 10000) => growN_any n w hn)
  clear ha hb han hbn
  go_enter Tryz.func28, Tryz.ntmps28
  go_wp2_with fail
  go_loopw [3, 11] (fun vs vi wr => ∃ i s : Nat, vi = .int .i64 (i : Int) ∧ vs = .int .i64 (s : Int) ∧ i ≤ 2 ∧ Hid (s = szF an bn i) ∧ w = wr) (fun _ vi _ => 2 - (intOf vi).toNat)
  case atStart => exact ⟨0, 0, rfl, rfl, by omega, Lib.hid rfl, rfl⟩
  case round =>
    obtain ⟨i, s, rfl, rfl, hi, HS, rfl⟩ := hrel
    have h3 : i = 0 ∨ i = 1 ∨ i = 2 := by omega
    rcases h3 with rfl | rfl | rfl
    · have e := HS.out.trans HS0.out
      subst e
      clear HS
      go_wp2_with fail
      exact ⟨⟨1, an, rfl, rfl, by omega, Lib.hid HS1.out.symm, (by first | rfl | trivial)⟩, by simp [intOf]⟩
    · have e := HS.out.trans HS1.out
      subst e
      clear HS
      have hw : IntKind.i64.wrap ((s : Int) + (bn : Int)) = (s : Int) + (bn : Int) := IntWalk.i64_in _ (by omega)
      have hz : ¬ ((s : Int) + (bn : Int) < 0) := by omega
      go_wp2_with fail
      exact ⟨⟨2, s + bn, rfl, by simp, by omega, Lib.hid HS2.out.symm, (by first | rfl | trivial)⟩, by simp [intOf]⟩
    · have e := HS.out.trans HS2.out
      subst e
      clear HS hi
      have HGG := Lib.hid (HG.out (an + bn) (by omega))
      rw [show ((an + bn : Nat) : Int) = (an : Int) + (bn : Int) by omega] at HGG
      rw [show ((an + bn : Nat) : Int) = (an : Int) + (bn : Int) by omega]
      go_wp2_with fail
      refine (HGG.out).mono ?_
      rintro e w1 ⟨v, rfl, ho1, hb1⟩
      have HO1 := Lib.hid (show OwnN w1 w.heap.size v (catF a b 0) from by rw [HC0.out]; exact ho1)
      have HB1 := Lib.hid hb1
      clear HGG HG ho1 hb1 HS0 HS1 HS2
      go_wp2_with fail
      go_loopw [6, 27] (fun vr vi wr => ∃ (i : Nat) (v1 : Value), vi = .int .i64 (i : Int) ∧ v1 = vr ∧ i ≤ 2 ∧ OwnN wr w.heap.size v1 (catF a b i) ∧ Below w.heap.size w wr) (fun _ vi _ => 2 - (intOf vi).toNat)
      case atStart => exact ⟨0, v, rfl, rfl, by omega, HO1.out, HB1.out⟩
      case round =>
        clear HO1 HB1
        obtain ⟨i, v1, rfl, rfl, hi, ho, hB⟩ := hrel
        have f0 := (hB.cell (p := ⟨X, 0, none⟩) hX).trans h0
        have f1 := (hB.cell (p := ⟨X, 1, none⟩) hX).trans h1
        have HBW := Lib.hid hB
        have HOW := Lib.hid ho
        clear hB ho
        have h3 : i = 0 ∨ i = 1 ∨ i = 2 := by omega
        rcases h3 with rfl | rfl | rfl
        · go_wp2_with (at_builtin; refine wpList_pushNs rfl _ _ 28 rfl w.heap.size inf Tryz.underlying28 hif hif1 hif2 hif3 v1 (catF a b 0) rfl HOW.out w.heap.size A1 a an c1 HAN.out.symm rfl (HA.out.below HBW.out) (by rw [HCL.out.1]; omega) HBW.out.size ?_; intro v2 w2 ho2 hb2; have HO2 := Lib.hid ho2; have HB2 := Lib.hid (HBW.out.trans hb2); clear ho2 hb2)
          exact ⟨⟨1, v2, rfl, rfl, by omega, by rw [HC1.out]; exact HO2.out, HB2.out⟩, by simp [intOf]⟩
        · go_wp2_with (at_builtin; refine wpList_pushNs rfl _ _ 28 rfl w.heap.size inf Tryz.underlying28 hif hif1 hif2 hif3 v1 (catF a b 1) rfl HOW.out w.heap.size A2 b bn c2 HBN.out.symm rfl (HB.out.below HBW.out) (by rw [HCL.out.2]; omega) HBW.out.size ?_; intro v2 w2 ho2 hb2; have HO2 := Lib.hid ho2; have HB2 := Lib.hid (HBW.out.trans hb2); clear ho2 hb2)
          exact ⟨⟨2, v2, rfl, rfl, by omega, by rw [HC2.out]; exact HO2.out, HB2.out⟩, by simp [intOf]⟩
        · go_wp2_with fail
          go_ret
          have ho := HOW.out
          rw [HCF.out] at ho
          obtain ⟨A3, c3, rfl, -⟩ := ho.read
          exact ⟨A3, c3, rfl, ho, HBW.out⟩
/-- A row of the call's own of nodes' links, whose levels lie in blocks below it. -/
def CpD (w : World) (base : Nat) (v : Value) (ls : List Ld) : Prop :=
  ∃ q : List (Int × Value), w.ownsRow base 56 2 v ls.length (flatP q) ∧ q.length = ls.length ∧
    ∀ (i : Nat) (hq : i < q.length) (h : i < ls.length), q[i].1 = ls[i].id ∧ ∃ (A' : Option Addr) (c' : Nat), q[i].2 = .slice A' ls[i].levels.length c' ∧ ls[i].levels.length ≤ c' ∧ c' ≤ maxLen ∧ Lks w base A' ls[i].levels
theorem CpD.read {w : World} {base : Nat} {v : Value} {ls : List Ld} (h : CpD w base v ls) (hb : base ≤ w.heap.size) : ∃ A c, v = .slice A ls.length c ∧ Lds w w.heap.size A ls := by
  obtain ⟨q, h1, h2, h3⟩ := h
  rcases h1.2 with ⟨rfl, h0⟩ | ⟨g, cap, cur, rfl, hbg, hg, hnc, hcm, hcs, htake⟩
  · have : ls = [] := List.eq_nil_of_length_eq_zero h0
    subst this
    exact ⟨none, 0, rfl, fun hn => absurd rfl hn⟩
  · refine ⟨_, cap, rfl, fun _ => ⟨g, 0, rfl, Has.lt hg, fun i hi => ?_⟩⟩
    have hq : i < q.length := by omega
    obtain ⟨e1, A', c', e2, k1, k2, k3⟩ := h3 i hq hi
    obtain ⟨p1, p2⟩ := flatP_at q i hq
    rw [Nat.zero_add, h1.cellAt (i * 2) (by omega), h1.cellAt (i * 2 + 1) (by omega), p1, p2, e1, e2]
    exact ⟨by first | rfl | trivial, A', c', by first | rfl | trivial, k1, k2, k3.more hb⟩
theorem run_pushD_nil {P : Program} (w : World) (base : Nat) (t ty : TypeId) (i : TypeInfo) (ht : P.underlying t = some (.slice 56)) (hi : P.info? 56 = some i)
    (v : Value) (l : List Ld) (hown : CpD w base v l) (A : Option Addr) (c : Nat) : (Builtin.append_ #[t, t] ty #[v, .slice A 0 c]).run P w = .ok v w := by
  obtain ⟨q, h1, _⟩ := hown
  cases A with
  | none =>
    rcases h1.2 with ⟨rfl, _⟩ | ⟨g, cap, cur, rfl, _, _, hnc, _⟩
    · simp [Builtin.append_, run_underlying ht, sizeOf, typeInfo, hi, Builtin.lenOf, Builtin.firstCells]
    · simp [Builtin.append_, run_underlying ht, sizeOf, typeInfo, hi, Builtin.lenOf, Builtin.firstCells, hnc, storeCells]
  | some ad =>
    rcases h1.2 with ⟨rfl, _⟩ | ⟨g, cap, cur, rfl, _, _, hnc, _⟩
    · simp [Builtin.append_, run_underlying ht, sizeOf, typeInfo, hi, Builtin.lenOf, Builtin.firstCells, loadCells, loadCellsFrom]
    · simp [Builtin.append_, run_underlying ht, sizeOf, typeInfo, hi, Builtin.lenOf, Builtin.firstCells, hnc, storeCells, loadCells, loadCellsFrom]
theorem run_pushDs {P : Program} (w : World) (base : Nat) (t ty : TypeId) (i : TypeInfo) (ht : P.underlying t = some (.slice 56)) (hi : P.info? 56 = some i) (hz : i.zero = some (.agg #[.int .i64 0, .slice none 0 0])) (hsize : i.size = 2) (hby : i.bytes = 32)
    (v : Value) (l : List Ld) (hown : CpD w base v l) (A : Option Addr) (m : List Ld) (n c : Nat) (hn : m.length = n) (hm : Lds w base A m) (hlen : l.length + n ≤ 1000000) (hbase : base ≤ w.heap.size) :
    ∃ v' w', (Builtin.append_ #[t, t] ty #[v, .slice A n c]).run P w = .ok v' w' ∧ CpD w' base v' (l ++ m) ∧ Below base w w' := by
  subst hn
  by_cases hm0 : m = []
  · subst hm0
    exact ⟨v, w, run_pushD_nil w base t ty i ht hi v l hown A c, by rw [List.append_nil]; exact hown, Below.refl _ _⟩
  · obtain ⟨b, o, e, hb, hc⟩ := hm hm0
    subst e
    obtain ⟨f, hf⟩ := Classical.axiomOfChoice (r := fun (k : Fin m.length) (u : Value) => w.cell? ⟨b, o + k.1 * 2, none⟩ = some (.int .i64 m[k.1].id) ∧ w.cell? ⟨b, o + k.1 * 2 + 1, none⟩ = some u ∧ ∃ (A' : Option Addr) (c' : Nat), u = .slice A' m[k.1].levels.length c' ∧ m[k.1].levels.length ≤ c' ∧ c' ≤ maxLen ∧ Lks w base A' m[k.1].levels) (fun k => by
      obtain ⟨k1, A', c', k2, k3, k4, k5⟩ := hc k.1 k.2
      exact ⟨_, k1, k2, A', c', rfl, k3, k4, k5⟩)
    let qm : List (Int × Value) := List.ofFn fun k : Fin m.length => (m[k.1].id, f k)
    have hql : qm.length = m.length := by simp [qm]
    have hqa : ∀ j (h1 : j < qm.length) (h2 : j < m.length), qm[j] = (m[j].id, f ⟨j, h2⟩) := fun j h1 h2 => by simp [qm]
    obtain ⟨q, h1, h2, h3⟩ := hown
    have hcell : ∀ j u, (flatP qm)[j]? = some u → w.cell? (Addr.add ⟨b, o, none⟩ j) = some u := fun j u hj => by
      have h0 : j < (flatP qm).length := (List.getElem?_eq_some_iff.1 hj).1
      rw [flatP_len, hql] at h0
      have hj2 : j / 2 < m.length := by omega
      obtain ⟨k1, k2, _⟩ := hf ⟨j / 2, hj2⟩
      obtain ⟨p1, p2⟩ := flatP_at qm (j / 2) (by omega)
      rw [hqa (j / 2) (by omega) hj2] at p1 p2
      rw [add_at]
      rcases Nat.mod_two_eq_zero_or_one j with e0 | e0
      · rw [show j / 2 * 2 = j by omega] at p1
        rw [p1] at hj
        rw [← hj, ← k1]
        simp only
        rw [show j / 2 * 2 = j by omega]
      · rw [show j / 2 * 2 + 1 = j by omega] at p2
        rw [p2] at hj
        rw [← hj, ← k2]
        simp only
        rw [show o + j / 2 * 2 + 1 = o + j by omega]
    have hones : ∀ u ∈ flatP qm, u.oneCell' = true := fun u hu => by
      unfold flatP at hu
      obtain ⟨y, hy, hy2⟩ := List.mem_flatMap.1 hu
      obtain ⟨j, hj, rfl⟩ := List.mem_iff_getElem.1 hy
      rw [hqa j hj (by omega)] at hy2
      simp at hy2
      rcases hy2 with rfl | rfl
      · rfl
      · obtain ⟨_, _, A', c', e, _⟩ := hf ⟨j, by omega⟩
        rw [e]
        rfl
    obtain ⟨v', w', hrun, h4, hg, _, _⟩ := run_append_own_at (P := P) w base t ty 56 i (.agg #[.int .i64 0, .slice none 0 0]) 2 32 ht hi hz hsize hby rfl (by decide) v l.length (flatP q) h1 ⟨b, o, none⟩ m.length c (flatP qm) (by rw [flatP_len, hql]) hcell hones (by unfold maxLen; omega) (by omega) hbase
    have hbw : Below base w w' := ⟨hg.os, hg.tape, hg.output, hg.size, fun j hj => hg.block j (by omega) (by
      intro e
      obtain ⟨_, ⟨rfl, _⟩ | ⟨g', cap', cur, rfl, k4, k5, _⟩⟩ := h1
      · cases e
      · have : j = g' := Option.some.inj e
        omega)⟩
    refine ⟨v', w', hrun, ⟨q ++ qm, ?_, by simp [h2, hql], fun j hj hj2 => ?_⟩, hbw⟩
    · rw [flatP_app, List.length_append]
      exact h4
    · rcases Nat.lt_or_ge j q.length with h5 | h5
      · have h6 : j < l.length := by omega
        obtain ⟨e1, A', c', e2, k1, k2, k3⟩ := h3 j h5 h6
        rw [List.getElem_append_left h5, List.getElem_append_left h6]
        exact ⟨e1, A', c', e2, k1, k2, k3.below hbw⟩
      · have h7 : j - q.length < m.length := by rw [List.length_append] at hj; omega
        have h8 : j - l.length = j - q.length := by omega
        rw [List.getElem_append_right h5, List.getElem_append_right (by omega)]
        rw [hqa (j - q.length) (by omega) h7]
        simp only [h8]
        obtain ⟨_, _, A', c', e, k1, k2, k3⟩ := hf ⟨j - q.length, h7⟩
        exact ⟨by first | rfl | trivial, A', c', e, k1, k2, k3.below hbw⟩
theorem wpList_pushDs {P : Program} {ops : Array Oper} {rest : List Oper} {o : Oper} {a : Act} {Q : Exit → Act → World → Prop} {w : World} (hgd : o.guard = none) (s x : Operand) (t : TypeId)
    (ho : o.op = .call { callee := .builtin .append, args := #[s, x], argTypes := #[t, t] })
    (base : Nat) (i : TypeInfo) (ht : P.underlying t = some (.slice 56)) (hi : P.info? 56 = some i) (hz : i.zero = some (.agg #[.int .i64 0, .slice none 0 0])) (hsize : i.size = 2) (hby : i.bytes = 32)
    (v : Value) (l : List Ld) (hs : a.eval s = v) (hown : CpD w base v l) (A : Option Addr) (m : List Ld) (n c : Nat) (hn : m.length = n) (hx : a.eval x = .slice A n c) (hm : Lds w base A m) (hlen : l.length + n ≤ 1000000) (hbase : base ≤ w.heap.size)
    (h : ∀ v' w', CpD w' base v' (l ++ m) → Below base w w' → wpList P ops Q rest (a.put o.dst v') w') : wpList P ops Q (o :: rest) a w := by
  refine wpList_plain hgd fun K hK => ?_
  obtain ⟨v', w', hr, h2, h3⟩ := run_pushDs (P := P) w base t o.type i ht hi hz hsize hby v l hown A m n c hn hm hlen hbase
  unfold Oper.wp execOp
  simp only [ho, resolve, invoke, builtin, Sem.run_bind, Sem.run_pure, Result.andThen_ok, List.map_toArray, List.map_cons, List.map_nil, hs, hx, hr]
  exact hK _ _ (h v' w' h2 h3)
def CpDP (l : List Ld) (w : World) (e : Ending) (w' : World) : Prop := ∃ v, e = .returned v ∧ CpD w' w.heap.size v l ∧ Below w.heap.size w w'
end
end Go.Proofs.YtjokbdhineilcaaGreatDoor
