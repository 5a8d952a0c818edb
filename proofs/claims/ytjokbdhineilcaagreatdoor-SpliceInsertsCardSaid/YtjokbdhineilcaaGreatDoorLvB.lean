/-
  Maps from words; a link of a row of links that is set; connect of package bulk. Conditions: the nodes can be read, the links are the call's own.
  connect of package bulk. Conditions: the nodes can be read, the links are the call's own.
-/
import Derived.Test.YtjokbdhineilcaaGreatDoorKvA
import Derived.Test.YtjokbdhineilcaaGreatDoorLnA
import Derived.Test.YtjokbdhineilcaaGreatDoorLpA
import Derived.Test.YtjokbdhineilcaaGreatDoorKmL
import Derived.Test.YtjokbdhineilcaaGreatDoorLeA
import Derived.Deep.DeepCutAuto
import Derived.Deep.CutBlock
import Derived.BigQuiet
import Derived.BigRegion
namespace Go.Proofs.YtjokbdhineilcaaGreatDoor
section
open Go.RowKit Go.Maps

theorem lawU32b : Keyed Tryz.prog 23 := int_keyed Tryz.underlying23
theorem zeroIntV (w : World) : (zeroValue 3).run Tryz.prog w = .ok (.int .i64 0) w := by kernel_rfl
theorem zeroBoolV (w : World) : (zeroValue 4).run Tryz.prog w = .ok (.bool false) w := by kernel_rfl
/-- Block b is a map from words to values; z where there is none. -/
def UMap (w : World) (b n : Nat) (z : Value) (f : Nat → Option Value) : Prop := ∃ D : DataW Value, w.ownsMap Tryz.prog 23 vElem b n D ∧ ∀ i : Nat, i < 4294967296 → Maps.has D (.int .u32 (i : Int)) = (f i).isSome ∧ D.atKey (.int .u32 (i : Int)) (.held z) = .held ((f i).getD z)
section
variable {w w' : World} {b n : Nat} {z : Value} {f : Nat → Option Value}
theorem UMap.kept (h : UMap w b n z f) {row : Option Nat} (hg : w.grownBy w' row) (hne : some b ≠ row) : UMap w' b n z f := by
  obtain ⟨D, h1, h2⟩ := h
  exact ⟨D, h1.kept hg hne, h2⟩
theorem UMap.below (h : UMap w b n z f) (k : Below w.heap.size w w') : UMap w' b n z f := h.kept (row := none) ⟨k.os, k.tape, k.output, k.size, fun i hi _ => k.block i hi⟩ (by simp)
theorem UMap.lt (h : UMap w b n z f) : b < w.heap.size := by obtain ⟨D, h1, _⟩ := h; exact h1.lt
theorem UMap.setC (h : UMap w b n z f) {p : Addr} (hp : b ≠ p.block) (u : Value) : UMap (w.setCell p u) b n z f := by
  obtain ⟨D, h1, h2⟩ := h
  exact ⟨D, h1.setCell hp u, h2⟩
theorem UMap.congr {g : Nat → Option Value} (h : UMap w b n z f) (k : ∀ i, f i = g i) : UMap w b n z g := by
  obtain ⟨D, h1, h2⟩ := h
  exact ⟨D, h1, fun i a => by rw [← k i]; exact h2 i a⟩
theorem UMap.drew (h : UMap w b n z f) : UMap w.drew b n z f := h.below (Below.refl _ _).drew
theorem UMap.look_ok {t e : TypeId} (h : UMap w b n z f) (ht : Tryz.prog.underlying t = some (.map 23 e)) (hz : (zeroValue e).run Tryz.prog w = .ok z w) {i : Nat} (h1 : i < 4294967296) : (Instr.lookup t (.map (some b)) (.int .u32 (i : Int)) true).run Tryz.prog w = .ok (.tuple #[(f i).getD z, .bool (f i).isSome]) w := by
  obtain ⟨D, k1, k2⟩ := h
  obtain ⟨v, ps, hrun, hv⟩ := k1.look_ok lawU32b ht hz (zd := .held z) (zp := []) rfl (key := .int .u32 (i : Int)) (kl := .int .u32 (i : Int)) (keyOf_int_mk Tryz.underlying23 (WalkArith.wf_u32 (by omega)))
  rw [(k2 i h1).2] at hv
  rw [hrun, vElem_inv hv, (k2 i h1).1]
end
theorem VMap.drew {w : World} {b n : Nat} {z : Value} {f : Int → Option Value} (h : VMap w b n z f) : VMap w.drew b n z f := h.below (Below.refl _ _).drew
theorem UMap.made (w : World) (z : Value) : UMap (w.alloc (.map #[] 0)) w.heap.size 0 z (fun _ => none) := ⟨.map [], World.ownsMap_made _ _ _ _, fun _ _ => ⟨rfl, rfl⟩⟩
def updU (f : Nat → Option Value) (k : Nat) (v : Value) : Nat → Option Value := fun i => if i = k then some v else f i
/-- m[k] = v. -/
theorem wpList_uput (w : World) {ops : Array Oper} {rest : List Oper} {o : Oper} {a : Act} {Q : Exit → Act → World → Prop} (hg : o.guard = none) (m x v : Operand) (t : TypeId) (hop : o.op = Op.mapUpdate t m x v)
    (e : TypeId) (ht : Tryz.prog.underlying t = some (.map 23 e)) (b n : Nat) (z : Value) (f : Nat → Option Value) (h : UMap w b n z f) (hm : a.eval m = .map (some b)) (hn : n < maxLen) (k : Nat) (hk : k < 4294967296) (u : Value) (hx : a.eval x = .int .u32 (k : Int)) (hv : a.eval v = u)
    (hK : ∀ w', UMap w' b (n + 1) z (updU f k u) → w.grownBy w' (some b) → wpList Tryz.prog ops Q rest (a.put o.dst undef) w') : wpList Tryz.prog ops Q (o :: rest) a w := by
  obtain ⟨D, h1, h2⟩ := h
  refine wpList_mapUpdate_own w hg m x v t hop 23 e lawU32b ht vElem b n D hm h1 hn (.int .u32 (k : Int)) u (.int .u32 (k : Int)) hx hv (keyOf_int_mk Tryz.underlying23 (WalkArith.wf_u32 (by omega))) (.held u) [] rfl ?_
  intro w' h3 hg'
  refine hK w' ⟨_, h3, fun i a1 => ?_⟩ hg'
  unfold updU
  by_cases e : i = k
  · subst e
    simp only [if_true]
    exact ⟨has_put_same (k := .int .u32 (i : Int)) h1.isMap trivial _, atKey_put_same (k := .int .u32 (i : Int)) h1.isMap trivial _ _⟩
  · have hne : (Lit.int .u32 (i : Int)) ≠ .int .u32 (k : Int) := fun e2 => by injection e2 with _ e2; exact e (by omega)
    simp only [if_neg e]
    rw [has_put_other hne, atKey_put_other hne]
    exact h2 i a1
/-- A link of a row of links: where it lies, and what setting one of its numbers gives. -/
theorem OwnD.put1 {w : World} {base : Nat} {v : Value} {ls : List Ld} (h : OwnD w base v ls) {i k : Nat} (hi : i < ls.length) (hk : k < ls[i].levels.length) : ∃ (G cap H c : Nat), v = .slice (some ⟨G, 0, none⟩) ls.length cap ∧ base ≤ G ∧ G < w.heap.size ∧ w.cell? ⟨G, i * 2 + 1, none⟩ = some (.slice (some ⟨H, 0, none⟩) ls[i].levels.length c) ∧ base ≤ H ∧ H < w.heap.size ∧ (∃ z, w.cell? ⟨H, k * 2, none⟩ = some (.int .i64 z)) ∧ (∃ z, w.cell? ⟨H, k * 2 + 1, none⟩ = some (.int .i64 z)) ∧ (∀ o, w.frozen? ⟨H, o, none⟩ = false) ∧
    ∀ w1 : World, (∀ j, base ≤ j → j < w.heap.size → w1.heap[j]? = w.heap[j]?) → ∀ z, OwnD (w1.setCell ⟨H, k * 2, none⟩ (.int .i64 z)) base v (stL ls i k z) ∧ OwnD (w1.setCell ⟨H, k * 2 + 1, none⟩ (.int .i64 z)) base v (stR ls i k z) := by
  obtain ⟨q, h1, h2, h3, h4⟩ := h
  have hq : i < q.length := by omega
  rcases h1.2 with ⟨rfl, h0⟩ | ⟨G, cap, cur, rfl, hb, hg, hnc, hcm, hcs, htake⟩
  · omega
  obtain ⟨e1, ho, hne⟩ := h3 i hq hi
  obtain ⟨H, c, eH, hH1, hH2, hc1, hc2, z0, z1, hfz, hst⟩ := ho.put hk
  have hGH : G ≠ H := by
    rintro rfl
    rcases hne with e | e
    · rw [eH] at e; cases e
    · exact e (by rw [eH]; rfl)
  have hcell := h1.cellAt (i * 2 + 1) (by omega)
  rw [(flatP_at q i hq).2, eH] at hcell
  refine ⟨G, cap, H, c, rfl, hb, Has.lt hg, hcell, hH1, hH2, z0, z1, hfz, ?_⟩
  have key : ∀ (w1 : World) (f : Lk → Lk), (∀ j, base ≤ j → j < w.heap.size → j ≠ H → w1.heap[j]? = w.heap[j]?) → OwnK w1 base q[i].2 (ls[i].levels.set k (f ls[i].levels[k])) → OwnD w1 base (.slice (some ⟨G, 0, none⟩) ls.length cap) (ls.modify i fun x => ⟨x.id, x.levels.modify k f⟩) := by
    intro w1 f hk1 ho1
    refine ⟨q, ⟨by rw [List.length_modify, flatP_len, h2], .inr ⟨G, cap, cur, by rw [List.length_modify], hb, (hk1 G hb (Has.lt hg) hGH).trans hg, by rw [List.length_modify]; exact hnc, hcm, hcs, by rw [List.length_modify]; exact htake⟩⟩, by rw [List.length_modify]; exact h2, fun j hj hj2 => ?_, h4⟩
    have hj3 : j < ls.length := by rwa [List.length_modify] at hj2
    obtain ⟨p1, p2, p3⟩ := h3 j hj hj3
    by_cases hij : i = j
    · subst hij
      have e5 : (ls.modify i fun x => (⟨x.id, x.levels.modify k f⟩ : Ld))[i]'hj2 = ⟨ls[i].id, ls[i].levels.set k (f ls[i].levels[k])⟩ := by
        rw [List.getElem_modify_eq]
        congr 1
        refine List.ext_getElem (by simp) fun m m1 m2 => ?_
        rw [List.getElem_modify, List.getElem_set]
        by_cases hkm : k = m
        · subst hkm; simp
        · simp [hkm]
      rw [e5]
      exact ⟨p1, ho1, p3⟩
    · have e6 : (ls.modify i fun x => (⟨x.id, x.levels.modify k f⟩ : Ld))[j]'hj2 = ls[j] := by rw [List.getElem_modify, if_neg hij]
      rw [e6]
      refine ⟨p1, p2.blk fun b hb1 hb2 hbb => hk1 b hb1 hb2 ?_, p3⟩
      rintro rfl
      rcases h4 j i hj hq (Ne.symm hij) with e | e
      · rw [e] at hbb; cases hbb
      · rw [hbb, eH] at e
        exact e rfl
  intro w1 hk1 z
  obtain ⟨o1, o2⟩ := hst w1 (hk1 H hH1 hH2) z
  exact ⟨key _ (fun y => ⟨z, y.right⟩) (fun j a b e => (Below.heap_setCell w1 _ _ j e).trans (hk1 j a b)) o1, key _ (fun y => ⟨y.left, z⟩) (fun j a b e => (Below.heap_setCell w1 _ _ j e).trans (hk1 j a b)) o2⟩
theorem OwnD.drew {w : World} {base : Nat} {v : Value} {ls : List Ld} (h : OwnD w base v ls) : OwnD w.drew base v ls := h.below (Below.refl _ _).drew
theorem UMap.ne_cell {w : World} {b n : Nat} {z : Value} {f : Nat → Option Value} (h : UMap w b n z f) {H o : Nat} {u : Value} (k : w.cell? ⟨H, o, none⟩ = some u) : b ≠ H := by
  rintro rfl
  obtain ⟨D, ⟨es, clock, h1, _⟩, _⟩ := h
  unfold World.cell? at k
  rw [h1] at k
  simp at k
theorem UMap.ne_has {w : World} {b n : Nat} {z : Value} {f : Nat → Option Value} (h : UMap w b n z f) {X : Nat} {t : TypeId} {cs : Array Value} (k : Has w X t cs) : b ≠ X := by
  rintro rfl
  obtain ⟨D, ⟨es, clock, h1, _⟩, _⟩ := h
  unfold Has at k
  rw [h1] at k
  cases k
theorem VMap.blk {w w' : World} {b n : Nat} {z : Value} {f : Int → Option Value} (h : VMap w b n z f) (k : w'.heap[b]? = w.heap[b]?) : VMap w' b n z f := by
  obtain ⟨D, h1, h2⟩ := h
  exact ⟨D, ownsMap_block h1 k, h2⟩
/-- What lies in blocks of cells stays, if no such block has turned. -/
theorem OwnK.cells_ {w w' : World} {base : Nat} {v : Value} {l : List Lk} (h : OwnK w base v l) (k : ∀ i, base ≤ i → (∃ cs t z, w.heap[i]? = some (.cells cs t z)) → w'.heap[i]? = w.heap[i]?) : OwnK w' base v l := by
  obtain ⟨h1, h2 | ⟨g, cap, cur, h3, h4, h5, h6⟩⟩ := h
  · exact ⟨h1, .inl h2⟩
  · exact ⟨h1, .inr ⟨g, cap, cur, h3, h4, (k g h4 ⟨_, _, _, h5⟩).trans h5, h6⟩⟩
theorem OwnD.cells_ {w w' : World} {base : Nat} {v : Value} {ls : List Ld} (h : OwnD w base v ls) (k : ∀ i, base ≤ i → (∃ cs t z, w.heap[i]? = some (.cells cs t z)) → w'.heap[i]? = w.heap[i]?) : OwnD w' base v ls := by
  obtain ⟨q, h1, h2, h3, h4⟩ := h
  refine ⟨q, ?_, h2, fun i hq hi => ⟨(h3 i hq hi).1, (h3 i hq hi).2.1.cells_ k, (h3 i hq hi).2.2⟩, h4⟩
  obtain ⟨k1, k2 | ⟨g, cap, cur, k3, k4, k5, k6⟩⟩ := h1
  · exact ⟨k1, .inl k2⟩
  · exact ⟨k1, .inr ⟨g, cap, cur, k3, k4, (k g k4 ⟨_, _, _, k5⟩).trans k5, k6⟩⟩
theorem OwnD.put_map {w w' : World} {base b n : Nat} {v z : Value} {f : Nat → Option Value} {ls : List Ld} (h : OwnD w base v ls) (hm : UMap w b n z f) (hg : w.grownBy w' (some b)) : OwnD w' base v ls := h.cells_ fun i _ ⟨cs, t, y, hi⟩ => hg.block i (blk_lt hi) fun e => by
  have e := Option.some.inj e
  subst e
  obtain ⟨D, ⟨es, clock, h1, _⟩, _⟩ := hm
  rw [h1] at hi
  cases hi
end
section
open Go.RowKit Go.Maps

/-- What the map of a level holds: the place of the last node with these bits. -/
def plU (S : List Nd) (t p : Nat) : Nat → Option Value := fun k => (lstI S t p k).map fun j => .int .i64 (j : Int)
theorem plU_zero (S : List Nd) (t : Nat) : plU S t 0 = fun _ => none := rfl
theorem plU_next (S : List Nd) (t p i : Nat) : updU (plU S t p) (btI S t p) (.int .i64 (p : Int)) i = plU S t (p + 1) i := by
  unfold updU plU
  rw [lstI]
  split
  · rfl
  · rfl
theorem cCnt_le (S : List Nd) (nw : Int → Int) (t : Nat) : ∀ p, cCnt S nw t p ≤ 2 * p
  | 0 => Nat.le_refl _
  | p + 1 => by
    have := cCnt_le S nw t p
    rw [cCnt]
    split <;> omega
theorem cStep_none {S : List Nd} {nw : Int → Int} {t p : Nat} {ls : List Ld} (h : lstI S t p (btI S t p) = none) : cStep S nw t p ls = ls ∧ crsB S nw t p = false := by
  unfold cStep crsB
  rw [h]
  exact ⟨rfl, rfl⟩
theorem cStep_same {S : List Nd} {nw : Int → Int} {t p b : Nat} {ls : List Ld} (h : lstI S t p (btI S t p) = some b) (hw : nw (idAt S b) = nw (idAt S p)) : cStep S nw t p ls = ls ∧ crsB S nw t p = false := by
  unfold cStep crsB
  rw [h]
  simp [hw]
theorem cStep_cross {S : List Nd} {nw : Int → Int} {t p b : Nat} {ls : List Ld} (h : lstI S t p (btI S t p) = some b) (hw : nw (idAt S b) ≠ nw (idAt S p)) : cStep S nw t p ls = stL (stR ls b t (idAt S p)) p t (idAt S b) ∧ crsB S nw t p = true := by
  unfold cStep crsB
  rw [h]
  simp [hw]
theorem below_drw {B : Nat} {a b : World} (h : Below B a b) (n : Nat) : Below B a (b.drewN n) := ⟨h.os, h.tape, h.output, h.size, h.block⟩
def CnnP (R : List Ld) (cn : Nat) (v : Value) (base : Nat) (w : World) (e : Ending) (w' : World) : Prop := e = .returned (.int .i64 (cn : Int)) ∧ OwnD w' base v R ∧ Below base w w'
end
end Go.Proofs.YtjokbdhineilcaaGreatDoor
