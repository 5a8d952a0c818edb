/-
  Maps from words; a link of a row of links that is set; connect of package bulk. Conditions: the nodes can be read, the links are the call's own.
  connect of package bulk. Conditions: the nodes can be read, the links are the call's own.
-/
import Derived.Test.YtddcfiiahahkbaaDoorKvA
import Derived.Test.YtddcfiiahahkbaaDoorLnA
import Derived.Test.YtddcfiiahahkbaaDoorLpA
import Derived.Test.YtddcfiiahahkbaaDoorKmL
import Derived.Test.YtddcfiiahahkbaaDoorLeA
import Derived.Deep.DeepCutAuto
import Derived.Deep.CutBlock
import Derived.BigQuiet
import Derived.BigRegion
namespace Go.Proofs.YtddcfiiahahkbaaDoor
section
open Go.RowKit Go.Maps

theorem lawU32b : Keyed Tryd.prog 37 := int_keyed Tryd.underlying37
theorem zeroIntV (w : World) : (zeroValue 3).run Tryd.prog w = .ok (.int .i64 0) w := by kernel_rfl
theorem zeroBoolV (w : World) : (zeroValue 4).run Tryd.prog w = .ok (.bool false) w := by kernel_rfl
/-- Block b is a map from words to values; z where there is none. -/
def UMap (w : World) (b n : Nat) (z : Value) (f : Nat → Option Value) : Prop := ∃ D : DataW Value, w.ownsMap Tryd.prog 37 vElem b n D ∧ ∀ i : Nat, i < 4294967296 → Maps.has D (.int .u32 (i : Int)) = (f i).isSome ∧ D.atKey (.int .u32 (i : Int)) (.held z) = .held ((f i).getD z)
section
variable {w w' : World} {b n : Nat} {z : Value} {f : Nat → Option Value}
theorem UMap.kept (h : UMap w b n z f) {row : Option Nat} (hg : w.grownBy w' row) (hne : some b ≠ row) : UMap w' b n z f := by
  obtain ⟨D, h1, h2⟩ := h
  exact ⟨D, h1.kept hg hne, h2⟩
theorem UMap.below (h : UMap w b n z f) (k : Below w.heap.size w w') : UMap w' b n z f := h.kept (row := none) ⟨k.os, k.tape, k.output, k.size, fun i hi _ => k.block i hi⟩ (by simp)
theorem UMap.lt (h : UMap w b n z f) : b < w.heap.size := by obtain ⟨D, h1, _⟩ := h; exact h1.lt
theorem UMap.setC (h : UMap w b n z f) {p : Addr} (hp : b ≠ p.block) (u : Value) : UMap (w.setCell p u) b n z f := by
  obtain ⟨D, h1, h2⟩ := h
  exact ⟨D, h1.setCell hp u, h2⟩
theorem UMap.congr {g : Nat → Option Value} (h : UMap w b n z f) (k : ∀ i, f i = g i) : UMap w b n z g := by
  obtain ⟨D, h1, h2⟩ := h
  exact ⟨D, h1, fun i a => by rw [← k i]; exact h2 i a⟩
theorem UMap.drew (h : UMap w b n z f) : UMap w.drew b n z f := h.below (Below.refl _ _).drew
theorem UMap.look_ok {t e : TypeId} (h : UMap w b n z f) (ht : Tryd.prog.underlying t = some (.map 37 e)) (hz : (zeroValue e).run Tryd.prog w = .ok z w) {i : Nat} (h1 : i < 4294967296) : (Instr.lookup t (.map (some b)) (.int .u32 (i : Int)) true).run Tryd.prog w = .ok (.tuple #[(f i).getD z, .bool (f i).isSome]) w := by
  obtain ⟨D, k1, k2⟩ := h
  obtain ⟨v, ps, hrun, hv⟩ := k1.look_ok lawU32b ht hz (zd := .held z) (zp := []) rfl (key := .int .u32 (i : Int)) (kl := .int .u32 (i : Int)) (keyOf_int_mk Tryd.underlying37 (WalkArith.wf_u32 (by omega)))
  rw [(k2 i h1).2] at hv
  rw [hrun, vElem_inv hv, (k2 i h1).1]
end
theorem VMap.drew {w : World} {b n : Nat} {z : Value} {f : Int → Option Value} (h : VMap w b n z f) : VMap w.drew b n z f := h.below (Below.refl _ _).drew
theorem UMap.made (w : World) (z : Value) : UMap (w.alloc (.map #[] 0)) w.heap.size 0 z (fun _ => none) := ⟨.map [], World.ownsMap_made _ _ _ _, fun _ _ => ⟨rfl, rfl⟩⟩
def updU (f : Nat → Option Value) (k : Nat) (v : Value) : Nat → Option Value := fun i => if i = k then some v else f i
/-- m[k] = v. -/
theorem wpList_uput (w : World) {ops : Array Oper} {rest : List Oper} {o : Oper} {a : Act} {Q : Exit → Act → World → Prop} (hg : o.guard = none) (m x v : Operand) (t : TypeId) (hop : o.op = Op.mapUpdate t m x v)
    (e : TypeId) (ht : Tryd.prog.underlying t = some (.map 37 e)) (b n : Nat) (z : Value) (f : Nat → Option Value) (h : UMap w b n z f) (hm : a.eval m = .map (some b)) (hn : n < maxLen) (k : Nat) (hk : k < 4294967296) (u : Value) (hx : a.eval x = .int .u32 (k : Int)) (hv : a.eval v = u)
    (hK : ∀ w', UMap w' b (n + 1) z (updU f k u) → w.grownBy w' (some b) → wpList Tryd.prog ops Q rest (a.put o.dst undef) w') : wpList Tryd.prog ops Q (o :: rest) a w := by
  obtain ⟨D, h1, h2⟩ := h
  refine wpList_mapUpdate_own w hg m x v t hop 37 e lawU32b ht vElem b n D hm h1 hn (.int .u32 (k : Int)) u (.int .u32 (k : Int)) hx hv (keyOf_int_mk Tryd.underlying37 (WalkArith.wf_u32 (by omega))) (.held u) [] rfl ?_
  intro w' h3 hg'
  refine hK w' ⟨_, h3, fun i a1 => ?_⟩ hg'
  unfold updU
  by_cases e : i = k
  · subst e
    simp only [if_true]
    exact ⟨has_put_same (k := .int .u32 (i : Int)) h1.isMap trivial _, atKey_put_same (k := .int .u32 (i : Int)) h1.isMap trivial _ _⟩
  · have hne : (Lit.int .u32 (i : Int)) ≠ .int .u32 (k : Int) := fun e2 => by injection e2 with _ e2; exact e (by omega)
    simp only [if_neg e]
    rw [has_put_other hne, atKey_put_other hne]
    exact h2 i a1
/-- A link of a row of links: where it lies, and what setting one of its numbers gives. -/
theorem OwnD.put1 {w : World} {base : Nat} {v : Value} {ls : List Ld} (h : OwnD w base v ls) {i k : Nat} (hi : i < ls.length) (hk : k < ls[i].levels.length) : ∃ (G cap H c : Nat), v = .slice (some ⟨G, 0, none⟩) ls.length cap ∧ base ≤ G ∧ G < w.heap.size ∧ w.cell? ⟨G, i * 2 + 1, none⟩ = some (.slice (some ⟨H, 0, none⟩) ls[i].levels.length c) ∧ base ≤ H ∧ H < w.heap.size ∧ (∃ z, w.cell? ⟨H, k * 2, none⟩ = some (.int .i64 z)) ∧ (∃ z, w.cell? ⟨H, k * 2 + 1, none⟩ = some (.int .i64 z)) ∧ (∀ o, w.frozen? ⟨H, o, none⟩ = false) ∧
    ∀ w1 : World, (∀ j, base ≤ j → j < w.heap.size → w1.heap[j]? = w.heap[j]?) → ∀ z, OwnD (w1.setCell ⟨H, k * 2, none⟩ (.int .i64 z)) base v (stL ls i k z) ∧ OwnD (w1.setCell ⟨H, k * 2 + 1, none⟩ (.int .i64 z)) base v (stR ls i k z) := by
  obtain ⟨q, h1, h2, h3, h4⟩ := h
  have hq : i < q.length := by omega
  rcases h1.2 with ⟨rfl, h0⟩ | ⟨G, cap, cur, rfl, hb, hg, hnc, hcm, hcs, htake⟩
  · omega
  obtain ⟨e1, ho, hne⟩ := h3 i hq hi
  obtain ⟨H, c, eH, hH1, hH2, hc1, hc2, z0, z1, hfz, hst⟩ := ho.put hk
  have hGH : G ≠ H := by
    rintro rfl
    rcases hne with e | e
    · rw [eH] at e; cases e
    · exact e (by rw [eH]; rfl)
  have hcell := h1.cellAt (i * 2 + 1) (by omega)
  rw [(flatP_at q i hq).2, eH] at hcell
  refine ⟨G, cap, H, c, rfl, hb, Has.lt hg, hcell, hH1, hH2, z0, z1, hfz, ?_⟩
  have key : ∀ (w1 : World) (f : Lk → Lk), (∀ j, base ≤ j → j < w.heap.size → j ≠ H → w1.heap[j]? = w.heap[j]?) → OwnK w1 base q[i].2 (ls[i].levels.set k (f ls[i].levels[k])) → OwnD w1 base (.slice (some ⟨G, 0, none⟩) ls.length cap) (ls.modify i fun x => ⟨x.id, x.levels.modify k f⟩) := by
    intro w1 f hk1 ho1
    refine ⟨q, ⟨by rw [List.length_modify, flatP_len, h2], .inr ⟨G, cap, cur, by rw [List.length_modify], hb, (hk1 G hb (Has.lt hg) hGH).trans hg, by rw [List.length_modify]; exact hnc, hcm, hcs, by rw [List.length_modify]; exact htake⟩⟩, by rw [List.length_modify]; exact h2, fun j hj hj2 => ?_, h4⟩
    have hj3 : j < ls.length := by rwa [List.length_modify] at hj2
    obtain ⟨p1, p2, p3⟩ := h3 j hj hj3
    by_cases hij : i = j
    · subst hij
      have e5 : (ls.modify i fun x => (⟨x.id, x.levels.modify k f⟩ : Ld))[i]'hj2 = ⟨ls[i].id, ls[i].levels.set k (f ls[i].levels[k])⟩ := by
        rw [List.getElem_modify_eq]
        congr 1
        refine List.ext_getElem (by simp) fun m m1 m2 => ?_
        rw [List.getElem_modify, List.getElem_set]
        by_cases hkm : k = m
        · subst hkm; simp
        · simp [hkm]
      rw [e5]
      exact ⟨p1, ho1, p3⟩
    · have e6 : (ls.modify i fun x => (⟨x.id, x.levels.modify k f⟩ : Ld))[j]'hj2 = ls[j] := by rw [List.getElem_modify, if_neg hij]
      rw [e6]
      refine ⟨p1, p2.blk fun b hb1 hb2 hbb => hk1 b hb1 hb2 ?_, p3⟩
      rintro rfl
      rcases h4 j i hj hq (Ne.symm hij) with e | e
      · rw [e] at hbb; cases hbb
      · rw [hbb, eH] at e
        exact e rfl
  intro w1 hk1 z
  obtain ⟨o1, o2⟩ := hst w1 (hk1 H hH1 hH2) z
  exact ⟨key _ (fun y => ⟨z, y.right⟩) (fun j a b e => (Below.heap_setCell w1 _ _ j e).trans (hk1 j a b)) o1, key _ (fun y => ⟨y.left, z⟩) (fun j a b e => (Below.heap_setCell w1 _ _ j e).trans (hk1 j a b)) o2⟩
theorem OwnD.drew {w : World} {base : Nat} {v : Value} {ls : List Ld} (h : OwnD w base v ls) : OwnD w.drew base v ls := h.below (Below.refl _ _).drew
theorem UMap.ne_cell {w : World} {b n : Nat} {z : Value} {f : Nat → Option Value} (h : UMap w b n z f) {H o : Nat} {u : Value} (k : w.cell? ⟨H, o, none⟩ = some u) : b ≠ H := by
  rintro rfl
  obtain ⟨D, ⟨es, clock, h1, _⟩, _⟩ := h
  unfold World.cell? at k
  rw [h1] at k
  simp at k
theorem UMap.ne_has {w : World} {b n : Nat} {z : Value} {f : Nat → Option Value} (h : UMap w b n z f) {X : Nat} {t : TypeId} {cs : Array Value} (k : Has w X t cs) : b ≠ X := by
  rintro rfl
  obtain ⟨D, ⟨es, clock, h1, _⟩, _⟩ := h
  unfold Has at k
  rw [h1] at k
  cases k
theorem VMap.blk {w w' : World} {b n : Nat} {z : Value} {f : Int → Option Value} (h : VMap w b n z f) (k : w'.heap[b]? = w.heap[b]?) : VMap w' b n z f := by
  obtain ⟨D, h1, h2⟩ := h
  exact ⟨D, ownsMap_block h1 k, h2⟩
/-- What lies in blocks of cells stays, if no such block has turned. -/
theorem OwnK.cells_ {w w' : World} {base : Nat} {v : Value} {l : List Lk} (h : OwnK w base v l) (k : ∀ i, base ≤ i → (∃ cs t z, w.heap[i]? = some (.cells cs t z)) → w'.heap[i]? = w.heap[i]?) : OwnK w' base v l := by
  obtain ⟨h1, h2 | ⟨g, cap, cur, h3, h4, h5, h6⟩⟩ := h
  · exact ⟨h1, .inl h2⟩
  · exact ⟨h1, .inr ⟨g, cap, cur, h3, h4, (k g h4 ⟨_, _, _, h5⟩).trans h5, h6⟩⟩
theorem OwnD.cells_ {w w' : World} {base : Nat} {v : Value} {ls : List Ld} (h : OwnD w base v ls) (k : ∀ i, base ≤ i → (∃ cs t z, w.heap[i]? = some (.cells cs t z)) → w'.heap[i]? = w.heap[i]?) : OwnD w' base v ls := by
  obtain ⟨q, h1, h2, h3, h4⟩ := h
  refine ⟨q, ?_, h2, fun i hq hi => ⟨(h3 i hq hi).1, (h3 i hq hi).2.1.cells_ k, (h3 i hq hi).2.2⟩, h4⟩
  obtain ⟨k1, k2 | ⟨g, cap, cur, k3, k4, k5, k6⟩⟩ := h1
  · exact ⟨k1, .inl k2⟩
  · exact ⟨k1, .inr ⟨g, cap, cur, k3, k4, (k g k4 ⟨_, _, _, k5⟩).trans k5, k6⟩⟩
theorem OwnD.put_map {w w' : World} {base b n : Nat} {v z : Value} {f : Nat → Option Value} {ls : List Ld} (h : OwnD w base v ls) (hm : UMap w b n z f) (hg : w.grownBy w' (some b)) : OwnD w' base v ls := h.cells_ fun i _ ⟨cs, t, y, hi⟩ => hg.block i (blk_lt hi) fun e => by
  have e := Option.some.inj e
  subst e
  obtain ⟨D, ⟨es, clock, h1, _⟩, _⟩ := hm
  rw [h1] at hi
  cases hi
end
section
open Go.RowKit Go.Maps

/-- What the map of a level holds: the place of the last node with these bits. -/
def plU (S : List Nd) (t p : Nat) : Nat → Option Value := fun k => (lstI S t p k).map fun j => .int .i64 (j : Int)
theorem plU_zero (S : List Nd) (t : Nat) : plU S t 0 = fun _ => none := rfl
theorem plU_next (S : List Nd) (t p i : Nat) : updU (plU S t p) (btI S t p) (.int .i64 (p : Int)) i = plU S t (p + 1) i := by
  unfold updU plU
  rw [lstI]
  split
  · rfl
  · rfl
theorem cCnt_le (S : List Nd) (nw : Int → Int) (t : Nat) : ∀ p, cCnt S nw t p ≤ 2 * p
  | 0 => Nat.le_refl _
  | p + 1 => by
    have := cCnt_le S nw t p
    rw [cCnt]
    split <;> omega
theorem cStep_none {S : List Nd} {nw : Int → Int} {t p : Nat} {ls : List Ld} (h : lstI S t p (btI S t p) = none) : cStep S nw t p ls = ls ∧ crsB S nw t p = false := by
  unfold cStep crsB
  rw [h]
  exact ⟨rfl, rfl⟩
theorem cStep_same {S : List Nd} {nw : Int → Int} {t p b : Nat} {ls : List Ld} (h : lstI S t p (btI S t p) = some b) (hw : nw (idAt S b) = nw (idAt S p)) : cStep S nw t p ls = ls ∧ crsB S nw t p = false := by
  unfold cStep crsB
  rw [h]
  simp [hw]
theorem cStep_cross {S : List Nd} {nw : Int → Int} {t p b : Nat} {ls : List Ld} (h : lstI S t p (btI S t p) = some b) (hw : nw (idAt S b) ≠ nw (idAt S p)) : cStep S nw t p ls = stL (stR ls b t (idAt S p)) p t (idAt S b) ∧ crsB S nw t p = true := by
  unfold cStep crsB
  rw [h]
  simp [hw]
theorem below_drw {B : Nat} {a b : World} (h : Below B a b) (n : Nat) : Below B a (b.drewN n) := ⟨h.os, h.tape, h.output, h.size, h.block⟩
def CnnP (R : List Ld) (cn : Nat) (v : Value) (base : Nat) (w : World) (e : Ending) (w' : World) : Prop := e = .returned (.int .i64 (cn : Int)) ∧ OwnD w' base v R ∧ Below base w w'
set_option maxRecDepth 100000 in
set_option maxHeartbeats 3200000 in
theorem connect_any (A : Option Addr) (S : List Nd) (c : Nat) (v : Value) (base bm nm : Nat) (ls : List Ld) (f : Int → Option Value) (nw : Int → Int) (t M : Nat) (w : World) (hS : Nds w base A S) (hsl : S.length ≤ 64) (hwd : ∀ x ∈ S, x.wide) (hv : OwnD w base v ls) (hbs : base ≤ w.heap.size) (hl : ls.length = S.length) (ha : AllM ls M) (ht : t < M) (hM : M ≤ 17) (hm : VMap w bm nm (.int .i64 0) f) (hbm : bm < base) (hf : ∀ x ∈ S, (f x.id).getD (.int .i64 0) = .int .i64 (nw x.id)) :
    Calls Tryd.prog 50 #[.slice A S.length c, v, .map (some bm), .int .i64 (t : Int)] w (CnnP (cRun S nw t S.length ls) (cCnt S nw t S.length) v base w) := by
  have HS := Lib.hid hS
  have HW := Lib.hid hwd
  have HF := Lib.hid hf
  have HVM := Lib.hid hm
  have HA := Lib.hid ha
  have HLL := Lib.hid hl
  obtain ⟨N, hN⟩ : ∃ N, N = S.length := ⟨_, rfl⟩
  have HN := Lib.hid hN
  rw [← hN] at hsl ⊢
  have hmm := @run_makeMap Tryd.prog
  have HU0 := Lib.hid (UMap.made w (.int .i64 0))
  have HD0 := Lib.hid (hv.below ((Below.refl w.heap.size w).alloc (Nat.le_refl _) (.map #[] 0)))
  have HB0 := Lib.hid ((Below.refl base w).alloc hbs (.map #[] 0))
  obtain ⟨g, hg⟩ : ∃ g, g = w.heap.size := ⟨_, rfl⟩
  have HG := Lib.hid (show base ≤ g by omega)
  rw [← hg] at HU0
  clear hS hwd hv hm hf ha hl hN
  go_enter Tryd.func50, Tryd.ntmps50
  go_wp2_with fail
  rw [← hg]
  clear hg
  go_loopw [9, 19] (fun vc vp wr => ∃ (p cn : Nat), vp = .int .i64 (p : Int) ∧ vc = .int .i64 (cn : Int) ∧ p ≤ N ∧ cn ≤ 2 * p ∧ Hid (cn = cCnt S nw t p) ∧ OwnD wr base v (cRun S nw t p ls) ∧ (∃ n, n ≤ p ∧ UMap wr g n (.int .i64 0) (plU S t p)) ∧ Below base w wr) (fun _ vp _ => N - (intOf vp).toNat)
  case atStart => exact ⟨0, 0, rfl, rfl, by omega, by omega, Lib.hid rfl, HD0.out, ⟨0, by omega, HU0.out⟩, HB0.out⟩
  case round =>
    clear HU0 HD0 HB0
    obtain ⟨p, cn, rfl, rfl, hp, hcn, HCN, hD, ⟨n, hn, hU⟩, hB⟩ := hrel
    by_cases hlt : p < N
    · have p2 : p < S.length := by rw [← HN.out]; exact hlt
      obtain ⟨b, o, eA, hb, f1, f2, f3⟩ := HS.out.at_ p2
      replace f1 := (hB.cell (p := ⟨b, o + p * 3, none⟩) hb).trans f1
      replace f2 := (hB.cell (p := ⟨b, o + p * 3 + 1, none⟩) hb).trans f2
      replace f3 := (hB.cell (p := ⟨b, o + p * 3 + 2, none⟩) hb).trans f3
      have hxw := HW.out _ (List.getElem_mem p2)
      have HXF := Lib.hid (HF.out _ (List.getElem_mem p2))
      have HID : Hid (idAt S p = S[p].id) := Lib.hid (idAt_lt p2)
      have HBT : Hid (btI S t p = S[p].word % 2 ^ t) := Lib.hid (btI_at p2)
      have hA2 := eA
      subst eA
      generalize S[p] = x at *
      obtain ⟨xi, xk, xw⟩ := x
      simp only at f1 f2 f3 HID HBT HXF
      have i0 : (0 : Int) ≤ (p : Int) := by omega
      have i1 : (p : Int) < (N : Int) := by omega
      have hX := Has.new wr 39 #[.int .i64 xi, .string xk, .int .u32 (xw : Int)]
      have hk1 := (Below.refl wr.heap.size wr).alloc (Nat.le_refl _) (.cells #[.int .i64 xi, .string xk, .int .u32 (xw : Int)] 39)
      have HX := Lib.hid hX
      have HDR := Lib.hid hD
      have HUR := Lib.hid hU
      have HBR := Lib.hid hk1
      have HXS : Hid (wr.heap.size = wr.heap.size) := Lib.hid rfl
      have HDA := Lib.hid (hD.below hk1)
      have HUA := Lib.hid (hU.below hk1)
      have HBA := Lib.hid (hB.trans (hk1.mono (Nat.le_trans hbs hB.size)))
      clear hX hk1 hD hU hB
      go_upto_region 6 with fail
      generalize wr.alloc (.cells #[.int .i64 xi, .string xk, .int .u32 (xw : Int)] 39) = WA at *
      have x0 := HX.out.cell 0
      have x2 := HX.out.cell 2
      have HLV := lowest_val xw t (by omega) hxw.2
      go_quiet (fail)
      go_upto_region 7 with fail
      have hqb := below_drw (Below.refl WA.heap.size WA) nq
      generalize WA.drewN nq = WQ at *
      obtain ⟨bq, hbq⟩ : ∃ bq : Nat, bq = xw % 2 ^ t := ⟨_, rfl⟩
      have hbz : (xw : Int) % 2 ^ t = (bq : Int) := by rw [hbq]; simp
      rw [hbz]
      have hbl : bq < 4294967296 := by have := Nat.mod_le xw (2 ^ t); have := hxw.2; simp only at this; omega
      rw [← hbq] at HBT
      have HBQ := Lib.hid (HBR.out.trans (hqb.mono HBR.out.size))
      have HX2 := Lib.hid (HX.out.below hqb)
      have HD2 := Lib.hid (HDA.out.below hqb)
      have HU2 := Lib.hid (HUA.out.below hqb)
      have HB2 := Lib.hid (HBA.out.trans (hqb.mono (Nat.le_trans hbs HBA.out.size)))
      have hlk := HU2.out.look_ok Tryd.underlying113 (zeroIntV _) hbl
      clear hbz hbq HLV x0 x2 hqb HX HDA HUA HBA f1 f2 f3
      have HNX := Lib.hid (fun i => plU_next S t p i)
      rw [HBT.out] at HNX
      cases hls : lstI S t p bq with
      | none =>
        have e : plU S t p bq = none := by simp [plU, hls]
        have HST := Lib.hid (cStep_none (nw := nw) (ls := cRun S nw t p ls) (by rw [HBT.out]; exact hls))
        rw [e] at hlk
        simp only [Option.getD_none, Option.isSome_none] at hlk
        clear e hls
        go_upto_region 8 with fail
        go_quiet (fail)
        have HQB := Lib.hid (below_drw (Below.refl WQ.heap.size WQ) nq)
        generalize WQ.drewN nq = WR at *
        have HU3 := Lib.hid (HU2.out.below HQB.out)
        have HD3 := Lib.hid (HD2.out.below HQB.out)
        have HB3 := Lib.hid (HB2.out.trans (HQB.out.mono (Nat.le_trans hbs HB2.out.size)))
        clear hlk HX2 HD2 HU2 HB2 HQB
        go_wp2_with (at_mapUpdate; refine wpList_uput _ rfl _ _ _ 113 rfl 3 Tryd.underlying113 g n _ _ HU3.out rfl (by unfold maxLen; omega) bq hbl (.int .i64 (p : Int)) rfl rfl ?_; intro w5 hm5 hgr5; have HM5 := Lib.hid hm5; have HD5 := Lib.hid (HD3.out.put_map HU3.out hgr5); have HB5 := Lib.hid (HB3.out.grown hgr5 (Nat.le_trans hbs HB3.out.size) (fun j e => (by have := Option.some.inj e; have := HG.out; omega))); clear hm5 hgr5)
        refine ⟨⟨p + 1, cn, by go_num, rfl, hlt, by omega, Lib.hid ?_, ?_, ⟨n + 1, by omega, HM5.out.congr HNX.out⟩, HB5.out⟩, by simp [intOf]; omega⟩
        · rw [cCnt, HST.out.2, HCN.out]; rfl
        · rw [cRun, HST.out.1]; exact HD5.out
      | some q =>
        have e : plU S t p bq = some (.int .i64 (q : Int)) := by simp [plU, hls]
        rw [e] at hlk
        simp only [Option.getD_some, Option.isSome_some] at hlk
        have hqp : q < p := (lstI_some.1 hls).1
        have q2 : q < S.length := by omega
        obtain ⟨b2, o2, eB, -, g1, -, -⟩ := HS.out.at_ q2
        injection eB with eB
        injection eB with eB1 eB2
        subst eB1 eB2
        replace g1 := (HB2.out.cell (p := ⟨b, o + q * 3, none⟩) hb).trans g1
        have hqw := (HW.out _ (List.getElem_mem q2)).1
        have HQF := Lib.hid (HF.out _ (List.getElem_mem q2))
        have HIQ : Hid (idAt S q = S[q].id) := Lib.hid (idAt_lt q2)
        generalize S[q].id = qi at *
        have HV2 := Lib.hid (HVM.out.blk (HB2.out.block bm hbm))
        have hl1 : ∀ m, (Instr.lookup 80 (.map (some bm)) (.int .i64 qi) false).run Tryd.prog (WQ.drewN m) = .ok (.int .i64 (nw qi)) (WQ.drewN m) := fun m => by
          have := (HV2.out.below (below_drw (Below.refl WQ.heap.size WQ) m)).look Tryd.underlying80 (zeroIntV _) hqw.1 hqw.2
          rwa [HQF.out] at this
        have hl2 : ∀ m, (Instr.lookup 80 (.map (some bm)) (.int .i64 xi) false).run Tryd.prog (WQ.drewN m) = .ok (.int .i64 (nw xi)) (WQ.drewN m) := fun m => by
          have := (HV2.out.below (below_drw (Below.refl WQ.heap.size WQ) m)).look Tryd.underlying80 (zeroIntV _) hxw.1.1 hxw.1.2
          rwa [HXF.out] at this
        have x0 := HX2.out.cell 0
        have q0 : (0 : Int) ≤ (q : Int) := by omega
        have q1 : (q : Int) < (N : Int) := by omega
        clear e
        by_cases hw : nw qi = nw xi
        · have HST := Lib.hid (cStep_same (nw := nw) (ls := cRun S nw t p ls) (by rw [HBT.out]; exact hls) (by rw [HIQ.out, HID.out]; exact hw))
          have hz : ((nw qi : Int) != (nw xi : Int)) = false := by simp [hw]
          have hz2 : decide (nw qi = nw xi) = true := decide_eq_true hw
          clear hls hw
          go_upto_region 8 with fail
          go_quiet (fail)
          have HQB := Lib.hid (below_drw (Below.refl WQ.heap.size WQ) nq)
          generalize WQ.drewN nq = WR at *
          have HU3 := Lib.hid (HU2.out.below HQB.out)
          have HD3 := Lib.hid (HD2.out.below HQB.out)
          have HB3 := Lib.hid (HB2.out.trans (HQB.out.mono (Nat.le_trans hbs HB2.out.size)))
          clear hlk HX2 HD2 HU2 HB2 HQB hl1 hl2 x0 g1 HV2
          go_wp2_with (at_mapUpdate; refine wpList_uput _ rfl _ _ _ 113 rfl 3 Tryd.underlying113 g n _ _ HU3.out rfl (by unfold maxLen; omega) bq hbl (.int .i64 (p : Int)) rfl rfl ?_; intro w5 hm5 hgr5; have HM5 := Lib.hid hm5; have HD5 := Lib.hid (HD3.out.put_map HU3.out hgr5); have HB5 := Lib.hid (HB3.out.grown hgr5 (Nat.le_trans hbs HB3.out.size) (fun j e => (by have := Option.some.inj e; have := HG.out; omega))); clear hm5 hgr5)
          refine ⟨⟨p + 1, cn, by go_num, rfl, hlt, by omega, Lib.hid ?_, ?_, ⟨n + 1, by omega, HM5.out.congr HNX.out⟩, HB5.out⟩, by simp [intOf]; omega⟩
          · rw [cCnt, HST.out.2, HCN.out]; rfl
          · rw [cRun, HST.out.1]; exact HD5.out
        · have HST := Lib.hid (cStep_cross (nw := nw) (ls := cRun S nw t p ls) (by rw [HBT.out]; exact hls) (by rw [HIQ.out, HID.out]; exact hw))
          rw [HIQ.out, HID.out] at HST
          have hz : ((nw qi : Int) != (nw xi : Int)) = true := by simp [hw]
          have hz2 : decide (nw qi = nw xi) = false := decide_eq_false hw
          clear hls hw
          go_upto_region 8 with fail
          go_quiet (fail)
          have hQB := below_drw (Below.refl WQ.heap.size WQ) nq
          have HQW := Lib.hid (HBQ.out.trans (hQB.mono HBQ.out.size))
          have HX3 := Lib.hid (HX2.out.below hQB)
          have HU3 := Lib.hid (HU2.out.below hQB)
          have HB3 := Lib.hid (HB2.out.trans (hQB.mono (Nat.le_trans hbs HB2.out.size)))
          have g1R := (hQB.cell (p := ⟨b, o + q * 3, none⟩) (by have := HB2.out.size; simp only; omega)).trans g1
          generalize WQ.drewN nq = WR at *
          clear hlk HX2 HD2 HU2 HB2 hl1 hl2 x0 HV2 g1 hQB
          have hlq : q < (cRun S nw t p ls).length := by rw [cRun_len, HLL.out]; omega
          have hMq : t < (cRun S nw t p ls)[q].levels.length := by rw [cRun_all HA.out p _ (List.getElem_mem hlq)]; exact ht
          obtain ⟨G, cap, H, ch, ev, hG1, hG2, gc, hH1, hH2, ⟨z0, hz0⟩, ⟨z1, hz1⟩, hfz, hst⟩ := HDR.out.put1 hlq hMq
          rw [cRun_all HA.out p _ (List.getElem_mem hlq)] at gc
          rw [cRun_len, HLL.out, ← HN.out] at ev
          subst ev
          have hW1 := (hst WR (fun j _ hj => HQW.out.block j hj) xi).2
          have gcR := (HQW.out.cell (p := ⟨G, q * 2 + 1, none⟩) hG2).trans gc
          have x0R := HX3.out.cell 0
          have fzR : ∀ o', WR.frozen? ⟨H, o', none⟩ = false := fun o' => ((bcell HQW.out).2 H o' hH2).trans (hfz o')
          have z1R := (HQW.out.cell (p := ⟨H, t * 2 + 1, none⟩) hH2).trans hz1
          have hgH : g ≠ H := HUR.out.ne_cell hz1
          have HW1 := Lib.hid hW1
          have HU4 := Lib.hid (HU3.out.setC (p := ⟨H, t * 2 + 1, none⟩) hgH (.int .i64 xi))
          have HB4 := Lib.hid (HB3.out.setCell (p := ⟨H, t * 2 + 1, none⟩) hH1 (.int .i64 xi))
          have t0 : (0 : Int) ≤ (t : Int) := by omega
          have t1 : (t : Int) < (M : Int) := by omega
          clear hW1 gc hfz hz1 hz0 hst
          go_upto_region 9 with fail
          go_region
          go_upto_region 10 with fail
          have hlq2 : (stR (cRun S nw t p ls) q t xi).length = S.length := by rw [stR_len, cRun_len, HLL.out]
          have hAq := stR_all (cRun_all (S := S) (nw := nw) (t := t) HA.out p) q t xi
          have HW2 := HW1.out.drew
          have HU5 := HU4.out.drew
          have HB5 := Lib.hid HB4.out.drew
          have g1S : (WR.setCell ⟨H, t * 2 + 1, none⟩ (.int .i64 xi)).drew.cell? ⟨b, o + q * 3, none⟩ = some (.int .i64 qi) := (World.cell?_of_block (Below.heap_setCell WR ⟨H, t * 2 + 1, none⟩ (.int .i64 xi) b (show b ≠ H by omega))).trans g1R
          generalize (WR.setCell ⟨H, t * 2 + 1, none⟩ (.int .i64 xi)).drew = WS at *
          clear HW1 HU4 HB4 g1R gcR x0R fzR z1R hgH
          have hlp : p < (stR (cRun S nw t p ls) q t xi).length := by rw [hlq2]; exact p2
          have hMp : t < (stR (cRun S nw t p ls) q t xi)[p].levels.length := by rw [hAq _ (List.getElem_mem hlp)]; exact ht
          obtain ⟨G2, cap2, H2, ch2, ev2, hG3, hG4, gc2, hH3, hH4, ⟨z2, hz2'⟩, -, hfz2, hst2⟩ := HW2.put1 hlp hMp
          rw [hAq _ (List.getElem_mem hlp)] at gc2
          injection ev2 with ev3 ev4 ev5
          injection ev3 with ev3
          injection ev3 with ev3
          subst ev3 ev5
          have HW3 := Lib.hid (hst2 WS (fun j _ _ => rfl) qi).1
          have hgH2 : g ≠ H2 := HU5.ne_cell hz2'
          have HU6 := Lib.hid (HU5.setC (p := ⟨H2, t * 2, none⟩) hgH2 (.int .i64 qi))
          have HB6 := Lib.hid (HB5.out.setCell (p := ⟨H2, t * 2, none⟩) hH3 (.int .i64 qi))
          have hbH : b ≠ H2 := by omega
          have hbH' : H2 ≠ b := by omega
          clear hst2 HW2 HU5 HB5 ev4 hlq2 hAq hlp hMp hgH2
          go_region
          go_upto_region 11 with fail
          have HU7 := Lib.hid HU6.out.drew
          have HD7 := Lib.hid HW3.out.drew
          have HB7 := Lib.hid HB6.out.drew
          generalize (WS.setCell ⟨H2, t * 2, none⟩ (.int .i64 qi)).drew = WT at *
          clear HU6 HW3 HB6 hfz2 gc2 hz2' g1S
          have hcw : IntKind.i64.wrap ((cn : Int) + 2) = (cn : Int) + 2 := IntWalk.i64_in _ (by omega)
          go_wp2_with (at_mapUpdate; refine wpList_uput _ rfl _ _ _ 113 rfl 3 Tryd.underlying113 g n _ _ HU7.out rfl (by unfold maxLen; omega) bq hbl (.int .i64 (p : Int)) rfl rfl ?_; intro w5 hm5 hgr5; have HM5 := Lib.hid hm5; have HD5 := Lib.hid (HD7.out.put_map HU7.out hgr5); have HB8 := Lib.hid (HB7.out.grown hgr5 (Nat.le_trans hbs HB7.out.size) (fun j e => (by have := Option.some.inj e; have := HG.out; omega))); clear hm5 hgr5)
          refine ⟨⟨p + 1, cn + 2, by go_num, by simp, hlt, by omega, Lib.hid ?_, ?_, ⟨n + 1, by omega, HM5.out.congr HNX.out⟩, HB8.out⟩, by simp [intOf]; omega⟩
          · rw [cCnt, HST.out.2, HCN.out]; rfl
          · rw [cRun, HST.out.1]; exact HD5.out
    · have ep : p = N := by omega
      have HF5 := Lib.hid hD
      have HF6 := Lib.hid hB
      have HCF : Hid (cCnt S nw t N = cn) := Lib.hid (by rw [← ep]; exact HCN.out.symm)
      subst ep
      clear hD hB hU
      go_wp2_with fail
      go_ret
      exact ⟨by rw [HCF.out]; rfl, HF5.out, HF6.out⟩
end
end Go.Proofs.YtddcfiiahahkbaaDoor
