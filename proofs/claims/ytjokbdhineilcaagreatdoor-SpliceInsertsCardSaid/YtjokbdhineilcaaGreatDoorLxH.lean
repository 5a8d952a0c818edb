/-
  A row of nodes' links and the map from their numbers to them; one link of it that is set. No condition.
  The network of package splice: networkOf, next, connect, enter, seek, climb, besideOwner. Conditions: the nodes can be read, the links are the call's own.
-/
import Derived.Test.YtjokbdhineilcaaGreatDoorLxA
import Derived.Test.YtjokbdhineilcaaGreatDoorLvB
import Derived.Test.YtjokbdhineilcaaGreatDoorLgG
import Derived.Test.YtjokbdhineilcaaGreatDoorLmG
import Derived.Deep.DeepCutAuto
import Derived.Deep.CutBlock
import Derived.BigQuiet
import Derived.Deep.RegionHeld3
namespace Go.Proofs.YtjokbdhineilcaaGreatDoor
section
open Go.RowKit Go.Maps

theorem nodup_at {α : Type} {l : List α} (h : l.Nodup) {i j : Nat} (hi : i < l.length) (hj : j < l.length) (e : l[i] = l[j]) : i = j := by
  have hp := List.pairwise_iff_getElem.1 (List.nodup_iff_pairwise_ne.1 h)
  rcases Nat.lt_trichotomy i j with k | k | k
  · exact absurd e (hp i j hi hj k)
  · exact k
  · exact absurd e.symm (hp j i hj hi k)
/-! a row of nodes' links with the values that hold their levels -/
def OwnDq (w : World) (base : Nat) (v : Value) (ls : List Ld) (q : List (Int × Value)) : Prop :=
  w.ownsRow base 56 2 v ls.length (flatP q) ∧ q.length = ls.length ∧
    (∀ (i : Nat) (hq : i < q.length) (h : i < ls.length), q[i].1 = ls[i].id ∧ OwnK w base q[i].2 ls[i].levels ∧ (q[i].2.ownBlock = none ∨ q[i].2.ownBlock ≠ v.ownBlock)) ∧
    (∀ (i j : Nat) (hi : i < q.length) (hj : j < q.length), i ≠ j → q[i].2.ownBlock = none ∨ q[i].2.ownBlock ≠ q[j].2.ownBlock)
theorem OwnDq.toD {w : World} {base : Nat} {v : Value} {ls : List Ld} {q : List (Int × Value)} (h : OwnDq w base v ls q) : OwnD w base v ls := ⟨q, h⟩
theorem OwnDq.keep {w w' : World} {base : Nat} {v : Value} {ls : List Ld} {q : List (Int × Value)} (h : OwnDq w base v ls q) (hg : ∀ i, base ≤ i → i < w.heap.size → (∃ cs t z, w.heap[i]? = some (.cells cs t z)) → w'.heap[i]? = w.heap[i]?) : OwnDq w' base v ls q := by
  obtain ⟨h1, h2, h3, h4⟩ := h
  refine ⟨?_, h2, fun i hq hi => ⟨(h3 i hq hi).1, (h3 i hq hi).2.1.cells_ fun b hb hc => hg b hb (by obtain ⟨_, _, _, e⟩ := hc; exact blk_lt e) hc, (h3 i hq hi).2.2⟩, h4⟩
  obtain ⟨k1, k2 | ⟨g, cap, cur, k3, k4, k5, k6⟩⟩ := h1
  · exact ⟨k1, .inl k2⟩
  · exact ⟨k1, .inr ⟨g, cap, cur, k3, k4, (hg g k4 (Has.lt k5) ⟨_, _, _, k5⟩).trans k5, k6⟩⟩
/-- One number of a row of links changed. -/
theorem OwnDq.put1 {w : World} {base : Nat} {v : Value} {ls : List Ld} {q : List (Int × Value)} (h : OwnDq w base v ls q) {i k : Nat} (hi : i < ls.length) (hk : k < ls[i].levels.length) : ∃ (H c : Nat) (hq : i < q.length), q[i].2 = .slice (some ⟨H, 0, none⟩) ls[i].levels.length c ∧ base ≤ H ∧ H < w.heap.size ∧ w.cell? ⟨H, k * 2, none⟩ = some (.int .i64 ls[i].levels[k].left) ∧ w.cell? ⟨H, k * 2 + 1, none⟩ = some (.int .i64 ls[i].levels[k].right) ∧ (∀ o, w.frozen? ⟨H, o, none⟩ = false) ∧
    ∀ w1 : World, (∀ j, base ≤ j → j < w.heap.size → w1.heap[j]? = w.heap[j]?) → ∀ z, OwnDq (w1.setCell ⟨H, k * 2, none⟩ (.int .i64 z)) base v (stL ls i k z) q ∧ OwnDq (w1.setCell ⟨H, k * 2 + 1, none⟩ (.int .i64 z)) base v (stR ls i k z) q := by
  obtain ⟨h1, h2, h3, h4⟩ := h
  have hq : i < q.length := by omega
  rcases h1.2 with ⟨rfl, h0⟩ | ⟨G, cap, cur, rfl, hb, hg, hnc, hcm, hcs, htake⟩
  · omega
  obtain ⟨e1, ho, hne⟩ := h3 i hq hi
  obtain ⟨A', c', eA, _, _, hlk⟩ := ho.readB
  obtain ⟨b, o, eb, _, r1, r2⟩ := hlk.at_ hk
  obtain ⟨H, c, eH, hH1, hH2, hc1, hc2, z0, z1, hfz, hst⟩ := ho.put hk
  have hbo : b = H ∧ o = 0 := by
    rw [eH, eb] at eA
    injection eA with eA
    injection eA with eA
    injection eA with ea ob
    exact ⟨ea.symm, ob.symm⟩
  obtain ⟨rfl, rfl⟩ := hbo
  rw [Nat.zero_add] at r1 r2
  have hGH : G ≠ b := by
    rintro rfl
    rcases hne with e | e
    · rw [eH] at e; cases e
    · exact e (by rw [eH]; rfl)
  refine ⟨b, c, hq, eH, hH1, hH2, r1, r2, hfz, ?_⟩
  have key : ∀ (w1 : World) (f : Lk → Lk), (∀ j, base ≤ j → j < w.heap.size → j ≠ b → w1.heap[j]? = w.heap[j]?) → OwnK w1 base q[i].2 (ls[i].levels.set k (f ls[i].levels[k])) → OwnDq w1 base (.slice (some ⟨G, 0, none⟩) ls.length cap) (ls.modify i fun x => ⟨x.id, x.levels.modify k f⟩) q := by
    intro w1 f hk1 ho1
    refine ⟨⟨by rw [List.length_modify, flatP_len, h2], .inr ⟨G, cap, cur, by rw [List.length_modify], hb, (hk1 G hb (Has.lt hg) hGH).trans hg, by rw [List.length_modify]; exact hnc, hcm, hcs, by rw [List.length_modify]; exact htake⟩⟩, by rw [List.length_modify]; exact h2, fun j hj hj2 => ?_, h4⟩
    have hj3 : j < ls.length := by rwa [List.length_modify] at hj2
    obtain ⟨p1, p2, p3⟩ := h3 j hj hj3
    by_cases hij : i = j
    · subst hij
      have e5 : (ls.modify i fun x => (⟨x.id, x.levels.modify k f⟩ : Ld))[i]'hj2 = ⟨ls[i].id, ls[i].levels.set k (f ls[i].levels[k])⟩ := by
        rw [List.getElem_modify_eq]
        congr 1
        refine List.ext_getElem (by simp) fun m m1 m2 => ?_
        rw [List.getElem_modify, List.getElem_set]
        by_cases hkm : k = m
        · subst hkm; simp
        · simp [hkm]
      rw [e5]
      exact ⟨p1, ho1, p3⟩
    · have e6 : (ls.modify i fun x => (⟨x.id, x.levels.modify k f⟩ : Ld))[j]'hj2 = ls[j] := by rw [List.getElem_modify, if_neg hij]
      rw [e6]
      refine ⟨p1, p2.blk fun b' hb1 hb2 hbb => hk1 b' hb1 hb2 ?_, p3⟩
      rintro rfl
      rcases h4 j i hj hq (Ne.symm hij) with e | e
      · rw [e] at hbb; cases hbb
      · rw [hbb, eH] at e
        exact e rfl
  intro w1 hk1 z
  obtain ⟨o1, o2⟩ := hst w1 (hk1 b hH1 hH2) z
  exact ⟨key _ (fun y => ⟨z, y.right⟩) (fun j a b e => (Below.heap_setCell w1 _ _ j e).trans (hk1 j a b)) o1, key _ (fun y => ⟨y.left, z⟩) (fun j a b e => (Below.heap_setCell w1 _ _ j e).trans (hk1 j a b)) o2⟩
def stG (f : Int → Nat → Lk) (j : Int) (t : Nat) (g : Lk → Lk) : Int → Nat → Lk := fun i u => if i = j ∧ u = t then g (f i u) else f i u
theorem lsF_mod {ids : List Int} (hn : ids.Nodup) {M : Nat} {f : Int → Nat → Lk} {i t : Nat} (hi : i < ids.length) (g : Lk → Lk) : (lsF ids M f).modify i (fun x => ⟨x.id, x.levels.modify t g⟩) = lsF ids M (stG f ids[i] t g) := by
  refine List.ext_getElem (by simp [lsF]) fun m h1 h2 => ?_
  have h3 : m < ids.length := by simpa [lsF] using h2
  rw [List.getElem_modify, lsF_at, lsF_at]
  by_cases e : i = m
  · subst e
    rw [if_pos rfl]
    congr 1
    refine List.ext_getElem (by simp) fun u u1 u2 => ?_
    rw [List.getElem_modify, List.getElem_map, List.getElem_map]
    unfold stG
    by_cases e2 : t = u
    · subst e2; simp
    · simp [e2, Ne.symm e2]
  · rw [if_neg e]
    congr 1
    refine List.map_congr_left fun u _ => ?_
    unfold stG
    rw [if_neg]
    rintro ⟨e2, _⟩
    exact e (nodup_at hn h3 hi e2).symm
/-- What the map of links holds. -/
def qF (q : List (Int × Value)) (i : Int) : Option Value := (q.reverse.find? fun p => decide (p.1 = i)).map Prod.snd
theorem qF_next {q : List (Int × Value)} {k : Nat} (h : k < q.length) (i : Int) : updV (qF (q.take k)) q[k].1 q[k].2 i = qF (q.take (k + 1)) i := by
  unfold qF updV
  rw [List.take_succ_eq_append_getElem h, List.reverse_append]
  by_cases e : i = q[k].1
  · subst e
    simp
  · simp [e, Ne.symm e]
theorem qF_at {q : List (Int × Value)} (hn : (q.map Prod.fst).Nodup) {i : Nat} (hi : i < q.length) : qF q q[i].1 = some q[i].2 := by
  unfold qF
  cases hf : q.reverse.find? (fun p => decide (p.1 = q[i].1)) with
  | none =>
    have := List.find?_eq_none.1 hf q[i] (List.mem_reverse.2 (List.getElem_mem hi))
    simp at this
  | some p =>
    have h1 := List.find?_some hf
    have h2 := List.mem_reverse.1 (List.mem_of_find?_eq_some hf)
    obtain ⟨j, hj, rfl⟩ := List.getElem_of_mem h2
    have h1 : q[j].1 = q[i].1 := by simpa using h1
    have : j = i := by
      refine nodup_at hn (i := j) (j := i) (by simpa using hj) (by simpa using hi) ?_
      simpa using h1
    subst this
    rfl
/-- Links in a row, whose blocks lie below tp, and the map from numbers to them. -/
def RMap (w : World) (base tp bl : Nat) (v : Value) (ids : List Int) (M : Nat) (f : Int → Nat → Lk) : Prop := ∃ q nl, OwnDq w base v (lsF ids M f) q ∧ VMap w bl nl (.slice none 0 0) (qF q) ∧ ∀ p ∈ q, ∀ k, p.2.ownBlock = some k → k < tp
/-- Nothing changed but blocks from base on and below tp. -/
def Btw (base tp : Nat) (w w' : World) : Prop := Below base w w' ∧ ∀ i, tp ≤ i → i < w.heap.size → w'.heap[i]? = w.heap[i]?
theorem Btw.refl (base tp : Nat) (w : World) : Btw base tp w w := ⟨Below.refl _ _, fun _ _ _ => rfl⟩
theorem Btw.trans {base tp : Nat} {a b c : World} (h : Btw base tp a b) (k : Btw base tp b c) : Btw base tp a c := ⟨h.1.trans k.1, fun i h1 h2 => (k.2 i h1 (Nat.lt_of_lt_of_le h2 h.1.size)).trans (h.2 i h1 h2)⟩
theorem Btw.of {base tp : Nat} {a b : World} (h : Below a.heap.size a b) (hb : base ≤ a.heap.size) : Btw base tp a b := ⟨h.mono hb, fun i _ h2 => h.block i h2⟩
theorem Btw.cell {base tp : Nat} {a b : World} (h : Btw base tp a b) {p : Addr} (h1 : tp ≤ p.block) (h2 : p.block < a.heap.size) : b.cell? p = a.cell? p := World.cell?_of_block (h.2 p.block h1 h2)
theorem VMap.btw {base tp : Nat} {a b : World} {bm nm : Nat} {z : Value} {f : Int → Option Value} (h : VMap a bm nm z f) (k : Btw base tp a b) (h1 : tp ≤ bm) : VMap b bm nm z f := h.blk (k.2 bm h1 h.lt)
section
variable {w w' : World} {base tp bl : Nat} {v : Value} {ids : List Int} {M : Nat} {f g : Int → Nat → Lk}
theorem RMap.below (h : RMap w base tp bl v ids M f) (k : Below w.heap.size w w') : RMap w' base tp bl v ids M f := by
  obtain ⟨q, nl, h1, h2, h3⟩ := h
  exact ⟨q, nl, h1.keep fun i _ hi _ => k.block i hi, h2.below k, h3⟩
theorem RMap.congr (h : RMap w base tp bl v ids M f) (k : ∀ i ∈ ids, ∀ t, t < M → f i t = g i t) : RMap w base tp bl v ids M g := by
  obtain ⟨q, nl, h1, h2⟩ := h
  rw [lsF_congr k] at h1
  exact ⟨q, nl, h1, h2⟩
theorem RMap.own (h : RMap w base tp bl v ids M f) : OwnD w base v (lsF ids M f) := by
  obtain ⟨q, nl, h1, h2⟩ := h
  exact h1.toD
theorem RMap.lt (h : RMap w base tp bl v ids M f) : bl < w.heap.size := by
  obtain ⟨q, nl, h1, h2, _⟩ := h
  exact h2.lt
/-- A link: where it lies, and what setting one of its numbers gives. -/
theorem RMap.get (h : RMap w base tp bl v ids M f) (hn : ids.Nodup) (hbl : base ≤ bl) {j : Int} (hj : j ∈ ids) (h1 : -9223372036854775808 ≤ j) (h2 : j ≤ 9223372036854775807) {t : Nat} (ht : t < M) : ∃ H c : Nat, (∀ W : World, Below w.heap.size w W → (Instr.lookup 68 (.map (some bl)) (.int .i64 j) false).run Tryz.prog W = .ok (.slice (some ⟨H, 0, none⟩) M c) W) ∧ base ≤ H ∧ H < w.heap.size ∧ H < tp ∧ w.cell? ⟨H, t * 2, none⟩ = some (.int .i64 (f j t).left) ∧ w.cell? ⟨H, t * 2 + 1, none⟩ = some (.int .i64 (f j t).right) ∧ (∀ o, w.frozen? ⟨H, o, none⟩ = false) ∧
    ∀ w1 : World, (∀ i, base ≤ i → i < w.heap.size → w1.heap[i]? = w.heap[i]?) → ∀ z, RMap (w1.setCell ⟨H, t * 2, none⟩ (.int .i64 z)) base tp bl v ids M (stG f j t fun y => ⟨z, y.right⟩) ∧ RMap (w1.setCell ⟨H, t * 2 + 1, none⟩ (.int .i64 z)) base tp bl v ids M (stG f j t fun y => ⟨y.left, z⟩) := by
  obtain ⟨q, nl, k1, k2, k3⟩ := h
  obtain ⟨i, hi, rfl⟩ := List.getElem_of_mem hj
  have hi2 : i < (lsF ids M f).length := by rw [lsF_len]; exact hi
  have e0 : (lsF ids M f)[i] = ⟨ids[i], (List.range M).map (f ids[i])⟩ := lsF_at hi2
  have ht2 : t < (lsF ids M f)[i].levels.length := by rw [e0]; simpa using ht
  obtain ⟨H, c, hq, p1, p2, p3, p4, p5, p6, p7⟩ := k1.put1 hi2 ht2
  have e1 : (lsF ids M f)[i].levels.length = M := by rw [e0]; simp
  have e2 : (lsF ids M f)[i].levels[t] = f ids[i] t := by simp only [e0]; simp
  rw [e1] at p1
  rw [e2] at p4 p5
  have hqi : q[i].1 = ids[i] := by rw [(k1.2.2.1 i hq hi2).1, e0]
  have hqn : (q.map Prod.fst).Nodup := by
    have : q.map Prod.fst = ids := by
      refine List.ext_getElem (by have := k1.2.1; rw [lsF_len] at this; simpa using this) fun m m1 m2 => ?_
      have m3 : m < (lsF ids M f).length := by rw [lsF_len]; exact m2
      rw [List.getElem_map, (k1.2.2.1 m (by simpa using m1) m3).1, lsF_at m3]
    rw [this]
    exact hn
  have hqf := qF_at hqn hq
  rw [hqi, p1] at hqf
  have hne : bl ≠ H := by
    rintro rfl
    obtain ⟨D, ⟨es, clock, h1, _⟩, _⟩ := k2
    unfold World.cell? at p4
    rw [h1] at p4
    simp at p4
  have htp : H < tp := k3 _ (List.getElem_mem hq) H (by rw [p1]; rfl)
  refine ⟨H, c, fun W hW => ?_, p2, p3, htp, p4, p5, p6, fun w1 hw1 z => ?_⟩
  · have := (k2.below hW).look Tryz.underlying68 (zeroLks _) h1 h2
    rwa [hqf] at this
  · obtain ⟨r1, r2⟩ := p7 w1 hw1 z
    have hv := k2.blk (w' := w1) (hw1 bl hbl k2.lt)
    unfold stL at r1
    unfold stR at r2
    rw [lsF_mod hn hi] at r1 r2
    exact ⟨⟨q, nl, r1, hv.setC (p := ⟨H, t * 2, none⟩) hne _, k3⟩, ⟨q, nl, r2, hv.setC (p := ⟨H, t * 2 + 1, none⟩) hne _, k3⟩⟩
end
theorem cn_two (f : Int → Nat → Lk) (a b : Int) (t : Nat) : stG (stG f a t fun y => ⟨y.left, b⟩) b t (fun y => ⟨a, y.right⟩) = cnF f a b t := by
  funext i u
  unfold stG cnF
  by_cases hu : u = t
  · subst hu
    by_cases h1 : i = a <;> by_cases h2 : i = b <;> simp [h1, h2] <;> (try split) <;> simp_all
  · simp [hu]
theorem cn_left {f : Int → Nat → Lk} {ids : List Int} (h0 : (0 : Int) ∉ ids) (a : Int) (t : Nat) : ∀ i ∈ ids, ∀ u, stG f a t (fun y => ⟨y.left, 0⟩) i u = cnF f a 0 t i u := by
  intro i hi u
  have hi0 : i ≠ 0 := fun e => h0 (e ▸ hi)
  unfold stG cnF
  by_cases hu : u = t
  · subst hu
    by_cases h1 : i = a <;> simp [h1, hi0] <;> (try split) <;> simp_all
  · simp [hu]
theorem cn_right {f : Int → Nat → Lk} {ids : List Int} (h0 : (0 : Int) ∉ ids) (b : Int) (t : Nat) : ∀ i ∈ ids, ∀ u, stG f b t (fun y => ⟨0, y.right⟩) i u = cnF f 0 b t i u := by
  intro i hi u
  have hi0 : i ≠ 0 := fun e => h0 (e ▸ hi)
  unfold stG cnF
  by_cases hu : u = t
  · subst hu
    by_cases h1 : i = b
    · subst h1
      simp [hi0]
    · simp [h1, hi0]
  · simp [hu]
theorem cn_none {f : Int → Nat → Lk} {ids : List Int} (h0 : (0 : Int) ∉ ids) (t : Nat) : ∀ i ∈ ids, ∀ u, f i u = cnF f 0 0 t i u := by
  intro i hi u
  have hi0 : i ≠ 0 := fun e => h0 (e ▸ hi)
  unfold cnF
  by_cases hu : u = t
  · subst hu; simp [hi0]
  · simp [hu]
end
section
open Go.RowKit Go.Maps

def netV (bn bl : Nat) : Value := .agg #[.map (some bn), .map (some bl)]
def zNd : Value := .agg #[.int .i64 0, .string ByteArray.empty, .int .u32 0]
/-- The nodes by their numbers. -/
def NMap (w : World) (bn : Nat) (l : List Nd) : Prop := ∃ nn, VMap w bn nn zNd (ndF l)
theorem NMap.below {w w' : World} {bn : Nat} {l : List Nd} (h : NMap w bn l) (k : Below w.heap.size w w') : NMap w' bn l := by
  obtain ⟨nn, h⟩ := h
  exact ⟨nn, h.below k⟩
theorem NMap.btw {base tp : Nat} {w w' : World} {bn : Nat} {l : List Nd} (h : NMap w bn l) (k : Btw base tp w w') (h1 : tp ≤ bn) : NMap w' bn l := by
  obtain ⟨nn, h⟩ := h
  exact ⟨nn, h.btw k h1⟩
theorem NMap.look {w : World} {bn : Nat} {l : List Nd} (h : NMap w bn l) (ha : l.Pairwise Nd.apart) {y : Nd} (hy : y ∈ l) (hw : y.wide) (W : World) (hW : Below w.heap.size w W) : (Instr.lookup 67 (.map (some bn)) (.int .i64 y.id) false).run Tryz.prog W = .ok (.agg #[.int .i64 y.id, .string y.key, .int .u32 (y.word : Int)]) W := by
  obtain ⟨nn, h⟩ := h
  have := (h.below hW).look Tryz.underlying67 (zeroNd _) hw.1.1 hw.1.2
  have e : ndF l y.id = some y.val := by
    unfold ndF
    cases hf : l.reverse.find? (fun x => decide (x.id = y.id)) with
    | none =>
      have := List.find?_eq_none.1 hf y (List.mem_reverse.2 hy)
      simp at this
    | some p =>
      have h1 := List.find?_some hf
      have h2 := List.mem_reverse.1 (List.mem_of_find?_eq_some hf)
      rw [id_uniq ha h2 hy (by simpa using h1)]
      rfl
  rw [e] at this
  exact this
/-- What a call that changes links gives. -/
def NetP (base tp bl : Nat) (v : Value) (ids : List Int) (M : Nat) (f : Int → Nat → Lk) (w : World) (e : Ending) (w' : World) : Prop := e = .returned (.tuple #[]) ∧ RMap w' base tp bl v ids M f ∧ Btw base tp w w'
set_option maxRecDepth 100000 in
set_option maxHeartbeats 1600000 in
theorem nconnect_any (base tp bn bl : Nat) (v : Value) (ids : List Int) (M : Nat) (f : Int → Nat → Lk) (a b : Int) (t : Nat) (w : World) (h : RMap w base tp bl v ids M f) (hn : ids.Nodup) (h0 : (0 : Int) ∉ ids) (hI : ∀ i ∈ ids, I64 i) (hbl : base ≤ bl) (htp : tp ≤ bl) (ht : t < M) (ha : a = 0 ∨ a ∈ ids) (hb : b = 0 ∨ b ∈ ids) :
    Calls Tryz.prog 46 #[netV bn bl, .int .i64 a, .int .i64 b, .int .i64 (t : Int)] w (NetP base tp bl v ids M (cnF f a b t) w) := by
  have hbs : base ≤ w.heap.size := Nat.le_trans hbl (Nat.le_of_lt h.lt)
  have hts : tp ≤ w.heap.size := Nat.le_trans htp (Nat.le_of_lt h.lt)
  show Calls Tryz.prog 46 #[.agg #[.map (some bn), .map (some bl)], .int .i64 a, .int .i64 b, .int .i64 (t : Int)] w _
  obtain ⟨w1, hw1⟩ : ∃ w1, w1 = w.alloc (.cells #[.map (some bn), .map (some bl)] 70) := ⟨_, rfl⟩
  have hk1 : Below w.heap.size w w1 := by rw [hw1]; exact (Below.refl w.heap.size w).alloc (Nat.le_refl _) _
  have hX : Has w1 w.heap.size 70 #[.map (some bn), .map (some bl)] := by rw [hw1]; exact Has.new _ _ _
  have x1 := hX.cell 1
  have HK := Lib.hid hk1
  have HL := Lib.hid h
  have HB := Lib.hid (Btw.of (base := base) (tp := tp) hk1 hbs)
  have HC1 := Lib.hid (cn_left (f := f) h0)
  have HC2 := Lib.hid (cn_right (f := f) h0)
  have HC3 := Lib.hid (cn_none (f := f) h0)
  have HC4 := Lib.hid (cn_two f a b t)
  have i0 : (0 : Int) ≤ (t : Int) := by omega
  have i1 : (t : Int) < (M : Int) := by omega
  have hset : ∀ (W : World) (H o : Nat) (u : Value), base ≤ H → H < tp → Btw base tp W (W.setCell ⟨H, o, none⟩ u) := fun W H o u h1 h2 => ⟨(Below.refl base W).setCell (p := ⟨H, o, none⟩) h1 u, fun i h3 _ => Below.heap_setCell W ⟨H, o, none⟩ u i (show i ≠ H by omega)⟩
  clear hk1 hX h
  by_cases ha0 : a = 0
  · by_cases hb0 : b = 0
    · subst ha0 hb0
      have HLA := Lib.hid (HL.out.below HK.out)
      clear hI ha hb hn hset
      go_enter Tryz.func46, Tryz.ntmps46
      go_upto_region 1 with fail
      rw [← hw1]
      clear hw1
      go_wp2_with fail
      (first | go_end0 | (refine bodyPost_ret (results_none rfl _ _ _) rfl ?_))
      exact ⟨rfl, HLA.out.congr fun i hi u _ => HC3.out t i hi u, HB.out⟩
    · have hbm := hb.resolve_left hb0
      have hbz : (b != 0) = true := by simpa using hb0
      obtain ⟨H, c, hlk, hH1, hH2, hH3, z0, z1, hfz, hst⟩ := HL.out.get hn hbl hbm (hI b hbm).1 (hI b hbm).2 ht
      have hl1 := hlk _ HK.out
      have z0 := (HK.out.cell (p := ⟨H, t * 2, none⟩) hH2).trans z0
      have hfz : ∀ o, w1.frozen? ⟨H, o, none⟩ = false := fun o => ((bcell HK.out).2 H o hH2).trans (hfz o)
      have HST := Lib.hid (hst _ (fun i _ hi => HK.out.block i hi) a).1
      have HBS := Lib.hid (HB.out.trans (hset _ H (t * 2) (.int .i64 a) hH1 hH3))
      subst ha0
      clear hlk hst hb ha hI hn h0 hb0 z1 hset
      go_enter Tryz.func46, Tryz.ntmps46
      go_upto_region 1 with fail
      rw [← hw1]
      clear hw1
      go_wp2_with fail
      (first | go_end0 | (refine bodyPost_ret (results_none rfl _ _ _) rfl ?_))
      exact ⟨rfl, HST.out.congr fun i hi u _ => HC2.out b t i hi u, HBS.out⟩
  · have ham := ha.resolve_left ha0
    have haz : (a != 0) = true := by simpa using ha0
    obtain ⟨H, c, hlk, hH1, hH2, hH3, z0, z1, hfz, hst⟩ := HL.out.get hn hbl ham (hI a ham).1 (hI a ham).2 ht
    have hl1 := hlk _ HK.out
    have z1 := (HK.out.cell (p := ⟨H, t * 2 + 1, none⟩) hH2).trans z1
    have hfz : ∀ o, w1.frozen? ⟨H, o, none⟩ = false := fun o => ((bcell HK.out).2 H o hH2).trans (hfz o)
    have HST := Lib.hid (hst _ (fun i _ hi => HK.out.block i hi) b).2
    have HBS := Lib.hid (HB.out.trans (hset _ H (t * 2 + 1) (.int .i64 b) hH1 hH3))
    by_cases hb0 : b = 0
    · subst hb0
      clear hlk hst hb ha hI hn h0 ha0 z0 hset
      go_enter Tryz.func46, Tryz.ntmps46
      go_upto_region 1 with fail
      rw [← hw1]
      clear hw1
      go_wp2_with fail
      (first | go_end0 | (refine bodyPost_ret (results_none rfl _ _ _) rfl ?_))
      exact ⟨rfl, HST.out.congr fun i hi u _ => HC1.out a t i hi u, HBS.out⟩
    · have hbm := hb.resolve_left hb0
      have hbz : (b != 0) = true := by simpa using hb0
      have HIB := Lib.hid (hI b hbm)
      have HBM := Lib.hid hbm
      have HNN := Lib.hid hn
      have HSE := Lib.hid hset
      have x1S := (World.cell?_of_block (a := ⟨w.heap.size, 1, none⟩) (Below.heap_setCell w1 ⟨H, t * 2 + 1, none⟩ (.int .i64 b) w.heap.size (show w.heap.size ≠ H by omega))).trans x1
      clear hlk hst hb ha hI ha0 hb0 hbm hn h0 hset
      go_enter Tryz.func46, Tryz.ntmps46
      go_upto_region 1 with fail
      rw [← hw1]
      clear hw1
      go_upto_region 3 with fail
      generalize w1.setCell ⟨H, t * 2 + 1, none⟩ (.int .i64 b) = WS at *
      clear x1 hl1 z0 z1 hfz HK HB HL hH1 hH2 hH3
      obtain ⟨H3, c3, hlk3, hH4, hH5, hH6, y0, y1, hfz3, hst3⟩ := HST.out.get HNN.out hbl HBM.out HIB.out.1 HIB.out.2 ht
      have hl3 := hlk3 _ (Below.refl _ _)
      have HST3 := Lib.hid (hst3 _ (fun i _ _ => rfl) a).1
      have HBS3 := Lib.hid (HBS.out.trans (HSE.out WS H3 (t * 2) (.int .i64 a) hH4 hH6))
      clear hlk3 hst3 y1 HST HBS
      go_wp2_with fail
      (first | go_end0 | (refine bodyPost_ret (results_none rfl _ _ _) rfl ?_))
      exact ⟨rfl, by rw [← HC4.out]; exact HST3.out, HBS3.out⟩
set_option maxRecDepth 100000 in
set_option maxHeartbeats 800000 in
theorem nnext_any (base tp bn bl : Nat) (v : Value) (ids : List Int) (M : Nat) (f : Int → Nat → Lk) (j : Int) (t : Nat) (r : Bool) (w : World) (h : RMap w base tp bl v ids M f) (hn : ids.Nodup) (hj : j ∈ ids) (hI : I64 j) (hbl : base ≤ bl) (ht : t < M) :
    Calls Tryz.prog 84 #[netV bn bl, .int .i64 j, .int .i64 (t : Int), .int .i64 (if r then 1 else 0)] w (fun e w' => e = .returned (.int .i64 (lkS r (f j t))) ∧ Below w.heap.size w w') := by
  show Calls Tryz.prog 84 #[.agg #[.map (some bn), .map (some bl)], .int .i64 j, .int .i64 (t : Int), .int .i64 (if r then 1 else 0)] w _
  have hk1 := (Below.refl w.heap.size w).alloc (Nat.le_refl _) (.cells #[.map (some bn), .map (some bl)] 70)
  have x1 := (Has.new w 70 #[.map (some bn), .map (some bl)]).cell 1
  have HK := Lib.hid hk1
  have i0 : (0 : Int) ≤ (t : Int) := by omega
  have i1 : (t : Int) < (M : Int) := by omega
  obtain ⟨H, c, hlk, hH1, hH2, hH3, z0, z1, hfz, hst⟩ := h.get hn hbl hj hI.1 hI.2 ht
  have hl1 := hlk _ hk1
  have z0 := (hk1.cell (p := ⟨H, t * 2, none⟩) hH2).trans z0
  have z1 := (hk1.cell (p := ⟨H, t * 2 + 1, none⟩) hH2).trans z1
  generalize f j t = y at *
  clear hlk hst hk1 hfz h
  cases r
  · go_enter Tryz.func84, Tryz.ntmps84
    go_wp2_with fail
    go_ret
    exact ⟨rfl, HK.out⟩
  · go_enter Tryz.func84, Tryz.ntmps84
    go_wp2_with fail
    go_ret
    exact ⟨rfl, HK.out⟩
set_option maxRecDepth 100000 in
set_option maxHeartbeats 1600000 in
theorem nenter_any (base tp bn bl : Nat) (v : Value) (ids : List Int) (M : Nat) (f : Int → Nat → Lk) (x : Nd) (y : Lk) (t : Nat) (w : World) (h : RMap w base tp bl v ids M f) (hn : ids.Nodup) (h0 : (0 : Int) ∉ ids) (hI : ∀ i ∈ ids, I64 i) (hbl : base ≤ bl) (htp : tp ≤ bl) (ht : t < M) (hx : x.id ∈ ids) (ha : y.left = 0 ∨ y.left ∈ ids) (hb : y.right = 0 ∨ y.right ∈ ids) :
    Calls Tryz.prog 33 #[netV bn bl, x.val, .agg #[.int .i64 y.left, .int .i64 y.right], .int .i64 (t : Int)] w (NetP base tp bl v ids M (enF f x.id y t) w) := by
  have hbs : base ≤ w.heap.size := Nat.le_trans hbl (Nat.le_of_lt h.lt)
  have hts : tp ≤ w.heap.size := Nat.le_trans htp (Nat.le_of_lt h.lt)
  show Calls Tryz.prog 33 #[.agg #[.map (some bn), .map (some bl)], .agg #[.int .i64 x.id, .string x.key, .int .u32 (x.word : Int)], .agg #[.int .i64 y.left, .int .i64 y.right], .int .i64 (t : Int)] w _
  obtain ⟨w1, hw1⟩ : ∃ w1, w1 = w.alloc (.cells #[.map (some bn), .map (some bl)] 70) := ⟨_, rfl⟩
  obtain ⟨w2, hw2⟩ : ∃ w2, w2 = w1.alloc (.cells #[.int .i64 x.id, .string x.key, .int .u32 (x.word : Int)] 25) := ⟨_, rfl⟩
  obtain ⟨w3, hw3⟩ : ∃ w3, w3 = w2.alloc (.cells #[.int .i64 y.left, .int .i64 y.right] 53) := ⟨_, rfl⟩
  have hk1 : Below w.heap.size w w1 := by rw [hw1]; exact (Below.refl w.heap.size w).alloc (Nat.le_refl _) _
  have hk2 : Below w1.heap.size w1 w2 := by rw [hw2]; exact (Below.refl _ _).alloc (Nat.le_refl _) _
  have hk3 : Below w2.heap.size w2 w3 := by rw [hw3]; exact (Below.refl _ _).alloc (Nat.le_refl _) _
  have hX0 : Has w1 w.heap.size 70 #[.map (some bn), .map (some bl)] := by rw [hw1]; exact Has.new _ _ _
  have hX1 : Has w2 w1.heap.size 25 #[.int .i64 x.id, .string x.key, .int .u32 (x.word : Int)] := by rw [hw2]; exact Has.new _ _ _
  have hX2 : Has w3 w2.heap.size 53 #[.int .i64 y.left, .int .i64 y.right] := by rw [hw3]; exact Has.new _ _ _
  have s1 : w1.heap.size = w.heap.size + 1 := by rw [hw1, World.size_alloc]
  have s2 : w2.heap.size = w.heap.size + 2 := by rw [hw2, World.size_alloc, s1]
  have s3 : w3.heap.size = w.heap.size + 3 := by rw [hw3, World.size_alloc, s2]
  have hk123 : Below w.heap.size w w3 := (hk1.trans (hk2.mono (by omega))).trans (hk3.mono (by omega))
  have hX0 := (hX0.below hk2).below hk3
  have hX1 := hX1.below hk3
  have c00 := hX0.cell 0
  have c01 := hX0.cell 1
  have c10 := hX1.cell 0
  have c20 := hX2.cell 0
  have c21 := hX2.cell 1
  have HB3 := Lib.hid (Btw.of (base := base) (tp := tp) hk123 hbs)
  have HC1 := Lib.hid (nconnect_any base tp bn bl v ids M f y.left x.id t w3 (h.below hk123) hn h0 hI hbl htp ht ha (.inr hx))
  have HC2 := Lib.hid (fun (W : World) (h : RMap W base tp bl v ids M (cnF f y.left x.id t)) => nconnect_any base tp bn bl v ids M (cnF f y.left x.id t) x.id y.right t W h hn h0 hI hbl htp ht (.inr hx) hb)
  have HEN : Hid (cnF (cnF f y.left x.id t) x.id y.right t = enF f x.id y t) := Lib.hid rfl
  rw [s1] at hX1 c10
  rw [s2] at hX2 c20 c21
  have HX0 := Lib.hid hX0
  have HX1 := Lib.hid hX1
  have HX2 := Lib.hid hX2
  generalize cnF (cnF f y.left x.id t) x.id y.right t = F2 at *
  generalize cnF f y.left x.id t = F1 at *
  obtain ⟨xi, xk, xw⟩ := x
  obtain ⟨yl, yr⟩ := y
  simp only at *
  clear h hn h0 hI hx ha hb hk1 hk2 hk3 hk123 hX0 hX1 hX2
  go_enter Tryz.func33, Tryz.ntmps33
  go_upto_region 1 with fail
  rw [← hw1, ← hw2, ← hw3]
  clear hw1 hw2 hw3
  try rw [s1, s2]
  go_wp2_with fail
  refine (HC1.out).mono ?_
  rintro e w4 ⟨rfl, hm4, hb4⟩
  have HM4 := Lib.hid hm4
  have HB4 := Lib.hid (HB3.out.trans hb4)
  have c00 := (hb4.cell (p := ⟨w.heap.size, 0, none⟩) hts (by simp only; omega)).trans c00
  have c01 := (hb4.cell (p := ⟨w.heap.size, 1, none⟩) hts (by simp only; omega)).trans c01
  have c10 := (hb4.cell (p := ⟨w.heap.size + 1, 0, none⟩) (by simp only; omega) (by simp only; omega)).trans c10
  have c21 := (hb4.cell (p := ⟨w.heap.size + 2, 1, none⟩) (by simp only; omega) (by simp only; omega)).trans c21
  have HC3 := Lib.hid (HC2.out w4 hm4)
  clear hm4 hb4 HC1 HC2 HB3
  go_wp2_with fail
  refine (HC3.out).mono ?_
  rintro e w5 ⟨rfl, hm5, hb5⟩
  have HM5 := Lib.hid hm5
  have HB5 := Lib.hid (HB4.out.trans hb5)
  clear hm5 hb5
  go_wp2_with fail
  (first | go_end0 | (refine bodyPost_ret (results_none rfl _ _ _) rfl ?_))
  exact ⟨rfl, by rw [← HEN.out]; exact HM5.out, HB5.out⟩
theorem fd_none {p : Nd → Bool} : fdI p [] = 0 := rfl
theorem fd_yes {p : Nd → Bool} {y : Nd} {L : List Nd} (h : p y = true) : fdI p (y :: L) = y.id ∧ upN p (y :: L) = 1 := by
  unfold fdI upN
  simp [h]
theorem fd_no {p : Nd → Bool} {y : Nd} {L : List Nd} (h : p y = false) : fdI p (y :: L) = fdI p L ∧ upN p (y :: L) = upN p L + 1 := by
  unfold fdI
  rw [upN]
  simp [h]
theorem wbit_dec (a b : Nat) (t : Int) : (wbit a t == wbit b t) = decide (wbit a t = wbit b t) := by
  apply Bool.eq_iff_iff.2
  simp
set_option maxRecDepth 100000 in
set_option maxHeartbeats 1600000 in
theorem nseek_any (base tp bn bl : Nat) (v : Value) (l : List Nd) (ids : List Int) (M : Nat) (f : Int → Nat → Lk) (x : Nd) (t : Nat) (r : Bool) (L : List Nd) (w : World) (h : RMap w base tp bl v ids M f) (hN : NMap w bn l) (ha : l.Pairwise Nd.apart) (hlw : ∀ y ∈ l, y.wide) (hn : ids.Nodup) (hli : ∀ y ∈ l, y.id ∈ ids) (hbl : base ≤ bl) (ht : t < M) (hx : x ∈ l) (hL : ∀ y ∈ L, y ∈ l) (hLn : L.length ≤ 1000) (hch : Chn10 (fun j => lkS r (f j t)) (lkS r (f x.id t)) L) :
    Calls Tryz.prog 61 #[netV bn bl, x.val, .int .i64 (t : Int), .int .i64 (if r then 1 else 0)] w (fun e w' => e = .returned (.tuple #[.int .i64 (fdI (bsB t x) L), .int .i64 (upN (bsB t x) L : Int)]) ∧ Below w.heap.size w w') := by
  show Calls Tryz.prog 61 #[.agg #[.map (some bn), .map (some bl)], .agg #[.int .i64 x.id, .string x.key, .int .u32 (x.word : Int)], .int .i64 (t : Int), .int .i64 (if r then 1 else 0)] w _
  obtain ⟨w1, hw1⟩ : ∃ w1, w1 = w.alloc (.cells #[.map (some bn), .map (some bl)] 70) := ⟨_, rfl⟩
  obtain ⟨w2, hw2⟩ : ∃ w2, w2 = w1.alloc (.cells #[.int .i64 x.id, .string x.key, .int .u32 (x.word : Int)] 25) := ⟨_, rfl⟩
  have hk1 : Below w.heap.size w w1 := by rw [hw1]; exact (Below.refl w.heap.size w).alloc (Nat.le_refl _) _
  have hk2 : Below w1.heap.size w1 w2 := by rw [hw2]; exact (Below.refl _ _).alloc (Nat.le_refl _) _
  have hX0 : Has w1 w.heap.size 70 #[.map (some bn), .map (some bl)] := by rw [hw1]; exact Has.new _ _ _
  have hX1 : Has w2 w1.heap.size 25 #[.int .i64 x.id, .string x.key, .int .u32 (x.word : Int)] := by rw [hw2]; exact Has.new _ _ _
  have s1 : w1.heap.size = w.heap.size + 1 := by rw [hw1, World.size_alloc]
  have s2 : w2.heap.size = w.heap.size + 2 := by rw [hw2, World.size_alloc, s1]
  have hk12 : Below w.heap.size w w2 := hk1.trans (hk2.mono (by omega))
  have hX0 := hX0.below hk2
  rw [s1] at hX1
  have HX0 := Lib.hid hX0
  have HX1 := Lib.hid hX1
  have HK := Lib.hid hk12
  have HNX := Lib.hid (fun (W : World) (k : Below w.heap.size w W) (y : Nd) (hy : y ∈ l) => nnext_any base tp bn bl v ids M f y.id t r W (h.below k) hn (hli y hy) (hlw y hy).1 hbl ht)
  have HLK := Lib.hid (fun (W : World) (k : Below w.heap.size w W) (y : Nd) (hy : y ∈ l) => hN.look ha hy (hlw y hy) W k)
  have HXL := Lib.hid hx
  have HWD := Lib.hid (fun (y : Nd) (hy : y ∈ l) => (hlw y hy).2)
  have HBI := Lib.hid (fun (y : Nd) (hy : y ∈ l) (W : World) => bit_any y.word (t : Int) W (hlw y hy).2)
  have HXB := Lib.hid (fun (W : World) => bit_any x.word (t : Int) W (hlw x hx).2)
  have HDE := Lib.hid (fun (y : Nd) => wbit_dec y.word x.word (t : Int))
  have HBS : Hid (∀ y : Nd, bsB t x y = decide (wbit y.word (t : Int) = wbit x.word (t : Int))) := Lib.hid fun _ => rfl
  generalize bsB t x = p at *
  have HNX1 := Lib.hid (HNX.out _ hk12 x hx)
  obtain ⟨nx, hnx⟩ : ∃ nx : Int → Int, nx = fun j => lkS r (f j t) := ⟨_, rfl⟩
  have e1 : ∀ j, lkS r (f j t) = nx j := fun j => by rw [hnx]
  simp only [e1] at HNX HNX1 hch
  have HCH := Lib.hid hch
  have HLL := Lib.hid hL
  obtain ⟨sd, hsd⟩ : ∃ sd : Int, sd = if r then 1 else 0 := ⟨_, rfl⟩
  rw [← hsd] at HNX HNX1 ⊢
  obtain ⟨xi, xk, xw⟩ := x
  simp only at *
  have c00 := HX0.out.cell 0
  have c01 := HX0.out.cell 1
  have c10 := HX1.out.cell 0
  have c12 := HX1.out.cell 2
  clear h hN ha hlw hn hli hch hk1 hk2 hk12 hX0 hX1 hL hx e1 hnx hsd
  go_enter Tryz.func61, Tryz.ntmps61
  go_upto_region 2 with fail
  rw [← hw1, ← hw2]
  clear hw1 hw2
  try rw [s1]
  go_wp2_with fail
  refine (HNX1.out).mono ?_
  rintro e w4 ⟨rfl, hb4⟩
  have HB4 := Lib.hid (HK.out.trans (hb4.mono HK.out.size))
  have HY0 := Lib.hid (HX0.out.below hb4)
  have HY1 := Lib.hid (HX1.out.below hb4)
  clear hb4 HNX1 HX0 HX1 HK c00 c01 c10 c12
  go_wp2_with fail
  go_loopw [10, 11] (fun vn vy wr => ∃ (n : Nat) (u : Int) (R : List Nd), vn = .int .i64 (n : Int) ∧ vy = .int .i64 u ∧ Hid (Chn10 nx u R) ∧ Hid (∀ y ∈ R, y ∈ l) ∧ Hid (n + upN p R = upN p L) ∧ Hid (fdI p R = fdI p L) ∧ n + R.length ≤ 1000 ∧ Below w4.heap.size w4 wr) (fun vn _ _ => 1001 - (intOf vn).toNat)
  case atStart => exact ⟨0, _, L, rfl, rfl, HCH, HLL, Lib.hid (by omega), Lib.hid rfl, by omega, Below.refl _ _⟩
  case round =>
    obtain ⟨n, u, R, rfl, rfl, HC, HR, HU, HF, hle, hB⟩ := hrel
    cases R with
    | nil =>
      have hu : u = 0 := HC.out
      subst hu
      have h1 : Hid (fdI p L = 0) := Lib.hid (by rw [← HF.out]; rfl)
      have h2 : Hid (upN p L = n) := Lib.hid (by rw [← HU.out]; rfl)
      have HBF := Lib.hid (HB4.out.trans (hB.mono HB4.out.size))
      clear hB
      go_wp2_with fail
      go_ret2
      exact ⟨by rw [h1.out, h2.out]; rfl, HBF.out⟩
    | cons y R =>
      obtain ⟨hu, hy0, hc⟩ := HC.out
      subst hu
      have hyl := HR.out y (List.mem_cons_self ..)
      have HRR := Lib.hid (fun (z : Nd) (hz : z ∈ R) => HR.out z (List.mem_cons_of_mem _ hz))
      have HCC := Lib.hid hc
      have hle2 : n + 1 + R.length ≤ 1000 := by simp only [List.length_cons] at hle; omega
      have hz : (y.id != 0) = true := by simpa using hy0
      have hBW := HB4.out.trans (hB.mono HB4.out.size)
      have HBW := Lib.hid hBW
      have hlk : ∀ m, (Instr.lookup 67 (.map (some bn)) (.int .i64 y.id) false).run Tryz.prog (wr.drewN m) = .ok (.agg #[.int .i64 y.id, .string y.key, .int .u32 (y.word : Int)]) (wr.drewN m) := fun m => HLK.out _ (below_drw hBW m) y hyl
      have HB1 := Lib.hid (fun (W : World) => HBI.out y hyl W)
      have HN2 := Lib.hid (fun (W : World) (k : Below w.heap.size w W) => HNX.out W k y hyl)
      have HEQ := Lib.hid (HDE.out y)
      have HPP := Lib.hid (HBS.out y)
      have c00 := (HY0.out.below hB).cell 0
      have c01 := (HY0.out.below hB).cell 1
      have c12 := (HY1.out.below hB).cell 2
      have hw64 : IntKind.i64.wrap ((n : Int) + 1) = (n : Int) + 1 := IntWalk.i64_in _ (by omega)
      have HBR := Lib.hid hB
      generalize wbit y.word (t : Int) = b1 at *
      generalize wbit xw (t : Int) = b2 at *
      have hfd : ∀ W : World, (Instr.field 25 (.agg #[.int .i64 y.id, .string y.key, .int .u32 (y.word : Int)]) 2).run Tryz.prog W = .ok (.int .u32 (y.word : Int)) W := fun _ => by kernel_rfl
      clear HC HR hc hBW hB hle hyl
      go_upto_region 6 with fail
      go_quiet ((go_at_call 85; first | with_reducible exact quiet_left (HB1.out _) | with_reducible exact quiet_left (HXB.out _)))
      have hqb := below_drw (Below.refl wr.heap.size wr) nq
      have HBQ := Lib.hid (HBR.out.trans (hqb.mono HBR.out.size))
      have HBQ2 := Lib.hid (HBW.out.trans (hqb.mono HBW.out.size))
      generalize wr.drewN nq = WQ at *
      have c00 := (HY0.out.below HBQ.out).cell 0
      have c01 := (HY0.out.below HBQ.out).cell 1
      rw [HEQ.out, ← HPP.out]
      cases hp : p y with
      | true =>
        have h1 : Hid (fdI p L = y.id) := Lib.hid (by rw [← HF.out]; exact (fd_yes hp).1)
        have h2 : Hid (upN p L = n + 1) := Lib.hid (by rw [← HU.out, (fd_yes hp).2])
        clear hp hlk
        go_wp2_with fail
        go_ret2
        exact ⟨by rw [h1.out, h2.out]; simp, HBQ2.out⟩
      | false =>
        have h1 : Hid (fdI p R = fdI p L) := Lib.hid (by rw [← HF.out]; exact (fd_no hp).1.symm)
        have h2 : Hid (n + 1 + upN p R = upN p L) := Lib.hid (by rw [← HU.out, (fd_no hp).2]; omega)
        clear hp hlk
        go_wp2_with fail
        refine (HN2.out _ HBQ2.out).mono ?_
        rintro e w5 ⟨rfl, hb5⟩
        have HB5 := Lib.hid (HBQ.out.trans (hb5.mono HBQ.out.size))
        clear hb5
        go_wp2_with fail
        exact ⟨⟨n + 1, _, R, by simp, rfl, HCC, HRR, h2, h1, hle2, HB5.out⟩, by simp [intOf]; omega⟩
theorem add_cast (a b : Nat) : (a : Int) + (b : Int) = ((a + b : Nat) : Int) := by simp
set_option maxRecDepth 100000 in
set_option maxHeartbeats 1600000 in
theorem nclimb_any (base tp bn bl : Nat) (v : Value) (l : List Nd) (ids : List Int) (M : Nat) (f : Int → Nat → Lk) (x : Nd) (t : Nat) (L1 L2 : List Nd) (w : World) (h : RMap w base tp bl v ids M f) (hN : NMap w bn l) (ha : l.Pairwise Nd.apart) (hlw : ∀ y ∈ l, y.wide) (hn : ids.Nodup) (hli : ∀ y ∈ l, y.id ∈ ids) (hbl : base ≤ bl) (ht : t < M) (hx : x ∈ l) (h1 : ∀ y ∈ L1, y ∈ l) (h1n : L1.length ≤ 1000) (hc1 : Chn10 (fun j => (f j t).left) (f x.id t).left L1) (h2 : ∀ y ∈ L2, y ∈ l) (h2n : L2.length ≤ 1000) (hc2 : Chn10 (fun j => (f j t).right) (f x.id t).right L2) :
    Calls Tryz.prog 36 #[netV bn bl, x.val, .int .i64 (t : Int)] w (fun e w' => e = .returned (.tuple #[.agg #[.int .i64 (fdI (bsB t x) L1), .int .i64 (fdI (bsB t x) L2)], .int .i64 ((upN (bsB t x) L1 + upN (bsB t x) L2 : Nat) : Int)]) ∧ Below w.heap.size w w') := by
  show Calls Tryz.prog 36 #[.agg #[.map (some bn), .map (some bl)], .agg #[.int .i64 x.id, .string x.key, .int .u32 (x.word : Int)], .int .i64 (t : Int)] w _
  obtain ⟨w1, hw1⟩ : ∃ w1, w1 = w.alloc (.cells #[.map (some bn), .map (some bl)] 70) := ⟨_, rfl⟩
  obtain ⟨w2, hw2⟩ : ∃ w2, w2 = w1.alloc (.cells #[.int .i64 x.id, .string x.key, .int .u32 (x.word : Int)] 25) := ⟨_, rfl⟩
  obtain ⟨w3, hw3⟩ : ∃ w3, w3 = w2.alloc (.cells #[.int .i64 0, .int .i64 0] 53) := ⟨_, rfl⟩
  have hk1 : Below w.heap.size w w1 := by rw [hw1]; exact (Below.refl w.heap.size w).alloc (Nat.le_refl _) _
  have hk2 : Below w1.heap.size w1 w2 := by rw [hw2]; exact (Below.refl _ _).alloc (Nat.le_refl _) _
  have hk3 : Below w2.heap.size w2 w3 := by rw [hw3]; exact (Below.refl _ _).alloc (Nat.le_refl _) _
  have hX0 : Has w1 w.heap.size 70 #[.map (some bn), .map (some bl)] := by rw [hw1]; exact Has.new _ _ _
  have hX1 : Has w2 w1.heap.size 25 #[.int .i64 x.id, .string x.key, .int .u32 (x.word : Int)] := by rw [hw2]; exact Has.new _ _ _
  have hX2 : Has w3 w2.heap.size 53 #[.int .i64 0, .int .i64 0] := by rw [hw3]; exact Has.new _ _ _
  have s1 : w1.heap.size = w.heap.size + 1 := by rw [hw1, World.size_alloc]
  have s2 : w2.heap.size = w.heap.size + 1 + 1 := by rw [hw2, World.size_alloc, s1]
  have s3 : w3.heap.size = w.heap.size + 3 := by rw [hw3, World.size_alloc, s2]
  have hk123 : Below w.heap.size w w3 := (hk1.trans (hk2.mono (by omega))).trans (hk3.mono (by omega))
  have hX0 := (hX0.below hk2).below hk3
  have hX1 := hX1.below hk3
  rw [s1] at hX1
  rw [s2] at hX2
  have HX0 := Lib.hid hX0
  have HX1 := Lib.hid hX1
  have HX2 := Lib.hid hX2
  have HK := Lib.hid hk123
  have HS1 := Lib.hid (fun (W : World) (k : Below w.heap.size w W) => nseek_any base tp bn bl v l ids M f x t false L1 W (h.below k) (hN.below k) ha hlw hn hli hbl ht hx h1 h1n hc1)
  have HS2 := Lib.hid (fun (W : World) (k : Below w.heap.size w W) => nseek_any base tp bn bl v l ids M f x t true L2 W (h.below k) (hN.below k) ha hlw hn hli hbl ht hx h2 h2n hc2)
  have hu1 := upN_le (bsB t x) L1
  have hu2 := upN_le (bsB t x) L2
  generalize upN (bsB t x) L1 = n1 at *
  generalize upN (bsB t x) L2 = n2 at *
  generalize fdI (bsB t x) L1 = d1 at *
  generalize fdI (bsB t x) L2 = d2 at *
  have hsum : IntKind.i64.wrap ((n1 : Int) + (n2 : Int)) = (n1 : Int) + (n2 : Int) := IntWalk.i64_in _ (by omega)
  have HAD := Lib.hid (add_cast n1 n2)
  generalize ((n1 + n2 : Nat) : Int) = nn at *
  obtain ⟨xi, xk, xw⟩ := x
  simp only at *
  have c00 := hX0.cell 0
  have c01 := hX0.cell 1
  have c10 := hX1.cell 0
  have c11 := hX1.cell 1
  have c12 := hX1.cell 2
  clear h hN ha hlw hn hli hx h1 h1n hc1 h2 h2n hc2 hk1 hk2 hk3 hk123 hX0 hX1 hX2 hu1 hu2
  have HS3 := Lib.hid (HS1.out w3 HK.out)
  go_enter Tryz.func36, Tryz.ntmps36
  go_upto_region 1 with fail
  rw [← hw1, ← hw2, ← hw3]
  clear hw1 hw2 hw3 HS1
  try rw [s1, s2]
  go_wp2_with fail
  refine (HS3.out).mono ?_
  rintro e w4 ⟨rfl, hb4⟩
  have HB4 := Lib.hid (HK.out.trans (hb4.mono HK.out.size))
  have HY0 := Lib.hid (HX0.out.below hb4)
  have HY1 := Lib.hid (HX1.out.below hb4)
  have HY2 := Lib.hid (HX2.out.below hb4)
  have HS4 := Lib.hid (HS2.out w4 HB4.out)
  have c00 := HY0.out.cell 0
  have c01 := HY0.out.cell 1
  have c10 := HY1.out.cell 0
  have c11 := HY1.out.cell 1
  have c12 := HY1.out.cell 2
  clear hb4 HS3 HS2 HX0 HX1 HX2 HK
  go_wp2_with fail
  refine (HS4.out).mono ?_
  rintro e w5 ⟨rfl, hb5⟩
  have HB5 := Lib.hid (HB4.out.trans (hb5.mono HB4.out.size))
  have hY2 := HY2.out.below hb5
  have HY2 := Lib.hid hY2
  have c20 := hY2.cell 0
  have c21 := hY2.cell 1
  have c2f := hY2.frozen
  have HSE := Lib.hid (fun (u1 u2 : Value) => ((HB5.out.setCell (p := ⟨w.heap.size + 1 + 1, 0, none⟩) (by simp only; omega) u1).setCell (p := ⟨w.heap.size + 1 + 1, 1, none⟩) (by simp only; omega) u2))
  clear hb5 HS4 HY0 HY1 hY2 c00 c01 c10 c11 c12
  go_wp2_with fail
  refine bodyPost_ret (v := .tuple #[.agg #[.int .i64 d1, .int .i64 d2], .int .i64 ((n1 : Int) + (n2 : Int))]) (by simp [results, Tryz.results36, go_sem, *]) rfl ⟨by rw [HAD.out], ?_⟩
  exact HSE.out _ _
set_option maxRecDepth 100000 in
set_option maxHeartbeats 1600000 in
theorem nbeside_any (base tp bn bl : Nat) (v : Value) (l : List Nd) (ids : List Int) (M : Nat) (f : Int → Nat → Lk) (x o : Nd) (w : World) (h : RMap w base tp bl v ids M f) (hN : NMap w bn l) (ha : l.Pairwise Nd.apart) (hn : ids.Nodup) (hbl : base ≤ bl) (ht : 0 < M) (ho : o ∈ l) (how : o.wide) (hoi : o.id ∈ ids) :
    Calls Tryz.prog 34 #[netV bn bl, .int .i64 o.id, x.val] w (fun e w' => e = .returned (.agg #[.int .i64 (if kl x.key o.key = true then 0 else o.id), .int .i64 (if kl x.key o.key = true then o.id else (f o.id 0).right)]) ∧ Below w.heap.size w w') := by
  show Calls Tryz.prog 34 #[.agg #[.map (some bn), .map (some bl)], .int .i64 o.id, .agg #[.int .i64 x.id, .string x.key, .int .u32 (x.word : Int)]] w _
  obtain ⟨w1, hw1⟩ : ∃ w1, w1 = w.alloc (.cells #[.map (some bn), .map (some bl)] 70) := ⟨_, rfl⟩
  obtain ⟨w2, hw2⟩ : ∃ w2, w2 = w1.alloc (.cells #[.int .i64 x.id, .string x.key, .int .u32 (x.word : Int)] 25) := ⟨_, rfl⟩
  obtain ⟨w3, hw3⟩ : ∃ w3, w3 = w2.alloc (.cells #[.int .i64 0, .int .i64 0] 53) := ⟨_, rfl⟩
  have hk1 : Below w.heap.size w w1 := by rw [hw1]; exact (Below.refl w.heap.size w).alloc (Nat.le_refl _) _
  have hk2 : Below w1.heap.size w1 w2 := by rw [hw2]; exact (Below.refl _ _).alloc (Nat.le_refl _) _
  have hk3 : Below w2.heap.size w2 w3 := by rw [hw3]; exact (Below.refl _ _).alloc (Nat.le_refl _) _
  have hX0 : Has w1 w.heap.size 70 #[.map (some bn), .map (some bl)] := by rw [hw1]; exact Has.new _ _ _
  have hX1 : Has w2 w1.heap.size 25 #[.int .i64 x.id, .string x.key, .int .u32 (x.word : Int)] := by rw [hw2]; exact Has.new _ _ _
  have hX2 : Has w3 w2.heap.size 53 #[.int .i64 0, .int .i64 0] := by rw [hw3]; exact Has.new _ _ _
  have s1 : w1.heap.size = w.heap.size + 1 := by rw [hw1, World.size_alloc]
  have s2 : w2.heap.size = w.heap.size + 1 + 1 := by rw [hw2, World.size_alloc, s1]
  have s3 : w3.heap.size = w.heap.size + 3 := by rw [hw3, World.size_alloc, s2]
  have hk123 : Below w.heap.size w w3 := (hk1.trans (hk2.mono (by omega))).trans (hk3.mono (by omega))
  have hX0 := (hX0.below hk2).below hk3
  have hX1 := hX1.below hk3
  rw [s1] at hX1
  rw [s2] at hX2
  have c00 := hX0.cell 0
  have c01 := hX0.cell 1
  have c11 := hX1.cell 1
  have c20 := hX2.cell 0
  have c21 := hX2.cell 1
  have c2f := hX2.frozen
  have HSE := Lib.hid (fun (u1 u2 : Value) => ((hk123.setCell (p := ⟨w.heap.size + 1 + 1, 0, none⟩) (by simp only; omega) u1).setCell (p := ⟨w.heap.size + 1 + 1, 1, none⟩) (by simp only; omega) u2))
  have hl1 := hN.look ha ho how w3 hk123
  obtain ⟨H, c, hlk, hH1, hH2, hH3, z0, z1, hfz, hst⟩ := h.get hn hbl hoi how.1.1 how.1.2 ht
  have hl2 := hlk w3 hk123
  have z1 := (hk123.cell (p := ⟨H, 0 * 2 + 1, none⟩) hH2).trans z1
  rw [Nat.zero_mul, Nat.zero_add] at z1
  have hMp : (0 : Int) < (M : Int) := by omega
  generalize f o.id 0 = y at *
  have hkl : Op.bytesLess x.key.toList o.key.toList = kl x.key o.key := rfl
  obtain ⟨xi, xk, xw⟩ := x
  obtain ⟨oi, ok, ow⟩ := o
  simp only at *
  generalize kl xk ok = K at *
  have hfd : ∀ W : World, (Instr.field 25 (.agg #[.int .i64 oi, .string ok, .int .u32 (ow : Int)]) 1).run Tryz.prog W = .ok (.string ok) W := fun _ => by kernel_rfl
  clear h hN ha hn ho how hoi hlk hst hk1 hk2 hk3 hk123 hX0 hX1 hX2 hfz z0
  cases K
  · go_enter Tryz.func34, Tryz.ntmps34
    go_upto_region 1 with fail
    rw [← hw1, ← hw2, ← hw3]
    clear hw1 hw2 hw3
    try rw [s1, s2]
    go_wp2_with fail
    refine bodyPost_ret (v := .agg #[.int .i64 oi, .int .i64 y.right]) (by simp [results, Tryz.results34, go_sem, *]) rfl ⟨rfl, ?_⟩
    exact HSE.out _ _
  · go_enter Tryz.func34, Tryz.ntmps34
    go_upto_region 1 with fail
    rw [← hw1, ← hw2, ← hw3]
    clear hw1 hw2 hw3
    try rw [s1, s2]
    go_wp2_with fail
    refine bodyPost_ret (v := .agg #[.int .i64 0, .int .i64 oi]) (by simp [results, Tryz.results34, go_sem, *]) rfl ⟨rfl, ?_⟩
    exact HSE.out _ _
def NetW (l : List Nd) (base : Nat) (v : Value) (ids : List Int) (M : Nat) (f : Int → Nat → Lk) (w : World) (e : Ending) (w' : World) : Prop := ∃ bn bl, e = .returned (netV bn bl) ∧ w.heap.size ≤ bn ∧ w.heap.size ≤ bl ∧ NMap w' bn l ∧ RMap w' base w.heap.size bl v ids M f ∧ Below w.heap.size w w'
theorem VMap.keep_ {w w' : World} {b n b2 : Nat} {z : Value} {f : Int → Option Value} (h : VMap w b n z f) (hg : w.grownBy w' (some b2)) (hne : b ≠ b2) : VMap w' b n z f := h.kept hg (fun e => hne (Option.some.inj e))
set_option maxRecDepth 100000 in
set_option maxHeartbeats 1600000 in
theorem networkOf_any (A : Option Addr) (l : List Nd) (c base : Nat) (v : Value) (ids : List Int) (M : Nat) (f : Int → Nat → Lk) (w : World) (hl : Nds w w.heap.size A l) (hlw : ∀ x ∈ l, x.wide) (hln : l.length ≤ 1000) (hv : OwnD w base v (lsF ids M f)) (hI : ∀ i ∈ ids, I64 i) (hin : ids.length ≤ 1000) :
    Calls Tryz.prog 32 #[.slice A l.length c, v] w (NetW l base v ids M f w) := by
  obtain ⟨q, h1, h2, h3, h4⟩ := hv
  have HQ : Hid (OwnDq w base v (lsF ids M f) q) := Lib.hid ⟨h1, h2, h3, h4⟩
  have hqn : q.length = ids.length := by rw [h2, lsF_len]
  have HTP : Hid (∀ p ∈ q, ∀ k, p.2.ownBlock = some k → k < w.heap.size) := Lib.hid fun p hp k e => by
    obtain ⟨i, hi, rfl⟩ := List.getElem_of_mem hp
    exact ((h3 i hi (by omega)).2.1.lt k e).2
  have HQI := Lib.hid (fun (i : Nat) (hi : i < q.length) => (by
    have h5 : i < (lsF ids M f).length := by omega
    rw [(h3 i hi h5).1, lsF_at h5]
    exact hI _ (List.getElem_mem _) : I64 q[i].1))
  have HRD : Hid (∀ (i : Nat) (hi : i < q.length), ∃ G cap, v = .slice (some ⟨G, 0, none⟩) ids.length cap ∧ G < w.heap.size ∧ w.cell? ⟨G, i * 2, none⟩ = some (.int .i64 q[i].1) ∧ w.cell? ⟨G, i * 2 + 1, none⟩ = some q[i].2) := Lib.hid fun i hi => by
    rcases h1.2 with ⟨_, h0⟩ | ⟨G, cap, cur, rfl, hb, hg, hnc, hcm, hcs, htake⟩
    · omega
    · refine ⟨G, cap, by rw [lsF_len], Has.lt hg, ?_, ?_⟩
      · rw [h1.cellAt (i * 2) (by omega), (flatP_at q i hi).1]
      · rw [h1.cellAt (i * 2 + 1) (by omega), (flatP_at q i hi).2]
  have HQS : Hid (∀ (i : Nat) (hi : i < q.length), ∃ A' m c', q[i].2 = .slice A' m c') := Lib.hid fun i hi => by
    obtain ⟨A', c', e⟩ := (h3 i hi (by omega)).2.1.shape
    exact ⟨A', _, c', e⟩
  have HSH : Hid (∃ A2 c2, v = .slice A2 ids.length c2) := Lib.hid (by
    rcases h1.2 with ⟨e, h0⟩ | ⟨G, cap, cur, rfl, hb, hg, hnc, hcm, hcs, htake⟩
    · exact ⟨none, 0, by rw [lsF_len] at h0; rw [e, h0]⟩
    · exact ⟨_, cap, by rw [lsF_len]⟩)
  have HF0 : Hid (ndF (l.take 0) = fun _ => none) := Lib.hid (by funext i; simp [ndF])
  have HFE : Hid (∀ k, l.length ≤ k → ndF (l.take k) = ndF l) := Lib.hid fun k hk => by rw [List.take_of_length_le hk]
  have HNEW := Lib.hid (fun (k : Nat) (h1 : k < l.length) => ndF_next h1)
  have HG0 : Hid (qF (q.take 0) = fun _ => none) := Lib.hid (by funext i; simp [qF])
  have HGE : Hid (∀ k, q.length ≤ k → qF (q.take k) = qF q) := Lib.hid fun k hk => by rw [List.take_of_length_le hk]
  have HNEQ := Lib.hid (fun (k : Nat) (h1 : k < q.length) => qF_next h1)
  have HL := Lib.hid hl
  have HLW := Lib.hid hlw
  obtain ⟨N, hN⟩ : ∃ N, N = l.length := ⟨_, rfl⟩
  have HN := Lib.hid hN
  obtain ⟨N2, hN2⟩ : ∃ N, N = ids.length := ⟨_, rfl⟩
  have HQN : Hid (q.length = N2) := Lib.hid (by rw [hqn, hN2])
  rw [← hN] at hln ⊢
  rw [← hN2] at hin HRD HSH
  obtain ⟨A2, c2, rfl⟩ := HSH.out
  have hmm := @run_makeMap Tryz.prog
  obtain ⟨w1, hw1⟩ : ∃ w1, w1 = w.alloc (.cells #[.map none, .map none] 70) := ⟨_, rfl⟩
  obtain ⟨w2, hw2⟩ : ∃ w2, w2 = w1.alloc (.map #[] 0) := ⟨_, rfl⟩
  obtain ⟨w3, hw3⟩ : ∃ w3, w3 = w2.alloc (.map #[] 0) := ⟨_, rfl⟩
  obtain ⟨w4, hw4⟩ : ∃ w4, w4 = w3.alloc (.cells #[.map (some (w.heap.size + 1)), .map (some (w.heap.size + 1 + 1))] 70) := ⟨_, rfl⟩
  have s1 : w1.heap.size = w.heap.size + 1 := by rw [hw1, World.size_alloc]
  have s2 : w2.heap.size = w.heap.size + 1 + 1 := by rw [hw2, World.size_alloc, s1]
  have s3 : w3.heap.size = w.heap.size + 1 + 1 + 1 := by rw [hw3, World.size_alloc, s2]
  have s4 : w4.heap.size = w.heap.size + 1 + 1 + 1 + 1 := by rw [hw4, World.size_alloc, s3]
  have hk1 : Below w.heap.size w w1 := by rw [hw1]; exact (Below.refl w.heap.size w).alloc (Nat.le_refl _) _
  have hk2 : Below w1.heap.size w1 w2 := by rw [hw2]; exact (Below.refl _ _).alloc (Nat.le_refl _) _
  have hk3 : Below w2.heap.size w2 w3 := by rw [hw3]; exact (Below.refl _ _).alloc (Nat.le_refl _) _
  have hk4 : Below w3.heap.size w3 w4 := by rw [hw4]; exact (Below.refl _ _).alloc (Nat.le_refl _) _
  have hm1 : VMap w2 (w.heap.size + 1) 0 zNd (fun _ => none) := by rw [← s1, hw2]; exact VMap.made w1 zNd
  have hm2 : VMap w3 (w.heap.size + 1 + 1) 0 (.slice none 0 0) (fun _ => none) := by rw [← s2, hw3]; exact VMap.made w2 _
  have HR0 := Lib.hid (((Has.new w 70 #[.map none, .map none]).below (show Below (w.alloc (.cells #[.map none, .map none] 70)).heap.size _ w2 by rw [← hw1]; exact hk2)).below hk3 |>.below hk4)
  have HX0 : Hid (Has w4 (w.heap.size + 1 + 1 + 1) 70 #[.map (some (w.heap.size + 1)), .map (some (w.heap.size + 1 + 1))]) := Lib.hid (by rw [← s3, hw4]; exact Has.new _ _ _)
  have HM1 := Lib.hid ((hm1.below hk3).below hk4)
  have HM2 := Lib.hid (hm2.below hk4)
  have HK := Lib.hid (((hk1.trans (hk2.mono (by omega))).trans (hk3.mono (by omega))).trans (hk4.mono (by omega)))
  obtain ⟨bn, hbn⟩ : ∃ bn, bn = w.heap.size + 1 := ⟨_, rfl⟩
  obtain ⟨bl, hbl⟩ : ∃ bl, bl = w.heap.size + 1 + 1 := ⟨_, rfl⟩
  obtain ⟨X, hX⟩ : ∃ X, X = w.heap.size + 1 + 1 + 1 := ⟨_, rfl⟩
  obtain ⟨R0, hR0⟩ : ∃ R0, R0 = w.heap.size := ⟨_, rfl⟩
  have HBN : Hid (w.heap.size < bn ∧ w.heap.size < bl ∧ bn ≠ bl ∧ X ≠ bn ∧ X ≠ bl ∧ X < w4.heap.size ∧ R0 ≠ bn ∧ R0 ≠ bl ∧ w.heap.size ≤ R0 ∧ w.heap.size ≤ X) := Lib.hid (by omega)
  rw [← hX] at HX0
  rw [← hbl] at HM2 HX0
  rw [← hbn] at HM1 HX0
  rw [← hR0] at HR0
  clear hk1 hk2 hk3 hk4 hm1 hm2 h1 h2 h3 h4 hl hlw hI hN hN2 hqn s1 s2 s3 s4
  go_enter Tryz.func32, Tryz.ntmps32
  go_upto_region 2 with fail
  rw [← hw1, ← hw2, ← hw3, ← hw4, ← hX, ← hbl, ← hbn]
  generalize hPo : NetW l base (.slice A2 N2 c2) ids M f w = Po at *
  rw [← hR0]
  have HPO := Lib.hid hPo
  have HRR := Lib.hid hR0
  clear hw1 hw2 hw3 hw4 hX hbl hbn hR0 hPo
  go_wp2_with fail
  go_loopw [15] (fun vk wr => ∃ k : Nat, vk = .int .i64 (k : Int) ∧ k ≤ N ∧ Below w.heap.size w wr ∧ VMap wr bn k zNd (ndF (l.take k)) ∧ VMap wr bl 0 (.slice none 0 0) (fun _ => none) ∧ Has wr X 70 #[.map (some bn), .map (some bl)] ∧ Has wr R0 70 #[.map none, .map none]) (fun vk _ => N - (intOf vk).toNat)
  case atStart => exact ⟨0, rfl, by omega, HK.out, by rw [HF0.out]; exact HM1.out, HM2.out, HX0.out, HR0.out⟩
  case round =>
    clear HM1 HM2 HX0 HR0 HK
    obtain ⟨k, rfl, hk, hB, hM, hM2, hX, hR⟩ := hrel
    by_cases hlt : k < N
    · have k1 : k < l.length := by rw [← HN.out]; exact hlt
      obtain ⟨b2, o2, e2, hb2, f1, f2, f3⟩ := HL.out.at_ k1
      subst e2
      have hyi := (HLW.out _ (List.getElem_mem k1)).1
      have HN1 := Lib.hid (HNEW.out k k1)
      generalize hF' : ndF (l.take (k + 1)) = F' at *
      have HFP := Lib.hid hF'
      clear hF'
      generalize ndF (l.take k) = F at *
      generalize l[k] = y at *
      obtain ⟨yi, yk, yw⟩ := y
      replace f1 := (hB.cell (p := ⟨b2, o2 + k * 3, none⟩) hb2).trans f1
      replace f2 := (hB.cell (p := ⟨b2, o2 + k * 3 + 1, none⟩) hb2).trans f2
      replace f3 := (hB.cell (p := ⟨b2, o2 + k * 3 + 2, none⟩) hb2).trans f3
      have i0 : (0 : Int) ≤ (k : Int) := by omega
      have i1 : (k : Int) < (N : Int) := by omega
      have hY := Has.new wr 25 #[.int .i64 yi, .string yk, .int .u32 (yw : Int)]
      have x0 := hY.cell 0
      have x1 := hY.cell 1
      have x2 := hY.cell 2
      have hbX := (Below.refl wr.heap.size wr).alloc (Nat.le_refl _) (.cells #[.int .i64 yi, .string yk, .int .u32 (yw : Int)] 25)
      have n0 := (hX.below hbX).cell 0
      have HBX := Lib.hid (hB.trans (hbX.mono hB.size))
      have HMX := Lib.hid (hM.below hbX)
      have HMY := Lib.hid (hM2.below hbX)
      have HXX := Lib.hid (hX.below hbX)
      have HRX := Lib.hid (hR.below hbX)
      clear hY hbX hM hM2 hX hR hB k1
      go_wp2_with (at_mapUpdate; refine wpList_vput _ rfl _ _ _ 67 rfl 25 Tryz.underlying67 bn k _ F HMX.out rfl (by unfold maxLen; omega) yi hyi (.agg #[.int .i64 yi, .string yk, .int .u32 (yw : Int)]) rfl rfl ?_; intro w5 hm5 hgr5; have HM5 := Lib.hid hm5; have HM6 := Lib.hid (HMY.out.keep_ hgr5 (Ne.symm HBN.out.2.2.1)); have HX5 : Hid (Has w5 X 70 #[.map (some bn), .map (some bl)]) := Lib.hid ((hgr5.block X HXX.out.lt (fun e => HBN.out.2.2.2.1 (Option.some.inj e))).trans HXX.out); have HR5 : Hid (Has w5 R0 70 #[.map none, .map none]) := Lib.hid ((hgr5.block R0 HRX.out.lt (fun e => HBN.out.2.2.2.2.2.2.1 (Option.some.inj e))).trans HRX.out); have HB5 := Lib.hid (HBX.out.grown hgr5 HBX.out.size (fun j e => (by have := Option.some.inj e; have := HBN.out.1; omega))); clear hm5 hgr5)
      exact ⟨⟨k + 1, by go_num, hlt, HB5.out, by rw [HFP.out]; exact HM5.out.congr HN1.out, HM6.out, HX5.out, HR5.out⟩, by simp [intOf]; omega⟩
    · have hkn : l.length ≤ k := by rw [← HN.out]; omega
      rw [HFE.out k hkn] at hM
      have HMF : Hid (∀ W : World, wr.grownBy W (some bl) → NMap W bn l) := Lib.hid fun W hg => ⟨k, hM.keep_ hg HBN.out.2.2.1⟩
      have HM2 := Lib.hid hM2
      have HXX := Lib.hid hX
      have HRX := Lib.hid hR
      have HB := Lib.hid hB
      have HNM : Hid (NMap wr bn l) := Lib.hid ⟨k, hM⟩
      clear hM hM2 hX hR hB HMF HFE HF0 HNEW HL HLW
      go_wp2_with fail
      go_loopw [27] (fun vk wr => ∃ k : Nat, vk = .int .i64 (k : Int) ∧ k ≤ N2 ∧ Below w.heap.size w wr ∧ NMap wr bn l ∧ VMap wr bl k (.slice none 0 0) (qF (q.take k)) ∧ Has wr X 70 #[.map (some bn), .map (some bl)] ∧ Has wr R0 70 #[.map none, .map none]) (fun vk _ => N2 - (intOf vk).toNat)
      case atStart => exact ⟨0, rfl, by omega, HB.out, HNM.out, by rw [HG0.out]; exact HM2.out, HXX.out, HRX.out⟩
      case round =>
        clear HB HNM HM2 HXX HRX
        obtain ⟨j, rfl, hj, hB, hNM, hM, hX, hR⟩ := hrel
        by_cases hlt2 : j < N2
        · have j1 : j < q.length := by rw [HQN.out]; exact hlt2
          obtain ⟨G, cap, eG, hG, g1, g2⟩ := HRD.out j j1
          injection eG with eG1 eG2 eG3
          subst eG1 eG3
          have hyi := HQI.out j j1
          have HN1 := Lib.hid (HNEQ.out j j1)
          obtain ⟨A', m', c', eq2⟩ := HQS.out j j1
          rw [eq2] at g2 HN1
          generalize hF' : qF (q.take (j + 1)) = F' at *
          have HFP := Lib.hid hF'
          clear hF'
          generalize qF (q.take j) = F at *
          generalize q[j].1 = yi at *
          replace g1 := (hB.cell (p := ⟨G, j * 2, none⟩) hG).trans g1
          replace g2 := (hB.cell (p := ⟨G, j * 2 + 1, none⟩) hG).trans g2
          have i0 : (0 : Int) ≤ (j : Int) := by omega
          have i1 : (j : Int) < (N2 : Int) := by omega
          have hY := Has.new wr 56 #[.int .i64 yi, .slice A' m' c']
          have x0 := hY.cell 0
          have x1 := hY.cell 1
          have hbX := (Below.refl wr.heap.size wr).alloc (Nat.le_refl _) (.cells #[.int .i64 yi, .slice A' m' c'] 56)
          have n1 := (hX.below hbX).cell 1
          have HBX := Lib.hid (hB.trans (hbX.mono hB.size))
          have HMX := Lib.hid (hM.below hbX)
          have HNY := Lib.hid (hNM.below hbX)
          have HXX := Lib.hid (hX.below hbX)
          have HRX := Lib.hid (hR.below hbX)
          clear hY hbX hM hNM hX hR hB j1 eq2 eG2
          go_wp2_with (at_mapUpdate; refine wpList_vput _ rfl _ _ _ 68 rfl 54 Tryz.underlying68 bl j _ F HMX.out rfl (by unfold maxLen; omega) yi hyi (.slice A' m' c') rfl rfl ?_; intro w5 hm5 hgr5; have HM5 := Lib.hid hm5; have HN5 : Hid (NMap w5 bn l) := Lib.hid (by obtain ⟨nn, h⟩ := HNY.out; exact ⟨nn, h.keep_ hgr5 HBN.out.2.2.1⟩); have HX5 : Hid (Has w5 X 70 #[.map (some bn), .map (some bl)]) := Lib.hid ((hgr5.block X HXX.out.lt (fun e => HBN.out.2.2.2.2.1 (Option.some.inj e))).trans HXX.out); have HR5 : Hid (Has w5 R0 70 #[.map none, .map none]) := Lib.hid ((hgr5.block R0 HRX.out.lt (fun e => HBN.out.2.2.2.2.2.2.2.1 (Option.some.inj e))).trans HRX.out); have HB5 := Lib.hid (HBX.out.grown hgr5 HBX.out.size (fun j e => (by have := Option.some.inj e; have := HBN.out.2.1; omega))); clear hm5 hgr5)
          exact ⟨⟨j + 1, by go_num, hlt2, HB5.out, HN5.out, by rw [HFP.out]; exact HM5.out.congr HN1.out, HX5.out, HR5.out⟩, by simp [intOf]; omega⟩
        · have hjn : q.length ≤ j := by rw [HQN.out]; omega
          rw [HGE.out j hjn] at hM
          have HNF := Lib.hid hNM
          have hXR : R0 ≠ X := by
            rintro rfl
            have h1 := hX
            have h2 := hR
            unfold Has at h1 h2
            rw [h1] at h2
            simp at h2
          have c0 := hX.cell 0
          have c1 := hX.cell 1
          have r0 := hR.cell 0
          have r1 := hR.cell 1
          have rf := hR.frozen
          have hR0s : w.heap.size ≤ R0 := by have := HBN.out; omega
          have hNS : ∀ u1 u2, NMap ((wr.setCell ⟨R0, 0, none⟩ u1).setCell ⟨R0, 1, none⟩ u2) bn l := fun u1 u2 => by
            obtain ⟨nn, h⟩ := HNF.out
            exact ⟨nn, (h.setC (p := ⟨R0, 0, none⟩) (fun e => HBN.out.2.2.2.2.2.2.1 e.symm) u1).setC (p := ⟨R0, 1, none⟩) (fun e => HBN.out.2.2.2.2.2.2.1 e.symm) u2⟩
          have hRS : ∀ u1 u2, RMap ((wr.setCell ⟨R0, 0, none⟩ u1).setCell ⟨R0, 1, none⟩ u2) base w.heap.size bl (.slice A2 N2 c2) ids M f := fun u1 u2 => by
            refine ⟨q, j, HQ.out.keep (fun i _ hi _ => ?_), (hM.setC (p := ⟨R0, 0, none⟩) (fun e => HBN.out.2.2.2.2.2.2.2.1 e.symm) u1).setC (p := ⟨R0, 1, none⟩) (fun e => HBN.out.2.2.2.2.2.2.2.1 e.symm) u2, HTP.out⟩
            rw [Below.heap_setCell _ _ _ i (show i ≠ R0 by omega), Below.heap_setCell _ _ _ i (show i ≠ R0 by omega)]
            exact hB.block i hi
          have HSE := Lib.hid (fun (u1 u2 : Value) => ((hB.setCell (p := ⟨R0, 0, none⟩) (by have := HBN.out; simp only; omega) u1).setCell (p := ⟨R0, 1, none⟩) (by have := HBN.out; simp only; omega) u2))
          have HNS := Lib.hid hNS
          have HRS := Lib.hid hRS
          clear hM hNM hX hR hB hNS hRS
          go_wp2_with fail
          refine bodyPost_ret (v := .agg #[.map (some bn), .map (some bl)]) (by simp [results, Tryz.results32, go_sem, *]) rfl ?_
          rw [← HPO.out]
          exact ⟨bn, bl, rfl, Nat.le_of_lt HBN.out.1, Nat.le_of_lt HBN.out.2.1, HNS.out _ _, HRS.out _ _, HSE.out _ _⟩
theorem isLevelP_any (h : Int) (w : World) : Calls Tryz.prog 26 #[.int .i64 h] w fun e w' => e = .returned (.bool (lvB h)) ∧ w = w' := by
  have HL : Hid (lvB h = (decide (0 ≤ h) && decide (h ≤ 16))) := Lib.hid rfl
  generalize lvB h = Z at *
  by_cases h1 : 0 ≤ h
  · by_cases h2 : h ≤ 16
    · have HZ : Hid (Z = true) := Lib.hid (by rw [HL.out]; simp [h1, h2])
      go_enter Tryz.func26, Tryz.ntmps26
      go_wp2_with fail
      go_ret
      exact ⟨ret_bool HZ.out.symm, rfl⟩
    · have HZ : Hid (Z = false) := Lib.hid (by rw [HL.out]; simp [h2])
      go_enter Tryz.func26, Tryz.ntmps26
      go_wp2_with fail
      go_ret
      exact ⟨ret_bool HZ.out.symm, rfl⟩
  · have HZ : Hid (Z = false) := Lib.hid (by rw [HL.out]; simp [h1])
    go_enter Tryz.func26, Tryz.ntmps26
    go_wp2_with fail
    go_ret
    exact ⟨ret_bool HZ.out.symm, rfl⟩
/-- The place of a number in a list of nodes' links. -/
def plcD (k : List Ld) (id : Int) : Nat := k.findIdx (fun x => x.id == id)
def plcDI (k : List Ld) (id : Int) : Int := if plcD k id < k.length then (plcD k id : Int) else -1
theorem plcDI_no {s : List Ld} {id : Int} (h : ∀ j (h : j < s.length), s[j].id ≠ id) : plcDI s id = -1 := by
  unfold plcDI
  rw [if_neg]
  unfold plcD
  rw [List.findIdx_lt_length]
  rintro ⟨x, hx, e⟩
  obtain ⟨j, hj, rfl⟩ := List.getElem_of_mem hx
  exact h j hj (by simpa using e)
theorem plcDI_yes {s : List Ld} {id : Int} {k : Nat} (hk : k < s.length) (h1 : s[k].id = id) (h2 : ∀ j (h : j < k), (s[j]'(by omega)).id ≠ id) : plcDI s id = (k : Int) := by
  have : plcD s id = k := (List.findIdx_eq hk).2 ⟨by simpa using h1, fun j hj => by simpa using h2 j hj⟩
  unfold plcDI; rw [this, if_pos hk]
set_option maxRecDepth 100000 in
theorem litD_any (xi : Int) (A' : Option Addr) (m c' : Nat) (id : Int) (B : Nat) (w : World) (hB : w.cell? ⟨B, 0, none⟩ = some (.int .i64 id)) (hl : B < w.heap.size) :
    Calls Tryz.prog 44 #[.agg #[.int .i64 xi, .slice A' m c'], .pointer (some ⟨B, 0, none⟩)] w fun e w' => e = .returned (.bool (xi == id)) ∧ Below w.heap.size w w' := by
  have hX := Has.new w 56 #[.int .i64 xi, .slice A' m c']
  have x0 := hX.cell 0
  have hb := (Below.refl w.heap.size w).alloc (Nat.le_refl _) (.cells #[.int .i64 xi, .slice A' m c'] 56)
  have hB' := (hb.cell (p := ⟨B, 0, none⟩) hl).trans hB
  clear hX hB
  go_enter Tryz.func44, Tryz.ntmps44
  go_wp2_with fail
  go_ret
  exact ⟨rfl, hb⟩
set_option maxRecDepth 100000 in
set_option maxHeartbeats 1600000 in
theorem idxD_any (A : Option Addr) (l : List Ld) (c : Nat) (id : Int) (B : Nat) (w : World) (hl : Lds w w.heap.size A l) (hn : l.length ≤ 100000) (hB : w.cell? ⟨B, 0, none⟩ = some (.int .i64 id)) (hBl : B < w.heap.size) :
    Calls Tryz.prog 43 #[.slice A l.length c, .func (.func 44) #[] #[.pointer (some ⟨B, 0, none⟩)]] w fun e w' => e = .returned (.int .i64 (plcDI l id)) ∧ Below w.heap.size w w' := by
  have HN := Lib.hid (plcDI_no (s := l) (id := id))
  have HY := Lib.hid (fun (k : Nat) (hk : k < l.length) => plcDI_yes (s := l) (id := id) hk)
  generalize plcDI l id = Z at *
  go_enter Tryz.func43, Tryz.ntmps43
  go_wp2_with fail
  go_loopw [8] (fun i wr => ∃ k : Nat, k ≤ l.length ∧ i = .int .i64 (k : Int) ∧ Below w.heap.size w wr ∧ Hid (∀ j (_ : j < k) (h : j < l.length), l[j].id ≠ id)) (fun i _ => l.length - (intOf i).toNat)
  case atStart => exact ⟨0, Nat.zero_le _, rfl, Below.refl _ _, Lib.hid (fun j h => absurd h (by omega))⟩
  case round =>
    obtain ⟨k, hk, rfl, hb, HK⟩ := hrel
    by_cases hlt : k < l.length
    · obtain ⟨b, o, hA2, hbl, f1, A', c', f2, _, _, _⟩ := hl.at_ hlt
      subst hA2
      replace f1 := (hb.cell (p := ⟨b, o + k * 2, none⟩) hbl).trans f1
      replace f2 := (hb.cell (p := ⟨b, o + k * 2 + 1, none⟩) hbl).trans f2
      have HLK := Lib.hid (HY.out k hlt)
      have HNK := Lib.hid (fun (h : l[k].id ≠ id) (j : Nat) (h1 : j < k + 1) (h2 : j < l.length) => (by
        by_cases e : j = k
        · subst e; exact h
        · exact HK.out j (by omega) h2 : l[j].id ≠ id))
      have HL := Lib.hid (litD_any l[k].id A' l[k].levels.length c' id B wr ((hb.cell (p := ⟨B, 0, none⟩) hBl).trans hB) (Nat.lt_of_lt_of_le hBl hb.size))
      generalize l[k].levels.length = ym at *
      generalize l[k].id = yi at *
      have i0 : (0 : Int) ≤ (k : Int) := by omega
      have i1 : (k : Int) < (l.length : Int) := by omega
      by_cases he : yi = id
      · subst he
        have HZ := Lib.hid (HLK.out rfl fun j h => HK.out j h (by omega))
        have e1 : (yi == yi) = true := by simp
        simp only [e1] at HL
        clear HNK HLK HK HN HY e1
        go_wp2_with fail
        refine (HL.out).mono ?_
        rintro e w2 ⟨rfl, hb2⟩
        go_wp2_with fail
        go_ret
        exact ⟨ret_int HZ.out.symm, hb.trans (hb2.mono hb.size)⟩
      · have HZ := Lib.hid (HNK.out he)
        have e1 : (yi == id) = false := by simpa using he
        simp only [e1] at HL
        clear HNK HLK HK HY e1
        go_wp2_with fail
        refine (HL.out).mono ?_
        rintro e w2 ⟨rfl, hb2⟩
        go_wp2_with fail
        exact ⟨⟨k + 1, hlt, by go_num, hb.trans (hb2.mono hb.size), HZ⟩, by simp [intOf]; omega⟩
    · have HZ := Lib.hid (HN.out fun j h => HK.out j (by omega) h)
      clear HN HY HK
      go_wp2_with fail
      go_ret
      exact ⟨ret_int HZ.out.symm, hb⟩
end
end Go.Proofs.YtjokbdhineilcaaGreatDoor
