/-
  A list of links copied, its elements rows shared, and one of them put anew. No condition.
-/
import Derived.Test.YtjokbdhineilcaaGreatDoorLnC
import Derived.Test.YtjokbdhineilcaaGreatDoorLoA
namespace Go.Proofs.YtjokbdhineilcaaGreatDoor
open Go.RowKit

theorem run_append_empty {P : Program} (w : World) (t ty e : TypeId) (i : TypeInfo) (ht : P.underlying t = some (.slice e)) (hi : P.info? e = some i) (g c : Nat) :
    (Builtin.append_ #[t, t] ty #[.slice (some ⟨g, 0, none⟩) 0 0, .slice none 0 c]).run P w = .ok (.slice (some ⟨g, 0, none⟩) 0 0) w := by
  simp [Builtin.append_, run_underlying ht, sizeOf, typeInfo, hi, Builtin.lenOf, Builtin.firstCells, loadCells, loadCellsFrom, storeCells]
theorem flatK_ones (l : List Lk) : ∀ u ∈ flatK l, u.oneCell' = true := fun u hu => by
  unfold flatK at hu
  obtain ⟨y, _, hy⟩ := List.mem_flatMap.1 hu
  simp at hy
  rcases hy with rfl | rfl <;> rfl
theorem OwnK.empty (w : World) : OwnK (w.alloc (.cells #[] 53)) w.heap.size (.slice (some ⟨w.heap.size, 0, none⟩) 0 0) [] := full_ownK (q := []) (Has.new w _ _) (Nat.le_refl _) rfl (Nat.zero_le _)
/-- A row of links that is read, appended to an empty slice. -/
theorem run_copyK2 {P : Program} (w : World) (t ty : TypeId) (i : TypeInfo) (ht : P.underlying t = some (.slice 53)) (hi : P.info? 53 = some i) (hz : i.zero = some (.agg #[.int .i64 0, .int .i64 0])) (hsize : i.size = 2) (hby : i.bytes = 16)
    (A : Option Addr) (lv : List Lk) (c : Nat) (h : Lks w w.heap.size A lv) (hn : lv.length ≤ 1000000) :
    ∃ v' w', (Builtin.append_ #[t, t] ty #[.slice (some ⟨w.heap.size, 0, none⟩) 0 0, .slice A lv.length c]).run P (w.alloc (.cells #[] 53)) = .ok v' w' ∧ OwnK w' w.heap.size v' lv ∧ Below w.heap.size w w' := by
  have hba := (Below.refl w.heap.size w).alloc (Nat.le_refl _) (.cells #[] 53)
  cases A with
  | none =>
    have hm0 : lv = [] := by
      rcases lv with _ | ⟨x, m⟩
      · rfl
      · obtain ⟨b, o, e, _⟩ := h (by simp)
        cases e
    subst hm0
    exact ⟨_, _, run_append_empty _ t ty _ i ht hi _ c, .empty w, hba⟩
  | some a =>
    obtain ⟨v', w', hr, ho', hg, _, hat⟩ := run_append_own_at (P := P) (w := w.alloc (.cells #[] 53)) w.heap.size t ty 53 i (.agg #[.int .i64 0, .int .i64 0]) 2 16 ht hi hz hsize hby rfl (by decide) _ 0 [] (OwnK.empty w) a lv.length c (flatK lv) (flatK_len lv) (fun j u hj => by
      have h0 : j < (flatK lv).length := (List.getElem?_eq_some_iff.1 hj).1
      rw [flatK_len] at h0
      obtain ⟨b, o, e, hb, c1, c2⟩ := h.at_ (i := j / 2) (by omega)
      have e := Option.some.inj e
      subst e
      obtain ⟨p1, p2⟩ := flatK_at lv (j / 2) (by omega)
      rw [add_at]
      rcases Nat.mod_two_eq_zero_or_one j with e0 | e0
      · rw [show j / 2 * 2 = j by omega] at p1 c1
        rw [p1] at hj
        rw [← hj]
        exact (hba.cell (p := ⟨b, o + j, none⟩) hb).trans c1
      · rw [show j / 2 * 2 + 1 = j by omega] at p2
        rw [show o + j / 2 * 2 + 1 = o + j by omega] at c2
        rw [p2] at hj
        rw [← hj]
        exact (hba.cell (p := ⟨b, o + j, none⟩) hb).trans c2) (flatK_ones lv) (by unfold maxLen; omega) (by omega) (by rw [World.size_alloc]; omega)
    refine ⟨v', w', hr, ?_, hba.trans ((grownBy_row hg (base := w.heap.size) (by rw [World.size_alloc]; omega) (fun k e => by have := Option.some.inj e; simp at this; omega)))⟩
    unfold OwnK
    rw [Nat.zero_add, List.nil_append] at ho'
    exact ho'
/-- A row of nodes' links as it is read: its block at Y or later, the rows of its elements at X or later. -/
def RdE (w : World) (X Y Z : Nat) (v : Value) (ls : List Ld) : Prop := ∃ q : List (Int × Value), LRow w Y v ls.length (flatP q) ∧ q.length = ls.length ∧ ∀ i (h : i < q.length) (h' : i < ls.length), q[i].1 = ls[i].id ∧ OwnK w X q[i].2 ls[i].levels ∧ ∀ k, q[i].2.ownBlock = some k → k < Z
theorem OwnE.toRd {w : World} {X n L : Nat} {v : Value} (h : OwnE w X v n L) : ∃ ls, RdE w X X w.heap.size v ls ∧ ls.length = n ∧ ∀ x ∈ ls, I64 x.id ∧ x.levels.length ≤ L ∧ ∀ y ∈ x.levels, LkW y := by
  obtain ⟨q, h1, h2, h3, h4⟩ := h
  have hch : ∀ i, i < n → ∃ x : Ld, ∃ hq : i < q.length, x.id = q[i].1 ∧ OwnK w X q[i].2 x.levels ∧ (I64 x.id ∧ x.levels.length ≤ L ∧ ∀ y ∈ x.levels, LkW y) := fun i hi => by
    have hq : i < q.length := by omega
    obtain ⟨a, lv, b, c, d, _⟩ := h3 _ (List.getElem_mem hq)
    exact ⟨⟨q[i].1, lv⟩, hq, rfl, b, a, c, d⟩
  obtain ⟨R, hR⟩ := Go.Deep.choose_lt (α := Ld) hch
  have hl : ((List.range n).map R).length = n := by simp
  refine ⟨(List.range n).map R, ⟨q, by rw [hl]; exact h1, by omega, fun i hi hi' => ?_⟩, hl, fun x hx => ?_⟩
  · obtain ⟨hq, e1, ho, _⟩ := hR i (by omega)
    have hge : ((List.range n).map R)[i] = R i := by simp
    rw [hge]
    exact ⟨e1.symm, ho, fun k e => (ho.lt k e).2⟩
  · obtain ⟨i, hi, rfl⟩ := List.mem_map.1 hx
    obtain ⟨_, _, _, hw⟩ := hR i (by simpa using hi)
    exact hw
theorem RdE.keep {w W : World} {X Y Z : Nat} {v : Value} {ls : List Ld} (h : RdE w X Y Z v ls) (k : KpA X w W) (hXY : X ≤ Y) : RdE W X Y Z v ls := by
  obtain ⟨q, h1, h2, h3⟩ := h
  exact ⟨q, h1.keep fun i a b _ => k i (by omega) b, h2, fun i hi hi' => ⟨(h3 i hi hi').1, (h3 i hi hi').2.1.keep k, (h3 i hi hi').2.2⟩⟩
theorem RdE.read {w : World} {X Y Z : Nat} {v : Value} {ls : List Ld} (h : RdE w X Y Z v ls) : ∃ A c, v = .slice A ls.length c ∧ Lds w w.heap.size A ls := by
  obtain ⟨q, h1, h2, h3⟩ := h
  rcases h1.2 with ⟨e1, e2⟩ | ⟨g, cap, cur, e1, hb, hg, hnc, hcm, hcs, htake⟩
  · exact ⟨none, 0, by rw [e2]; exact e1, fun hn => absurd (List.eq_nil_of_length_eq_zero e2) hn⟩
  · subst e1
    refine ⟨_, _, rfl, fun _ => ⟨g, 0, rfl, Has.lt hg, fun i hi => ?_⟩⟩
    have hq : i < q.length := by omega
    obtain ⟨e3, ho, _⟩ := h3 i hq hi
    obtain ⟨p1, p2⟩ := flatP_at q i hq
    obtain ⟨A', c', e4, k1, k2, k3⟩ := ho.readB
    rw [Nat.zero_add, h1.cells _ _ p1, h1.cells _ _ p2, e3, e4]
    exact ⟨by first | rfl | trivial, A', c', by first | rfl | trivial, k1, k2, k3⟩
theorem RdE.ones {w : World} {X Z : Nat} {ls : List Ld} {q : List (Int × Value)} (h2 : q.length = ls.length) (h3 : ∀ i (h : i < q.length) (h' : i < ls.length), q[i].1 = ls[i].id ∧ OwnK w X q[i].2 ls[i].levels ∧ ∀ k, q[i].2.ownBlock = some k → k < Z) : ∀ u ∈ flatP q, u.oneCell' = true := fun u hu => by
  unfold flatP at hu
  obtain ⟨y, hy, hy2⟩ := List.mem_flatMap.1 hu
  obtain ⟨i, hi, rfl⟩ := List.mem_iff_getElem.1 hy
  simp at hy2
  rcases hy2 with rfl | rfl
  · rfl
  · obtain ⟨A, c, e⟩ := OwnK.shape (h3 i hi (by omega)).2.1
    rw [e]
    rfl
/-- The row appended to an empty slice: its elements' rows are shared. -/
theorem run_copyE {P : Program} (w : World) (t ty : TypeId) (i : TypeInfo) (ht : P.underlying t = some (.slice 56)) (hi : P.info? 56 = some i) (hz : i.zero = some (.agg #[.int .i64 0, .slice none 0 0])) (hsize : i.size = 2) (hby : i.bytes = 32)
    {X Y Z : Nat} {v : Value} {ls : List Ld} (h : RdE w X Y Z v ls) (hn : ls.length ≤ 1000000) :
    ∃ v' w', (Builtin.append_ #[t, t] ty #[.slice (some ⟨w.heap.size, 0, none⟩) 0 0, v]).run P (w.alloc (.cells #[] 56)) = .ok v' w' ∧ RdE w' X w.heap.size w.heap.size v' ls ∧ Below w.heap.size w w' := by
  have hba := (Below.refl w.heap.size w).alloc (Nat.le_refl _) (.cells #[] 56)
  obtain ⟨q, h1, h2, h3⟩ := h
  have hlr : LRow (w.alloc (.cells #[] 56)) w.heap.size (.slice (some ⟨w.heap.size, 0, none⟩) 0 0) 0 [] := ⟨rfl, .inr ⟨w.heap.size, 0, #[], rfl, Nat.le_refl _, heap_alloc_new w _, Nat.le_refl _, by unfold maxLen; omega, by simp, rfl⟩⟩
  have hend : ∀ v' w', LRow w' w.heap.size v' ls.length (flatP q) → Below w.heap.size w w' → RdE w' X w.heap.size w.heap.size v' ls := fun v' w' k1 k2 => ⟨q, k1, h2, fun i hi hi' => ⟨(h3 i hi hi').1, (h3 i hi hi').2.1.below k2, fun k e => ((h3 i hi hi').2.1.lt k e).2⟩⟩
  have h1' := h1
  rcases h1'.2 with ⟨rfl, e2⟩ | ⟨g, cap, cur, rfl, hb, hg, hnc, hcm, hcs, htake⟩
  · have hq : q = [] := List.eq_nil_of_length_eq_zero (by omega)
    refine ⟨_, _, run_append_empty _ t ty _ i ht hi _ 0, hend _ _ ?_ hba, hba⟩
    rw [e2, hq]
    exact hlr
  · obtain ⟨v', w', hr, ho, hgr, hat⟩ := run_appendL (P := P) (w.alloc (.cells #[] 56)) w.heap.size t ty i ht hi hz hsize hby _ 0 _ hlr ⟨g, 0, none⟩ ls.length cap (flatP q) (by rw [flatP_len, h2]) (fun j u hj => by
      rw [add_at, Nat.zero_add]
      exact (hba.cell (p := ⟨g, j, none⟩) (Has.lt hg)).trans (h1.cells _ _ hj)) (RdE.ones h2 h3) (by omega) (by rw [World.size_alloc]; omega)
    rw [Nat.zero_add, List.nil_append] at ho
    have hb2 := hba.trans ((grownBy_row hgr (base := w.heap.size) (by rw [World.size_alloc]; omega) (fun k e => by have := Option.some.inj e; simp at this; omega)))
    exact ⟨v', w', hr, hend _ _ ho hb2, hb2⟩
/-- One element's row put anew. -/
theorem RdE.put {w : World} {X Y : Nat} {v : Value} {ls : List Ld} (h : RdE w X Y Y v ls) (hXY : X ≤ Y) {i : Nat} (hi : i < ls.length) : ∃ (G cap : Nat) (A' : Option Addr) (c' : Nat), v = .slice (some ⟨G, 0, none⟩) ls.length cap ∧ Y ≤ G ∧ G < w.heap.size ∧ w.cell? ⟨G, i * 2 + 1, none⟩ = some (.slice A' ls[i].levels.length c') ∧ OwnK w X (.slice A' ls[i].levels.length c') ls[i].levels ∧ (∀ o, w.frozen? ⟨G, o, none⟩ = false) ∧
    ∀ W, KpA X w W → ∀ u lv, OwnK W w.heap.size u lv → ∃ Z, RdE (W.setCell ⟨G, i * 2 + 1, none⟩ u) X Y Z v (ls.set i ⟨ls[i].id, lv⟩) := by
  obtain ⟨q, h1, h2, h3⟩ := h
  have hq : i < q.length := by omega
  have h1' := h1
  rcases h1'.2 with ⟨_, e2⟩ | ⟨G, cap, cur, rfl, hb, hg, hnc, hcm, hcs, htake⟩
  · omega
  obtain ⟨A', c', e1⟩ := OwnK.shape (h3 i hq hi).2.1
  refine ⟨G, cap, A', c', rfl, hb, Has.lt hg, ?_, ?_, fun o => Has.frozen hg o, fun W k u lv hu => ⟨max Y W.heap.size, q.set i (q[i].1, u), ?_, by simp [h2], fun j hj hj' => ?_⟩⟩
  · rw [← e1]; exact h1.cells _ _ (flatP_at q i hq).2
  · rw [← e1]; exact (h3 i hq hi).2.1
  · have hg1 : W.heap[G]? = some (.cells cur 56 (0, 0)) := (k G (by omega) (Has.lt hg)).trans hg
    have hg2 := Has.set_ (t := 56) hg1 (i * 2 + 1) u
    rw [List.length_set]
    refine ⟨?_, .inr ⟨G, cap, _, rfl, hb, hg2, hnc, hcm, by simpa using hcs, ?_⟩⟩
    · rw [flatP_len, List.length_set]; omega
    · rw [Array.toList_setIfInBounds, List.take_set, htake, flatP_set1]
  · have hfar : ∀ b, b ≠ G → (W.setCell ⟨G, i * 2 + 1, none⟩ u).heap[b]? = W.heap[b]? := fun b hb => Below.heap_setCell W _ u b hb
    rw [List.length_set] at hj hj'
    by_cases hji : i = j
    · subst hji
      simp only [List.getElem_set_self]
      have hGl := Has.lt hg
      refine ⟨(h3 i hq hi).1, own_lessK (hu.blk fun b hb1 _ _ => hfar b (by omega)) (by omega), fun r e => ?_⟩
      have := (hu.lt r e).2
      omega
    · simp only [List.getElem_set_ne hji]
      obtain ⟨a1, a2, a3⟩ := h3 j hj hj'
      refine ⟨a1, (a2.keep k).blk fun b _ _ hbb => hfar b (fun e => ?_), fun r e => by have := a3 r e; omega⟩
      have := a3 b hbb
      omega
/-- Further links at an element: what is asked of it stays. -/
theorem find_set : ∀ (k : List Ld) (i : Nat) (hi : i < k.length) (q : List Lk) (a : Int), (k.set i ⟨k[i].id, q⟩).find? (fun x => decide (x.id = a)) = k.find? (fun x => decide (x.id = a)) ∨ (k.find? (fun x => decide (x.id = a)) = some k[i] ∧ (k.set i ⟨k[i].id, q⟩).find? (fun x => decide (x.id = a)) = some ⟨k[i].id, q⟩)
  | [], _, hi, _, _ => by simp at hi
  | x :: k, 0, hi, q, a => by
    by_cases h : x.id = a
    · right
      simp [h]
    · left
      simp [h]
  | x :: k, i + 1, hi, q, a => by
    by_cases h : x.id = a
    · left
      simp [h]
    · have := find_set k i (by simpa using hi) q a
      simpa [h] using this
theorem at_more (k : List Ld) (i : Nat) (hi : i < k.length) (y : Lk) (a : Int) (t : Nat) : atV k a (t : Int) = ⟨0, 0⟩ ∨ atV (k.set i ⟨k[i].id, k[i].levels ++ [y]⟩) a (t : Int) = atV k a (t : Int) := by
  rcases find_set k i hi (k[i].levels ++ [y]) a with h | ⟨h1, h2⟩
  · right
    unfold atV
    rw [h]
  · unfold atV
    rw [h1, h2]
    simp only [Int.toNat_natCast]
    rw [if_pos (by omega), if_pos (by omega)]
    rcases Nat.lt_or_ge t k[i].levels.length with h3 | h3
    · right
      rw [List.getElem?_append_left h3]
    · left
      rw [List.getElem?_eq_none h3]
      rfl
theorem wpList_copyK2 {P : Program} {ops : Array Oper} {rest : List Oper} {o : Oper} {a : Act} {Q : Exit → Act → World → Prop} (hgd : o.guard = none) (s x : Operand) (t : TypeId)
    (ho : o.op = .call { callee := .builtin .append, args := #[s, x], argTypes := #[t, t] })
    (i : TypeInfo) (ht : P.underlying t = some (.slice 53)) (hi : P.info? 53 = some i) (hz : i.zero = some (.agg #[.int .i64 0, .int .i64 0])) (hsize : i.size = 2) (hby : i.bytes = 16)
    (w : World) (A : Option Addr) (lv : List Lk) (c : Nat) (hl : Lks w w.heap.size A lv) (hn : lv.length ≤ 1000000) (hs : a.eval s = .slice (some ⟨w.heap.size, 0, none⟩) 0 0) (hx : a.eval x = .slice A lv.length c)
    (h : ∀ v' w', OwnK w' w.heap.size v' lv → Below w.heap.size w w' → wpList P ops Q rest (a.put o.dst v') w') : wpList P ops Q (o :: rest) a (w.alloc (.cells #[] 53)) := by
  refine wpList_plain hgd fun K hK => ?_
  obtain ⟨v', w', hr, h2, h3⟩ := run_copyK2 (P := P) w t o.type i ht hi hz hsize hby A lv c hl hn
  unfold Oper.wp execOp
  simp only [ho, resolve, invoke, builtin, Sem.run_bind, Sem.run_pure, Result.andThen_ok, List.map_toArray, List.map_cons, List.map_nil, hs, hx, hr]
  exact hK _ _ (h v' w' h2 h3)
theorem step_copyK2 {P : Program} {ops : Array Oper} {o : Oper} {a : Act} {K : Act → World → Prop} {Q : Exit → Act → World → Prop} {E : Prop} (hgd : o.guard = none) (s x : Operand) (t : TypeId)
    (ho : o.op = .call { callee := .builtin .append, args := #[s, x], argTypes := #[t, t] })
    (i : TypeInfo) (ht : P.underlying t = some (.slice 53)) (hi : P.info? 53 = some i) (hz : i.zero = some (.agg #[.int .i64 0, .int .i64 0])) (hsize : i.size = 2) (hby : i.bytes = 16)
    (w : World) (A : Option Addr) (lv : List Lk) (c : Nat) (hl : Lks w w.heap.size A lv) (hn : lv.length ≤ 1000000) (hs : a.eval s = .slice (some ⟨w.heap.size, 0, none⟩) 0 0) (hx : a.eval x = .slice A lv.length c)
    (h : ∀ v' w', OwnK w' w.heap.size v' lv → Below w.heap.size w w' → K (a.put o.dst v') w') :
    if Region.wanted o (yielded ops a.tmps) = true then Oper.wp P o a (w.alloc (.cells #[] 53)) K Q else E := by
  have hw : Region.wanted o (yielded ops a.tmps) = true := by simp [Region.wanted, hgd]
  rw [if_pos hw]
  obtain ⟨v', w', hr, h2, h3⟩ := run_copyK2 (P := P) w t o.type i ht hi hz hsize hby A lv c hl hn
  unfold Oper.wp execOp
  simp only [ho, resolve, invoke, builtin, Sem.run_bind, Sem.run_pure, Result.andThen_ok, List.map_toArray, List.map_cons, List.map_nil, hs, hx, hr]
  exact h v' w' h2 h3
theorem wpList_copyE {P : Program} {ops : Array Oper} {rest : List Oper} {o : Oper} {a : Act} {Q : Exit → Act → World → Prop} (hgd : o.guard = none) (s x : Operand) (t : TypeId)
    (ho : o.op = .call { callee := .builtin .append, args := #[s, x], argTypes := #[t, t] })
    (i : TypeInfo) (ht : P.underlying t = some (.slice 56)) (hi : P.info? 56 = some i) (hz : i.zero = some (.agg #[.int .i64 0, .slice none 0 0])) (hsize : i.size = 2) (hby : i.bytes = 32)
    (w : World) {X Y Z : Nat} {v : Value} {ls : List Ld} (hr : RdE w X Y Z v ls) (hn : ls.length ≤ 1000000) (hs : a.eval s = .slice (some ⟨w.heap.size, 0, none⟩) 0 0) (hx : a.eval x = v)
    (h : ∀ v' w', RdE w' X w.heap.size w.heap.size v' ls → Below w.heap.size w w' → wpList P ops Q rest (a.put o.dst v') w') : wpList P ops Q (o :: rest) a (w.alloc (.cells #[] 56)) := by
  refine wpList_plain hgd fun K hK => ?_
  obtain ⟨v', w', hr, h2, h3⟩ := run_copyE (P := P) w t o.type i ht hi hz hsize hby hr hn
  unfold Oper.wp execOp
  simp only [ho, resolve, invoke, builtin, Sem.run_bind, Sem.run_pure, Result.andThen_ok, List.map_toArray, List.map_cons, List.map_nil, hs, hx, hr]
  exact hK _ _ (h v' w' h2 h3)
end Go.Proofs.YtjokbdhineilcaaGreatDoor
