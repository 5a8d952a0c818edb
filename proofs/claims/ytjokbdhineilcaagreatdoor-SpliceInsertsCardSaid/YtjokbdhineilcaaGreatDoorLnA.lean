/-
  A row of nodes' links that is changed in place: its block may be larger than its capacity, its elements' rows are the call's own and lie apart. No condition.
  What changes a row of nodes' links: an element's links put anew, cut short, one number set; an element cut out, one appended. No condition.
-/
import Derived.Test.YtjokbdhineilcaaGreatDoorKmL
import Derived.Test.YtjokbdhineilcaaGreatDoorLwN
import Derived.Test.YtjokbdhineilcaaGreatDoorKwU
namespace Go.Proofs.YtjokbdhineilcaaGreatDoor
section
open Go.RowKit

def I64 (z : Int) : Prop := -9223372036854775808 ≤ z ∧ z ≤ 9223372036854775807
def LkW (y : Lk) : Prop := I64 y.left ∧ I64 y.right
/-- A row of elements of two cells in a block that may be larger than the row's capacity. -/
def LRow (w : World) (base : Nat) (v : Value) (n : Nat) (xs : List Value) : Prop :=
  xs.length = n * 2 ∧ ((v = .slice none 0 0 ∧ n = 0) ∨ ∃ g cap cur, v = .slice (some ⟨g, 0, none⟩) n cap ∧ base ≤ g ∧ w.heap[g]? = some (.cells cur 56 (0, 0)) ∧ n ≤ cap ∧ cap ≤ maxLen ∧ cap * 2 ≤ cur.size ∧ cur.toList.take (n * 2) = xs)
theorem LRow.of {w : World} {base : Nat} {v : Value} {n : Nat} {xs : List Value} (h : w.ownsRow base 56 2 v n xs) : LRow w base v n xs := by
  obtain ⟨h1, h2 | ⟨g, cap, cur, k1, k2, k3, k4, k5, k6, k7⟩⟩ := h
  · exact ⟨h1, .inl h2⟩
  · exact ⟨h1, .inr ⟨g, cap, cur, k1, k2, k3, k4, k5, by omega, k7⟩⟩
theorem LRow.cells {w : World} {base : Nat} {g n cap : Nat} {xs : List Value} (h : LRow w base (.slice (some ⟨g, 0, none⟩) n cap) n xs) : ∀ j u, xs[j]? = some u → w.cell? ⟨g, j, none⟩ = some u := by
  obtain ⟨h1, ⟨e, _⟩ | ⟨g', cap', cur, k1, k2, k3, k4, k5, k6, k7⟩⟩ := h
  · cases e
  · injection k1 with e1 _ e2
    injection e1 with e1
    injection e1 with e1
    subst e1 e2
    intro j u hj
    rw [Has.cell k3, ← Array.getElem?_toList]
    rw [← k7, List.getElem?_take] at hj
    split at hj
    · exact hj
    · cases hj
section
variable {P : Program}
theorem run_appendL (w : World) (base : Nat) (t ty : TypeId) (i : TypeInfo) (ht : P.underlying t = some (.slice 56)) (hi : P.info? 56 = some i) (hz : i.zero = some (.agg #[.int .i64 0, .slice none 0 0])) (hsize : i.size = 2) (hby : i.bytes = 32)
    (v : Value) (n : Nat) (xs : List Value) (hown : LRow w base v n xs)
    (a : Addr) (m c : Nat) (news : List Value) (hl : news.length = m * 2) (hnews : ∀ j u, news[j]? = some u → w.cell? (a.add j) = some u) (h1 : ∀ u ∈ news, u.oneCell' = true)
    (h63 : n + m ≤ 1000000) (hbase : base ≤ w.heap.size) :
    ∃ v' w', (Builtin.append_ #[t, t] ty #[v, .slice (some a) m c]).run P w = .ok v' w' ∧ LRow w' base v' (n + m) (xs ++ news) ∧ w.grownBy w' v.ownBlock ∧ (v'.ownBlock = v.ownBlock ∨ v'.ownBlock = some w.heap.size) := by
  have hmx : n + m ≤ maxLen := by unfold maxLen; omega
  have hlen : (xs ++ news).length = (n + m) * 2 := by rw [List.length_append, hown.1, hl, Nat.add_mul]
  have hzs : (Value.agg #[.int .i64 0, .slice none 0 0]).cells.size = 2 := rfl
  have grown : ∀ (old : Nat), old < n + m → ∀ (row : Option Nat),
      LRow (w.drew.alloc (.cells (xs.toArray ++ news.toArray ++ Builtin.zeroCells (Value.agg #[.int .i64 0, .slice none 0 0]).cells (grownCap w (n + m) old 56 - (n + m))) 56)) base
        (.slice (some ⟨w.heap.size, 0, none⟩) (n + m) (grownCap w (n + m) old 56)) (n + m) (xs ++ news) ∧
      w.grownBy (w.drew.alloc (.cells (xs.toArray ++ news.toArray ++ Builtin.zeroCells (Value.agg #[.int .i64 0, .slice none 0 0]).cells (grownCap w (n + m) old 56 - (n + m))) 56)) row := by
    intro old ho row
    have hge := grownCap_ge w (n + m) old 56
    have hcm : grownCap w (n + m) old 56 ≤ maxLen := grownCap_le_maxLen w (n + m) old 56 hmx
    refine ⟨⟨hlen, .inr ⟨w.heap.size, _, _, rfl, hbase, heap_alloc_new w.drew _, hge, hcm, ?_, ?_⟩⟩, ⟨rfl, rfl, rfl, by simp, fun k hk _ => heap_alloc_old w.drew _ hk⟩⟩
    · simp only [Array.size_append, List.size_toArray, size_zeroCells, hzs, hown.1, hl, ← Nat.add_mul]
      exact Nat.mul_le_mul_right _ (by omega)
    · simp only [Array.toList_append, List.append_assoc]
      rw [← List.append_assoc, ← hlen]
      exact List.take_left
  rcases hown.2 with ⟨rfl, rfl⟩ | ⟨g, cap, cur, rfl, hbg, hg, hnc, hcm, hcs, htake⟩
  · have hx : xs = [] := List.eq_nil_of_length_eq_zero (by simpa using hown.1)
    subst hx
    by_cases hm : m = 0
    · subst hm
      have hn : news = [] := List.eq_nil_of_length_eq_zero (by simpa using hl)
      subst hn
      refine ⟨.slice none 0 0, w, ?_, ⟨by simp, .inl ⟨rfl, rfl⟩⟩, ⟨rfl, rfl, rfl, Nat.le_refl _, fun _ _ _ => rfl⟩, Or.inl rfl⟩
      simp [Builtin.append_, run_underlying ht, sizeOf, typeInfo, hi, Builtin.lenOf, Builtin.firstCells, loadCells, loadCellsFrom]
    · have hr := run_append_nil (P := P) w t ty 56 i _ ht hi hz a m c news (by rw [hsize]; exact hl) hnews (by omega) (by omega) (by rw [hby]; omega)
      have hgr := grown 0 (by omega) (Value.ownBlock (.slice none 0 0))
      simp only [Nat.zero_add, List.nil_append, Array.empty_append] at hgr ⊢
      exact ⟨_, _, hr, hgr.1, hgr.2, Or.inr rfl⟩
  · by_cases hroom : n + m ≤ cap
    · have hfit : n * i.size + news.length ≤ cur.size := by rw [hl, hsize]; omega
      have hr := run_append_room (P := P) w t ty 56 i ht hi g n cap cur hg a m c news (by rw [hsize]; exact hl) hnews h1 hroom hfit
      rw [hsize] at hr hfit
      refine ⟨_, _, hr, ⟨hlen, .inr ⟨g, cap, _, rfl, hbg, setRow_heap w g cur _ 56 _ hg, hroom, hcm, ?_, ?_⟩⟩, ⟨rfl, rfl, rfl, by simp, fun k _ hk => setRow_other w g k _ (fun e => hk (by simp [Value.ownBlock, e]))⟩, Or.inl rfl⟩
      · simp only [List.size_toArray, List.length_append, List.length_take, List.length_drop, Array.length_toList]
        omega
      · rw [htake, ← hlen]
        exact List.take_left
    · have holds : ∀ j u, xs[j]? = some u → w.cell? ((⟨g, 0, none⟩ : Addr).add j) = some u := fun j u hj => by
        rw [add_at, Nat.zero_add]
        exact hown.cells j u hj
      have hr := run_append_grow (P := P) w t ty 56 i _ ht hi hz ⟨g, 0, none⟩ n cap xs (by rw [hsize]; exact hown.1) holds a m c news (by rw [hsize]; exact hl) hnews (by omega) (by omega) (growslice_fits (by omega) (by rw [hby]; omega))
      have hgr := grown cap (by omega) (Value.ownBlock (.slice (some ⟨g, 0, none⟩) n cap))
      exact ⟨_, _, hr, hgr.1, hgr.2, Or.inr rfl⟩
end
theorem OwnK.blk {w w' : World} {base : Nat} {v : Value} {l : List Lk} (h : OwnK w base v l) (k : ∀ i, base ≤ i → i < w.heap.size → v.ownBlock = some i → w'.heap[i]? = w.heap[i]?) : OwnK w' base v l := by
  obtain ⟨h1, h2 | ⟨g, cap, cur, h3, h4, h5, h6⟩⟩ := h
  · exact ⟨h1, .inl h2⟩
  · exact ⟨h1, .inr ⟨g, cap, cur, h3, h4, (k g h4 (Has.lt h5) (by rw [h3]; rfl)).trans h5, h6⟩⟩
/-- One element of a row: a number, and a row of at most L links of its own. -/
def EltE (w : World) (base : Nat) (v : Value) (L : Nat) (x : Int × Value) : Prop :=
  I64 x.1 ∧ ∃ lv, OwnK w base x.2 lv ∧ lv.length ≤ L ∧ (∀ y ∈ lv, LkW y) ∧ (x.2.ownBlock = none ∨ x.2.ownBlock ≠ v.ownBlock)
def DisE (a b : Int × Value) : Prop := a.2.ownBlock = none ∨ a.2.ownBlock ≠ b.2.ownBlock
theorem DisE.symm {a b : Int × Value} (h : DisE a b) : DisE b a := by
  unfold DisE at *
  rcases h with h | h
  · cases hb : b.2.ownBlock with
    | none => exact .inl rfl
    | some k => exact .inr (by rw [h]; exact fun e => by cases e)
  · exact .inr (Ne.symm h)
/-- A row of n nodes' links of the call's own, each with its own row of at most L links, all numbers within bounds. -/
def OwnE (w : World) (base : Nat) (v : Value) (n L : Nat) : Prop :=
  ∃ q : List (Int × Value), LRow w base v n (flatP q) ∧ q.length = n ∧ (∀ x ∈ q, EltE w base v L x) ∧ q.Pairwise DisE
theorem LRow.keep {w w' : World} {base : Nat} {v : Value} {n : Nat} {xs : List Value} (h : LRow w base v n xs) (k : ∀ i, base ≤ i → i < w.heap.size → v.ownBlock = some i → w'.heap[i]? = w.heap[i]?) : LRow w' base v n xs := by
  obtain ⟨h1, h2 | ⟨g, cap, cur, k1, k2, k3, k4⟩⟩ := h
  · exact ⟨h1, .inl h2⟩
  · exact ⟨h1, .inr ⟨g, cap, cur, k1, k2, (k g k2 (Has.lt k3) (by rw [k1]; rfl)).trans k3, k4⟩⟩
theorem EltE.keep {w w' : World} {base L L' : Nat} {v v' : Value} {x : Int × Value} (h : EltE w base v L x) (hL : L ≤ L') (k : ∀ i, base ≤ i → i < w.heap.size → x.2.ownBlock = some i → w'.heap[i]? = w.heap[i]?) (hv : v'.ownBlock = v.ownBlock ∨ ∃ k, w.heap.size ≤ k ∧ v'.ownBlock = some k) : EltE w' base v' L' x := by
  obtain ⟨h1, lv, h2, h3, h4, h5⟩ := h
  refine ⟨h1, lv, h2.blk k, by omega, h4, ?_⟩
  rcases hv with e | ⟨p, hp, e⟩
  · rw [e]; exact h5
  · cases hb : x.2.ownBlock with
    | none => exact .inl rfl
    | some r =>
      refine .inr fun e2 => ?_
      rw [e] at e2
      have := (h2.lt r hb).2
      have := Option.some.inj e2
      omega
section
variable {w w' : World} {base : Nat} {v : Value} {n L : Nat}
theorem OwnE.keep (h : OwnE w base v n L) (hg : ∀ i, base ≤ i → i < w.heap.size → w'.heap[i]? = w.heap[i]?) : OwnE w' base v n L := by
  obtain ⟨q, h1, h2, h3, h4⟩ := h
  exact ⟨q, h1.keep fun i a b _ => hg i a b, h2, fun x hx => (h3 x hx).keep (Nat.le_refl _) (fun i a b _ => hg i a b) (.inl rfl), h4⟩
theorem OwnE.below (h : OwnE w base v n L) (k : Below w.heap.size w w') : OwnE w' base v n L := h.keep fun i _ hi => k.block i hi
theorem OwnE.step {g : Nat} (h : OwnE w base v n L) (hg : g < base) (k : TStep w g w') : OwnE w' base v n L := h.keep fun i h1 hi => k.2.block i hi (fun e => by have := Option.some.inj e; omega)
theorem OwnE.more {L' : Nat} (h : OwnE w base v n L) (hL : L ≤ L') : OwnE w base v n L' := by
  obtain ⟨q, h1, h2, h3, h4⟩ := h
  exact ⟨q, h1, h2, fun x hx => (h3 x hx).keep hL (fun _ _ _ _ => rfl) (.inl rfl), h4⟩
theorem OwnE.nil (w : World) (base L : Nat) : OwnE w base (.slice none 0 0) 0 L := ⟨[], ⟨rfl, .inl ⟨rfl, rfl⟩⟩, rfl, by simp, List.Pairwise.nil⟩
theorem OwnE.shape (h : OwnE w base v n L) : ∃ A c, v = .slice A n c := by
  obtain ⟨q, h1, _⟩ := h
  rcases h1.2 with ⟨rfl, h0⟩ | ⟨g, cap, cur, rfl, _⟩
  · exact ⟨none, 0, by rw [h0]⟩
  · exact ⟨_, cap, rfl⟩
theorem OwnD.toE {ls : List Ld} (h : OwnD w base v ls) (hw : ∀ x ∈ ls, I64 x.id ∧ x.levels.length ≤ L ∧ ∀ y ∈ x.levels, LkW y) : OwnE w base v ls.length L := by
  obtain ⟨q, h1, h2, h3, h4⟩ := h
  refine ⟨q, .of h1, h2, fun x hx => ?_, List.pairwise_iff_getElem.2 fun i j hi hj hij => h4 i j hi hj (by omega)⟩
  obtain ⟨i, hi, rfl⟩ := List.mem_iff_getElem.1 hx
  have hi2 : i < ls.length := by omega
  obtain ⟨a, b, c⟩ := hw _ (List.getElem_mem hi2)
  obtain ⟨e1, e2, e3⟩ := h3 i hi hi2
  exact ⟨by rw [e1]; exact a, _, e2, b, c, e3⟩
/-- What a row is as it is read. -/
theorem OwnE.read (h : OwnE w base v n L) : ∃ (A : Option Addr) (c : Nat) (ls : List Ld), v = .slice A ls.length c ∧ ls.length = n ∧ n ≤ c ∧ c ≤ maxLen ∧ Lds w w.heap.size A ls ∧ (∀ x ∈ ls, I64 x.id ∧ x.levels.length ≤ L ∧ ∀ y ∈ x.levels, LkW y) := by
  obtain ⟨q, h1, h2, h3, h4⟩ := h
  have hch : ∀ i, i < n → ∃ x : Ld, ∃ hq : i < q.length, x.id = q[i].1 ∧ OwnK w base q[i].2 x.levels ∧ (I64 x.id ∧ x.levels.length ≤ L ∧ ∀ y ∈ x.levels, LkW y) := fun i hi => by
    have hq : i < q.length := by omega
    obtain ⟨a, lv, b, c, d, _⟩ := h3 _ (List.getElem_mem hq)
    exact ⟨⟨q[i].1, lv⟩, hq, rfl, b, a, c, d⟩
  obtain ⟨R, hR⟩ := Go.Deep.choose_lt (α := Ld) hch
  have hl : ((List.range n).map R).length = n := by simp
  rcases h1.2 with ⟨rfl, rfl⟩ | ⟨g, cap, cur, rfl, hb, hg, hnc, hcm, hcs, htake⟩
  · exact ⟨none, 0, [], rfl, rfl, Nat.le_refl _, by unfold maxLen; omega, fun hn => absurd rfl hn, fun x hx => by cases hx⟩
  · refine ⟨some ⟨g, 0, none⟩, cap, (List.range n).map R, by rw [hl], hl, hnc, hcm, fun _ => ⟨g, 0, rfl, Has.lt hg, fun i hi => ?_⟩, fun x hx => ?_⟩
    · have hi' : i < n := by omega
      obtain ⟨hq, e1, ho, _⟩ := hR i hi'
      obtain ⟨p1, p2⟩ := flatP_at q i hq
      obtain ⟨A', c', e2, k1, k2, k3⟩ := ho.readB
      have hge : ((List.range n).map R)[i] = R i := by simp
      rw [Nat.zero_add, h1.cells _ _ p1, h1.cells _ _ p2, hge, e1, e2]
      exact ⟨by first | rfl | trivial, A', c', by first | rfl | trivial, k1, k2, k3⟩
    · obtain ⟨i, hi, rfl⟩ := List.mem_map.1 hx
      obtain ⟨_, _, _, hw⟩ := hR i (by simpa using hi)
      exact hw
end
end
section
open Go.RowKit

theorem flatP_set1 : ∀ (l : List (Int × Value)) (i : Nat) (h : i < l.length) (u : Value), (flatP l).set (i * 2 + 1) u = flatP (l.set i (l[i].1, u))
  | [], _, h, _ => by simp at h
  | x :: l, 0, _, u => rfl
  | x :: l, i + 1, h, u => by
    have h' : i < l.length := by simpa using h
    have ih := flatP_set1 l i h' u
    rw [show (i + 1) * 2 + 1 = i * 2 + 1 + 1 + 1 by omega]
    show Value.int .i64 x.1 :: x.2 :: ((flatP l).set (i * 2 + 1) u) = Value.int .i64 x.1 :: x.2 :: flatP (l.set i (l[i].1, u))
    rw [ih]
theorem flatP_take : ∀ (l : List (Int × Value)) (k : Nat), (flatP l).take (k * 2) = flatP (l.take k)
  | [], k => by simp [flatP]
  | x :: l, 0 => by simp [flatP]
  | x :: l, k + 1 => by
    rw [show (k + 1) * 2 = k * 2 + 1 + 1 by omega]
    show Value.int .i64 x.1 :: x.2 :: ((flatP l).take (k * 2)) = Value.int .i64 x.1 :: x.2 :: flatP (l.take k)
    rw [flatP_take l k]
theorem flatP_drop : ∀ (l : List (Int × Value)) (k : Nat), (flatP l).drop (k * 2) = flatP (l.drop k)
  | [], k => by simp [flatP]
  | x :: l, 0 => by simp
  | x :: l, k + 1 => by
    rw [show (k + 1) * 2 = k * 2 + 1 + 1 by omega]
    show (flatP l).drop (k * 2) = flatP (l.drop k)
    rw [flatP_drop l k]
def KpE (base : Nat) (u : Value) (w w1 : World) : Prop := ∀ j, base ≤ j → j < w.heap.size → u.ownBlock ≠ some j → w1.heap[j]? = w.heap[j]?
section
variable {w : World} {base : Nat} {v : Value} {n L : Nat}
def PutE (w : World) (base : Nat) (v : Value) (n L G i : Nat) (u : Value) : Prop :=
  ∀ w1 u' lv', KpE base u w w1 → OwnK w1 base u' lv' → lv'.length ≤ L + 1 → (∀ y ∈ lv', LkW y) → (u'.ownBlock = u.ownBlock ∨ ∃ k, w.heap.size ≤ k ∧ u'.ownBlock = some k) → OwnE (w1.setCell ⟨G, i * 2 + 1, none⟩ u') base v n (L + 1)
def InE (w : World) (base : Nat) (v : Value) (n L : Nat) (u : Value) : Prop :=
  ∀ w1 lv', KpE base u w w1 → OwnK w1 base u lv' → lv'.length ≤ L → (∀ y ∈ lv', LkW y) → OwnE w1 base v n L
theorem DisE.ne {a b : Int × Value} {j : Nat} (h : DisE a b) (hb : b.2.ownBlock = some j) : a.2.ownBlock ≠ some j := by
  rcases h with h | h
  · rw [h]; exact fun e => by cases e
  · rw [hb] at h; exact h
theorem OwnE.at_ (h : OwnE w base v n L) {i : Nat} (hi : i < n) : ∃ (G cap : Nat) (u : Value) (lv : List Lk), v = .slice (some ⟨G, 0, none⟩) n cap ∧ base ≤ G ∧ G < w.heap.size ∧ n ≤ cap ∧ cap ≤ maxLen ∧ w.cell? ⟨G, i * 2 + 1, none⟩ = some u ∧ OwnK w base u lv ∧ lv.length ≤ L ∧ (∀ y ∈ lv, LkW y) ∧ u.ownBlock ≠ some G ∧ (∀ o, w.frozen? ⟨G, o, none⟩ = false) ∧ PutE w base v n L G i u ∧ InE w base v n L u := by
  obtain ⟨q, h1, h2, h3, h4⟩ := h
  have hq : i < q.length := by omega
  have h1' := h1
  obtain ⟨h10, ⟨_, h0⟩ | ⟨G, cap, cur, rfl, hb, hg, hnc, hcm, hcs, htake⟩⟩ := h1'
  · omega
  obtain ⟨e1, lv, e2, e3, e4, e5⟩ := h3 _ (List.getElem_mem hq)
  have hG : q[i].2.ownBlock ≠ some G := by
    rcases e5 with e | e
    · rw [e]; exact fun e => by cases e
    · exact e
  have h4' := List.pairwise_iff_getElem.1 h4
  have hdis : ∀ j (hj : j < q.length), j ≠ i → DisE q[i] q[j] := fun j hj hne => by
    rcases Nat.lt_or_gt_of_ne hne with h5 | h5
    · exact (h4' j i hj hq h5).symm
    · exact h4' i j hq hj h5
  refine ⟨G, cap, q[i].2, lv, rfl, hb, Has.lt hg, hnc, hcm, h1.cells _ _ (flatP_at q i hq).2, e2, e3, e4, hG, fun o => Has.frozen hg o, ?_, ?_⟩
  · intro w1 u' lv' hk ho hl hw hat
    have hg1 : w1.heap[G]? = some (.cells cur 56 (0, 0)) := (hk G hb (Has.lt hg) hG).trans hg
    have hg2 := Has.set_ (t := 56) hg1 (i * 2 + 1) u'
    have hu'G : u'.ownBlock ≠ some G := by
      rcases hat with e | ⟨k, hk2, e⟩
      · rw [e]; exact hG
      · rw [e]; intro e; have := Option.some.inj e; have := Has.lt hg; omega
    have hfar : ∀ b, b ≠ G → (w1.setCell ⟨G, i * 2 + 1, none⟩ u').heap[b]? = w1.heap[b]? := fun b hb => Below.heap_setCell w1 _ u' b hb
    refine ⟨q.set i (q[i].1, u'), ⟨?_, .inr ⟨G, cap, _, rfl, hb, hg2, hnc, hcm, by simpa using hcs, ?_⟩⟩, by rw [List.length_set]; exact h2, fun x hx => ?_, List.pairwise_iff_getElem.2 fun j k hj hk2 hjk => ?_⟩
    · rw [flatP_len, List.length_set]; omega
    · rw [Array.toList_setIfInBounds, List.take_set, htake, flatP_set1]
    · obtain ⟨j, hj, rfl⟩ := List.mem_iff_getElem.1 hx
      rw [List.length_set] at hj
      by_cases hji : i = j
      · subst hji
        rw [List.getElem_set_self]
        exact ⟨e1, lv', ho.blk (fun b _ _ hbb => hfar b (fun e => hu'G (e ▸ hbb))), hl, hw, .inr hu'G⟩
      · rw [List.getElem_set_ne hji]
        refine (h3 _ (List.getElem_mem hj)).keep (Nat.le_succ _) (fun b hb1 hb2 hbb => ?_) (.inl rfl)
        have hne : b ≠ G := by
          obtain ⟨_, _, _, _, _, e⟩ := h3 _ (List.getElem_mem hj)
          rcases e with e | e
          · rw [e] at hbb; cases hbb
          · intro e2; subst e2; exact e hbb
        rw [hfar b hne]
        exact hk b hb1 hb2 ((hdis j hj (Ne.symm hji)).ne hbb)
    · rw [List.length_set] at hj hk2
      have hnew : ∀ (p : Nat) (hp : p < q.length), p ≠ i → DisE q[p] (q[i].1, u') := fun p hp hpi => by
        rcases hat with e | ⟨k, hk3, e⟩
        · have := (hdis p hp hpi).symm
          unfold DisE at this ⊢
          simp only [e]
          exact this
        · cases hbb : q[p].2.ownBlock with
          | none => exact .inl hbb
          | some r =>
            refine .inr fun e2 => ?_
            obtain ⟨_, lvp, e7, _⟩ := h3 _ (List.getElem_mem hp)
            have := (e7.lt r hbb).2
            rw [hbb] at e2
            simp only [e] at e2
            have := Option.some.inj e2
            omega
      by_cases hji : i = j
      · subst hji
        rw [List.getElem_set_self, List.getElem_set_ne (by omega)]
        exact (hnew k hk2 (by omega)).symm
      · rw [List.getElem_set_ne hji]
        by_cases hki : i = k
        · subst hki
          rw [List.getElem_set_self]
          exact hnew j hj (by omega)
        · rw [List.getElem_set_ne hki]
          exact h4' j k hj hk2 hjk
  · intro w1 lv' hk ho hl hw
    refine ⟨q, h1.keep fun b hb1 hb2 hbb => hk b hb1 hb2 (fun e => hG (by rw [e, ← hbb]; rfl)), h2, fun x hx => ?_, h4⟩
    obtain ⟨j, hj, rfl⟩ := List.mem_iff_getElem.1 hx
    by_cases hji : j = i
    · subst hji
      exact ⟨e1, lv', ho, hl, hw, e5⟩
    · exact (h3 _ (List.getElem_mem hj)).keep (Nat.le_refl _) (fun b hb1 hb2 hbb => hk b hb1 hb2 ((hdis j hj hji).ne hbb)) (.inl rfl)
/-- An element's links are cut short. -/
theorem OwnK.cut {w : World} {base : Nat} {u : Value} {lv : List Lk} (h : OwnK w base u lv) {r : Nat} (hr : r ≤ lv.length) : ∃ A c, u = .slice A lv.length c ∧ lv.length ≤ c ∧ c ≤ maxLen ∧ OwnK w base (.slice A r c) (lv.take r) ∧ (Value.slice A r c).ownBlock = u.ownBlock := by
  obtain ⟨h1, ⟨rfl, h2⟩ | ⟨g, cap, cur, rfl, h4, h5, h6, h7, h8, h9⟩⟩ := h
  · have hl : lv = [] := List.eq_nil_of_length_eq_zero h2
    subst hl
    have hr0 : r = 0 := by simpa using hr
    subst hr0
    exact ⟨none, 0, rfl, Nat.le_refl _, by unfold maxLen; omega, ⟨rfl, .inl ⟨rfl, rfl⟩⟩, rfl⟩
  · refine ⟨_, cap, rfl, h6, h7, ⟨by rw [flatK_len], .inr ⟨g, cap, cur, by rw [List.length_take, Nat.min_eq_left hr], h4, h5, ?_, h7, h8, ?_⟩⟩, rfl⟩
    · rw [List.length_take]; omega
    · have hkt : ∀ (l : List Lk) (k : Nat), (flatK l).take (k * 2) = flatK (l.take k) := by
        intro l
        induction l with
        | nil => intro k; simp [flatK]
        | cons x l ih =>
          intro k
          cases k with
          | zero => simp [flatK]
          | succ k =>
            rw [show (k + 1) * 2 = k * 2 + 1 + 1 by omega]
            show Value.int .i64 x.left :: Value.int .i64 x.right :: ((flatK l).take (k * 2)) = Value.int .i64 x.left :: Value.int .i64 x.right :: flatK (l.take k)
            rw [ih]
      rw [List.length_take, Nat.min_eq_left hr, ← hkt, ← h9, List.take_take]
      congr 1
      omega
/-- One number of a link is set. -/
theorem OwnK.put {w : World} {base : Nat} {u : Value} {lv : List Lk} (h : OwnK w base u lv) {j : Nat} (hj : j < lv.length) : ∃ (H c : Nat), u = .slice (some ⟨H, 0, none⟩) lv.length c ∧ base ≤ H ∧ H < w.heap.size ∧ lv.length ≤ c ∧ c ≤ maxLen ∧
    (∃ z, w.cell? ⟨H, j * 2, none⟩ = some (.int .i64 z)) ∧ (∃ z, w.cell? ⟨H, j * 2 + 1, none⟩ = some (.int .i64 z)) ∧ (∀ o, w.frozen? ⟨H, o, none⟩ = false) ∧
    (∀ w1 : World, w1.heap[H]? = w.heap[H]? → ∀ z, OwnK (w1.setCell ⟨H, j * 2, none⟩ (.int .i64 z)) base u (lv.set j ⟨z, lv[j].right⟩) ∧ OwnK (w1.setCell ⟨H, j * 2 + 1, none⟩ (.int .i64 z)) base u (lv.set j ⟨lv[j].left, z⟩)) := by
  obtain ⟨h1, ⟨_, h2⟩ | ⟨g, cap, cur, rfl, h4, h5, h6, h7, h8, h9⟩⟩ := h
  · omega
  have ht : ∀ k y, (flatK lv)[k]? = some y → w.cell? ⟨g, k, none⟩ = some y := fun k y hk => by
    rw [Has.cell h5, ← Array.getElem?_toList]
    rw [← h9, List.getElem?_take] at hk
    split at hk
    · exact hk
    · cases hk
  have hf := flatK_at lv j hj
  have hs0 : ∀ (l : List Lk) (i : Nat) (h : i < l.length) (z : Int), (flatK l).set (i * 2) (.int .i64 z) = flatK (l.set i ⟨z, l[i].right⟩) := by
    intro l
    induction l with
    | nil => intro i h; simp at h
    | cons x l ih =>
      intro i h z
      cases i with
      | zero => rfl
      | succ i =>
        have h' : i < l.length := by simpa using h
        rw [show (i + 1) * 2 = i * 2 + 1 + 1 by omega]
        show Value.int .i64 x.left :: Value.int .i64 x.right :: ((flatK l).set (i * 2) (.int .i64 z)) = Value.int .i64 x.left :: Value.int .i64 x.right :: flatK (l.set i ⟨z, l[i].right⟩)
        rw [ih i (by simpa using h) z]
  have hs1 : ∀ (l : List Lk) (i : Nat) (h : i < l.length) (z : Int), (flatK l).set (i * 2 + 1) (.int .i64 z) = flatK (l.set i ⟨l[i].left, z⟩) := by
    intro l
    induction l with
    | nil => intro i h; simp at h
    | cons x l ih =>
      intro i h z
      cases i with
      | zero => rfl
      | succ i =>
        have h' : i < l.length := by simpa using h
        rw [show (i + 1) * 2 + 1 = i * 2 + 1 + 1 + 1 by omega]
        show Value.int .i64 x.left :: Value.int .i64 x.right :: ((flatK l).set (i * 2 + 1) (.int .i64 z)) = Value.int .i64 x.left :: Value.int .i64 x.right :: flatK (l.set i ⟨l[i].left, z⟩)
        rw [ih i (by simpa using h) z]
  refine ⟨g, cap, rfl, h4, Has.lt h5, h6, h7, ⟨_, ht _ _ hf.1⟩, ⟨_, ht _ _ hf.2⟩, fun o => Has.frozen h5 o, fun w1 hw1 z => ⟨⟨by rw [flatK_len], .inr ⟨g, cap, _, by rw [List.length_set], h4, Has.set_ (t := 53) (hw1.trans h5) (j * 2) (.int .i64 z), by rw [List.length_set]; exact h6, h7, by simpa using h8, ?_⟩⟩, ⟨by rw [flatK_len], .inr ⟨g, cap, _, by rw [List.length_set], h4, Has.set_ (t := 53) (hw1.trans h5) (j * 2 + 1) (.int .i64 z), by rw [List.length_set]; exact h6, h7, by simpa using h8, ?_⟩⟩⟩⟩
  · rw [Array.toList_setIfInBounds, List.take_set, List.length_set, h9, hs0]
  · rw [Array.toList_setIfInBounds, List.take_set, List.length_set, h9, hs1]
theorem EltE.ones {w : World} {base : Nat} {v : Value} {L : Nat} {q : List (Int × Value)} (h : ∀ x ∈ q, EltE w base v L x) : ∀ u ∈ flatP q, u.oneCell' = true := by
  intro u hu
  obtain ⟨x, hx, hu⟩ := List.mem_flatMap.1 hu
  obtain ⟨_, lv, h2, _⟩ := h x hx
  simp at hu
  rcases hu with rfl | rfl
  · rfl
  · obtain ⟨A, c, e⟩ := OwnK.shape h2
    rw [e]
    rfl
theorem grownBy_row {w w' : World} {base : Nat} {row : Option Nat} (hg : w.grownBy w' row) (hb : base ≤ w.heap.size) (hr : ∀ k, row = some k → base ≤ k) : Below base w w' :=
  ⟨hg.os, hg.tape, hg.output, hg.size, fun j hj => hg.block j (by omega) (fun e => by have := hr j e.symm; omega)⟩
/-- An element is cut out. -/
theorem run_cutE {P : Program} {t ty : TypeId} {i : TypeInfo} (ht : P.underlying t = some (.slice 56)) (hi : P.info? 56 = some i) (hz : i.zero = some (.agg #[.int .i64 0, .slice none 0 0])) (hsize : i.size = 2) (hby : i.bytes = 32)
    {G cap : Nat} (h : OwnE w base (.slice (some ⟨G, 0, none⟩) n cap) n L) {k : Nat} (hk : k < n) (hn : n ≤ 1000000) (hbase : base ≤ w.heap.size) {a : Addr} {m c : Nat} (hm : m = n - (k + 1)) (ha : m ≠ 0 → a = ⟨G, (k + 1) * 2, none⟩) :
    ∃ v' w', (Builtin.append_ #[t, t] ty #[.slice (some ⟨G, 0, none⟩) k k, .slice (some a) m c]).run P w = .ok v' w' ∧ OwnE w' base v' (n - 1) L ∧ Below base w w' := by
  obtain ⟨q, h1, h2, h3, h4⟩ := h
  have hcl := h1.cells
  obtain ⟨h10, ⟨e, _⟩ | ⟨G', cap', cur, e, hb, hg, hnc, hcm, hcs, htake⟩⟩ := h1
  · cases e
  injection e with e1 _ e2
  injection e1 with e1
  injection e1 with e1
  subst e1 e2
  have hcut : LRow w base (.slice (some ⟨G, 0, none⟩) k k) k (flatP (q.take k)) := by
    refine ⟨by rw [flatP_len, List.length_take]; omega, .inr ⟨G, k, cur, rfl, hb, hg, Nat.le_refl _, by omega, by omega, ?_⟩⟩
    rw [← flatP_take, ← htake, List.take_take]
    congr 1
    omega
  have hsub : (q.take k ++ q.drop (k + 1)).Sublist q := by
    rw [← List.eraseIdx_eq_take_drop_succ]
    exact List.eraseIdx_sublist _ _
  have hdl : (q.drop (k + 1)).length = m := by rw [List.length_drop]; omega
  obtain ⟨v', w', hr, ho, hgr, hat⟩ := run_appendL (P := P) w base t ty i ht hi hz hsize hby _ k _ hcut a m c (flatP (q.drop (k + 1))) (by rw [flatP_len, hdl]) (fun j u hj => by
    by_cases hm0 : m = 0
    · have : q.drop (k + 1) = [] := List.eq_nil_of_length_eq_zero (by omega)
      rw [this] at hj
      simp [flatP] at hj
    · rw [ha hm0, add_at]
      refine hcl _ _ ?_
      rw [← flatP_drop, List.getElem?_drop] at hj
      exact hj) (EltE.ones (w := w) (base := base) (v := .slice (some ⟨G, 0, none⟩) n cap) (L := L) fun x hx => h3 x (List.mem_of_mem_drop hx)) (by omega) hbase
  have hsz := hgr.size
  have hrow : ∀ j, (Value.slice (some ⟨G, 0, none⟩) k k).ownBlock = some j → base ≤ j := fun j e => by have := Option.some.inj e; simp at this; omega
  refine ⟨v', w', hr, ⟨q.take k ++ q.drop (k + 1), ?_, ?_, fun x hx => ?_, h4.sublist hsub⟩, grownBy_row hgr hbase hrow⟩
  · rw [flatP_app, show n - 1 = k + m by omega]
    exact ho
  · rw [List.length_append, List.length_take, hdl]; omega
  · have hx' := h3 x (hsub.subset hx)
    refine hx'.keep (Nat.le_refl _) (fun b _ hb2 hbb => hgr.block b hb2 (fun e => ?_)) (hat.imp (fun e => e) fun e => ⟨_, Nat.le_refl _, e⟩)
    obtain ⟨_, _, _, _, _, e5⟩ := hx'
    rcases e5 with e5 | e5
    · rw [e5] at hbb; cases hbb
    · rw [hbb] at e5; exact e5 e
theorem step_cutE {P : Program} {ops : Array Oper} {o : Oper} {a : Act} {K : Act → World → Prop} {Q : Exit → Act → World → Prop} {E : Prop} (hgd : o.guard = none) (s x : Operand) (t : TypeId)
    (ho : o.op = .call { callee := .builtin .append, args := #[s, x], argTypes := #[t, t] })
    {i : TypeInfo} (ht : P.underlying t = some (.slice 56)) (hi : P.info? 56 = some i) (hz : i.zero = some (.agg #[.int .i64 0, .slice none 0 0])) (hsize : i.size = 2) (hby : i.bytes = 32)
    {G cap : Nat} (hown : OwnE w base (.slice (some ⟨G, 0, none⟩) n cap) n L) {k : Nat} (hk : k < n) (hn : n ≤ 1000000) (hbase : base ≤ w.heap.size) {ad : Addr} {m c : Nat} (hm : m = n - (k + 1)) (ha : m ≠ 0 → ad = ⟨G, (k + 1) * 2, none⟩)
    (hs : a.eval s = .slice (some ⟨G, 0, none⟩) k k) (hx : a.eval x = .slice (some ad) m c)
    (h : ∀ v' w', OwnE w' base v' (n - 1) L → Below base w w' → K (a.put o.dst v') w') :
    if Region.wanted o (yielded ops a.tmps) = true then Oper.wp P o a w K Q else E := by
  have hw : Region.wanted o (yielded ops a.tmps) = true := by simp [Region.wanted, hgd]
  rw [if_pos hw]
  obtain ⟨v', w', hr, h2, h3⟩ := run_cutE (P := P) (t := t) (ty := o.type) ht hi hz hsize hby hown hk hn hbase (a := ad) (m := m) (c := c) hm ha
  unfold Oper.wp execOp
  simp only [ho, resolve, invoke, builtin, Sem.run_bind, Sem.run_pure, Result.andThen_ok, List.map_toArray, List.map_cons, List.map_nil, hs, hx, hr]
  exact h v' w' h2 h3
end
/-- append of a node's links, which lie in the block that was just made, and whose row is newer than the others. -/
theorem wpList_pushE {P : Program} {ops : Array Oper} {rest : List Oper} {o : Oper} {a : Act} {Q : Exit → Act → World → Prop} (hgd : o.guard = none) (s x : Operand) (t : TypeId)
    (ho : o.op = .call { callee := .builtin .append, args := #[s, x], argTypes := #[t, t] })
    (base : Nat) (i : TypeInfo) (ht : P.underlying t = some (.slice 56)) (hi : P.info? 56 = some i) (hz : i.zero = some (.agg #[.int .i64 0, .slice none 0 0])) (hsize : i.size = 2) (hby : i.bytes = 32)
    (v : Value) (n L : Nat) (w1 w0 : World) (id : Int) (u : Value) (lv : List Lk) (hown : OwnE w1 base v n L) (hk : Below w1.heap.size w1 w0) (hu : OwnK w0 w1.heap.size u lv) (hb1 : base ≤ w1.heap.size) (hid : I64 id) (hlv : lv.length ≤ L) (hlw : ∀ y ∈ lv, LkW y) (hs : a.eval s = v) (hx : a.eval x = .slice (some ⟨w0.heap.size, 0, none⟩) 1 1) (hlen : n < 1000000)
    (h : ∀ v' w', OwnE w' base v' (n + 1) L → Below base w0 w' → wpList P ops Q rest (a.put o.dst v') w') : wpList P ops Q (o :: rest) a (w0.alloc (.cells #[.int .i64 id, u] 56)) := by
  refine wpList_plain hgd fun K hK => ?_
  have hba := (Below.refl w0.heap.size w0).alloc (Nat.le_refl _) (.cells #[.int .i64 id, u] 56)
  have hownA := (hown.below hk).below hba
  have hbase : base ≤ w0.heap.size := Nat.le_trans hb1 hk.size
  have hone : u.oneCell' = true := by
    obtain ⟨A, c, rfl⟩ := OwnK.shape hu
    rfl
  have hold : ∀ q : List (Int × Value), (∀ x ∈ q, EltE w1 base v L x) → ∀ x ∈ q, ∀ k, x.2.ownBlock = some k → k < w1.heap.size := fun q hq x hx k e => by
    obtain ⟨_, _, e2, _⟩ := hq x hx
    exact (e2.lt k e).2
  obtain ⟨q, h1, h2, h3, h4⟩ := hown
  have hvlt : ∀ k, v.ownBlock = some k → base ≤ k ∧ k < w1.heap.size := fun k e => by
    obtain ⟨_, ⟨rfl, _⟩ | ⟨g, cap, cur, rfl, k2, k3, _⟩⟩ := h1
    · cases e
    · have := Option.some.inj e; simp at this; subst this; exact ⟨k2, Has.lt k3⟩
  have hkA := hk.alloc hk.size (.cells #[.int .i64 id, u] 56)
  have h1A : LRow (w0.alloc (.cells #[.int .i64 id, u] 56)) base v n (flatP q) := h1.keep fun j _ hj _ => hkA.block j hj
  have huA : OwnK (w0.alloc (.cells #[.int .i64 id, u] 56)) base u lv := own_lessK (hu.below hba) hb1
  obtain ⟨v', w', hr, hrow, hgr, hat⟩ := run_appendL (P := P) (w0.alloc (.cells #[.int .i64 id, u] 56)) base t o.type i ht hi hz hsize hby v n _ h1A ⟨w0.heap.size, 0, none⟩ 1 1 [.int .i64 id, u] rfl (by
    intro j z hj
    rw [add_at, Nat.zero_add, (Has.new w0 56 #[.int .i64 id, u]).cell, ← Array.getElem?_toList]
    exact hj) (by
    intro z hz
    simp at hz
    rcases hz with rfl | rfl
    · rfl
    · exact hone) (by omega) (by rw [World.size_alloc]; omega)
  unfold Oper.wp execOp
  simp only [ho, resolve, invoke, builtin, Sem.run_bind, Sem.run_pure, Result.andThen_ok, List.map_toArray, List.map_cons, List.map_nil, hs, hx, hr]
  have hsz : w0.heap.size ≤ (w0.alloc (.cells #[.int .i64 id, u] 56)).heap.size := by rw [World.size_alloc]; omega
  have hk1 := hk.size
  have hul : ∀ k, u.ownBlock = some k → w1.heap.size ≤ k ∧ k < w0.heap.size := fun k e => hu.lt k e
  have hv' : v'.ownBlock = v.ownBlock ∨ ∃ k, w0.heap.size ≤ k ∧ v'.ownBlock = some k := hat.imp (fun e => e) fun e => ⟨_, hsz, e⟩
  have huv : u.ownBlock = none ∨ u.ownBlock ≠ v.ownBlock := by
    cases hb : u.ownBlock with
    | none => exact .inl rfl
    | some k => exact .inr (fun e => by have := (hvlt k e.symm).2; have := (hul k hb).1; omega)
  refine hK _ _ (h v' w' ⟨q ++ [(id, u)], ?_, by rw [List.length_append, h2]; rfl, fun x hx => ?_, ?_⟩ ?_)
  · rw [flatP_snoc]
    exact hrow
  · rcases List.mem_append.1 hx with hx | hx
    · refine (h3 x hx).keep (Nat.le_refl _) (fun b _ hb2 hbb => ?_) (hv'.imp (fun e => e) fun ⟨k, e1, e2⟩ => ⟨k, by omega, e2⟩)
      rw [hgr.block b (by omega) (fun e => ?_)]
      · exact hkA.block b hb2
      · obtain ⟨_, _, _, _, _, e5⟩ := h3 x hx
        rcases e5 with e5 | e5
        · rw [e5] at hbb; cases hbb
        · rw [hbb] at e5; exact e5 e
    · simp at hx
      subst hx
      refine ⟨hid, lv, huA.blk (fun b _ hb2 hbb => hgr.block b hb2 (fun e => ?_)), hlv, hlw, ?_⟩
      · rcases huv with e5 | e5
        · simp only [e5] at hbb; cases hbb
        · simp only [hbb] at e5; exact e5 e
      · rcases hv' with e | ⟨k, hk2, e⟩
        · simp only [e]; exact huv
        · cases hb : u.ownBlock with
          | none => exact .inl rfl
          | some r => exact .inr (fun e2 => by rw [e] at e2; have := Option.some.inj e2; have := (hul r hb).2; omega)
  · refine List.pairwise_append.2 ⟨h4, List.pairwise_singleton _ _, fun a ha b hb => ?_⟩
    simp at hb
    subst hb
    cases hc : a.2.ownBlock with
    | none => exact .inl hc
    | some r => exact .inr (fun e2 => by rw [hc] at e2; have := (hul r e2.symm).1; have := hold q h3 a ha r hc; omega)
  · exact ((Below.refl _ _).alloc hbase _).trans (grownBy_row hgr (by rw [World.size_alloc]; omega) (fun k e => (hvlt k e).1))
def KpA (base : Nat) (w w1 : World) : Prop := ∀ j, base ≤ j → j < w.heap.size → w1.heap[j]? = w.heap[j]?
theorem KpA.step {w w1 : World} {base g : Nat} (hg : g < base) (k : TStep w g w1) : KpA base w w1 := fun j h1 hj => k.2.block j hj (fun e => by have := Option.some.inj e; omega)
/-- An element that is found: its row of links, what may be done with it. -/
theorem OwnE.lev {w : World} {base : Nat} {v : Value} {n L : Nat} (h : OwnE w base v n L) {i : Nat} (hi : i < n) : ∃ (G cap : Nat) (A' : Option Addr) (m c' : Nat), v = .slice (some ⟨G, 0, none⟩) n cap ∧ base ≤ G ∧ G < w.heap.size ∧ n ≤ cap ∧ cap ≤ maxLen ∧ w.cell? ⟨G, i * 2 + 1, none⟩ = some (.slice A' m c') ∧ m ≤ L ∧ m ≤ c' ∧ c' ≤ maxLen ∧ (∀ o, w.frozen? ⟨G, o, none⟩ = false) ∧
    (m = 0 ∨ ∃ H, A' = some ⟨H, 0, none⟩ ∧ base ≤ H ∧ H < w.heap.size ∧ (∀ o, w.frozen? ⟨H, o, none⟩ = false) ∧ ∀ j, j < m → (∃ z, w.cell? ⟨H, j * 2, none⟩ = some (.int .i64 z)) ∧ (∃ z, w.cell? ⟨H, j * 2 + 1, none⟩ = some (.int .i64 z)) ∧
      ∀ w1, KpA base w w1 → ∀ z, I64 z → OwnE (w1.setCell ⟨H, j * 2, none⟩ (.int .i64 z)) base v n L ∧ OwnE (w1.setCell ⟨H, j * 2 + 1, none⟩ (.int .i64 z)) base v n L) ∧
    (∀ w1, KpA base w w1 → ∀ r, r ≤ m → OwnE (w1.setCell ⟨G, i * 2 + 1, none⟩ (.slice A' r c')) base v n (L + 1)) ∧
    ∃ lv : List Lk, lv.length = m ∧ (∀ y ∈ lv, LkW y) ∧ OwnK w base (.slice A' m c') lv ∧ (Value.slice A' m c').ownBlock ≠ some G ∧ PutE w base v n L G i (.slice A' m c') := by
  obtain ⟨G, cap, u, lv, ev, hG1, hG2, hnc, hcm, hcell, hown, hlL, hlw, huG, hfz, hput, hin⟩ := h.at_ hi
  obtain ⟨A', c', e1, hm1, hm2, _, _⟩ := hown.cut (Nat.le_refl _)
  subst e1
  refine ⟨G, cap, A', lv.length, c', ev, hG1, hG2, hnc, hcm, hcell, hlL, hm1, hm2, hfz, ?_, ?_, lv, rfl, hlw, hown, huG, hput⟩
  · by_cases h0 : lv.length = 0
    · exact .inl h0
    · obtain ⟨H, cH, eH, hH1, hH2, _, _, _, _, hfzH, _⟩ := hown.put (j := 0) (by omega)
      injection eH with eA _ eC
      subst eA eC
      refine .inr ⟨H, rfl, hH1, hH2, hfzH, fun j hj => ?_⟩
      obtain ⟨H', cH', eH', _, _, _, _, z0, z1, _, hst⟩ := hown.put hj
      injection eH' with eA _ eC
      injection eA with eA
      injection eA with eA
      subst eA
      refine ⟨z0, z1, fun w1 hk z hz => ?_⟩
      have hw1 := hst w1 (hk H hH1 hH2) z
      have hwj := hlw _ (List.getElem_mem hj)
      have hkp : ∀ o, KpE base (.slice (some ⟨H, 0, none⟩) lv.length c') w (w1.setCell ⟨H, o, none⟩ (.int .i64 z)) := fun o b hb1 hb2 hb3 => by
        rw [Below.heap_setCell w1 _ _ b (fun e => hb3 (by rw [e]; rfl))]
        exact hk b hb1 hb2
      refine ⟨hin _ _ (hkp _) hw1.1 (by rw [List.length_set]; exact hlL) (fun y hy => ?_), hin _ _ (hkp _) hw1.2 (by rw [List.length_set]; exact hlL) (fun y hy => ?_)⟩
      · rcases List.mem_or_eq_of_mem_set hy with hy | rfl
        · exact hlw y hy
        · exact ⟨hz, hwj.2⟩
      · rcases List.mem_or_eq_of_mem_set hy with hy | rfl
        · exact hlw y hy
        · exact ⟨hwj.1, hz⟩
  · intro w1 hk r hr
    obtain ⟨A2, c2, e2, _, _, ho2, hb2⟩ := hown.cut hr
    injection e2 with eA _ eC
    subst eA eC
    refine hput w1 _ (lv.take r) (fun b h1 h2 _ => hk b h1 h2) (ho2.keep hk) (by rw [List.length_take]; omega) (fun y hy => hlw y (List.mem_of_mem_take hy)) (.inl hb2)
end
end Go.Proofs.YtjokbdhineilcaaGreatDoor
