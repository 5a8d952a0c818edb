/-
  A row of nodes' links that is changed in place: its block may be larger than its capacity, its elements' rows are the call's own and lie apart. No condition.
-/
import Derived.Test.YtmhimkojegkalaaDoorKmL
import Derived.Test.YtmhimkojegkalaaDoorKwN
import Derived.Test.YtmhimkojegkalaaDoorKwU
namespace Go.Proofs.YtmhimkojegkalaaDoor
open Go.RowKit

def I64 (z : Int) : Prop := -9223372036854775808 ≤ z ∧ z ≤ 9223372036854775807
def LkW (y : Lk) : Prop := I64 y.left ∧ I64 y.right
/-- A row of elements of two cells in a block that may be larger than the row's capacity. -/
def LRow (w : World) (base : Nat) (v : Value) (n : Nat) (xs : List Value) : Prop :=
  xs.length = n * 2 ∧ ((v = .slice none 0 0 ∧ n = 0) ∨ ∃ g cap cur, v = .slice (some ⟨g, 0, none⟩) n cap ∧ base ≤ g ∧ w.heap[g]? = some (.cells cur 64 (0, 0)) ∧ n ≤ cap ∧ cap ≤ maxLen ∧ cap * 2 ≤ cur.size ∧ cur.toList.take (n * 2) = xs)
theorem LRow.of {w : World} {base : Nat} {v : Value} {n : Nat} {xs : List Value} (h : w.ownsRow base 64 2 v n xs) : LRow w base v n xs := by
  obtain ⟨h1, h2 | ⟨g, cap, cur, k1, k2, k3, k4, k5, k6, k7⟩⟩ := h
  · exact ⟨h1, .inl h2⟩
  · exact ⟨h1, .inr ⟨g, cap, cur, k1, k2, k3, k4, k5, by omega, k7⟩⟩
theorem LRow.cells {w : World} {base : Nat} {g n cap : Nat} {xs : List Value} (h : LRow w base (.slice (some ⟨g, 0, none⟩) n cap) n xs) : ∀ j u, xs[j]? = some u → w.cell? ⟨g, j, none⟩ = some u := by
  obtain ⟨h1, ⟨e, _⟩ | ⟨g', cap', cur, k1, k2, k3, k4, k5, k6, k7⟩⟩ := h
  · cases e
  · injection k1 with e1 _ e2
    injection e1 with e1
    injection e1 with e1
    subst e1 e2
    intro j u hj
    rw [Has.cell k3, ← Array.getElem?_toList]
    rw [← k7, List.getElem?_take] at hj
    split at hj
    · exact hj
    · cases hj
section
variable {P : Program}
theorem run_appendL (w : World) (base : Nat) (t ty : TypeId) (i : TypeInfo) (ht : P.underlying t = some (.slice 64)) (hi : P.info? 64 = some i) (hz : i.zero = some (.agg #[.int .i64 0, .slice none 0 0])) (hsize : i.size = 2) (hby : i.bytes = 32)
    (v : Value) (n : Nat) (xs : List Value) (hown : LRow w base v n xs)
    (a : Addr) (m c : Nat) (news : List Value) (hl : news.length = m * 2) (hnews : ∀ j u, news[j]? = some u → w.cell? (a.add j) = some u) (h1 : ∀ u ∈ news, u.oneCell' = true)
    (h63 : n + m ≤ 1000000) (hbase : base ≤ w.heap.size) :
    ∃ v' w', (Builtin.append_ #[t, t] ty #[v, .slice (some a) m c]).run P w = .ok v' w' ∧ LRow w' base v' (n + m) (xs ++ news) ∧ w.grownBy w' v.ownBlock ∧ (v'.ownBlock = v.ownBlock ∨ v'.ownBlock = some w.heap.size) := by
  have hmx : n + m ≤ maxLen := by unfold maxLen; omega
  have hlen : (xs ++ news).length = (n + m) * 2 := by rw [List.length_append, hown.1, hl, Nat.add_mul]
  have hzs : (Value.agg #[.int .i64 0, .slice none 0 0]).cells.size = 2 := rfl
  have grown : ∀ (old : Nat), old < n + m → ∀ (row : Option Nat),
      LRow (w.drew.alloc (.cells (xs.toArray ++ news.toArray ++ Builtin.zeroCells (Value.agg #[.int .i64 0, .slice none 0 0]).cells (grownCap w (n + m) old 64 - (n + m))) 64)) base
        (.slice (some ⟨w.heap.size, 0, none⟩) (n + m) (grownCap w (n + m) old 64)) (n + m) (xs ++ news) ∧
      w.grownBy (w.drew.alloc (.cells (xs.toArray ++ news.toArray ++ Builtin.zeroCells (Value.agg #[.int .i64 0, .slice none 0 0]).cells (grownCap w (n + m) old 64 - (n + m))) 64)) row := by
    intro old ho row
    have hge := grownCap_ge w (n + m) old 64
    have hcm : grownCap w (n + m) old 64 ≤ maxLen := grownCap_le_maxLen w (n + m) old 64 hmx
    refine ⟨⟨hlen, .inr ⟨w.heap.size, _, _, rfl, hbase, heap_alloc_new w.drew _, hge, hcm, ?_, ?_⟩⟩, ⟨rfl, rfl, rfl, by simp, fun k hk _ => heap_alloc_old w.drew _ hk⟩⟩
    · simp only [Array.size_append, List.size_toArray, size_zeroCells, hzs, hown.1, hl, ← Nat.add_mul]
      exact Nat.mul_le_mul_right _ (by omega)
    · simp only [Array.toList_append, List.append_assoc]
      rw [← List.append_assoc, ← hlen]
      exact List.take_left
  rcases hown.2 with ⟨rfl, rfl⟩ | ⟨g, cap, cur, rfl, hbg, hg, hnc, hcm, hcs, htake⟩
  · have hx : xs = [] := List.eq_nil_of_length_eq_zero (by simpa using hown.1)
    subst hx
    by_cases hm : m = 0
    · subst hm
      have hn : news = [] := List.eq_nil_of_length_eq_zero (by simpa using hl)
      subst hn
      refine ⟨.slice none 0 0, w, ?_, ⟨by simp, .inl ⟨rfl, rfl⟩⟩, ⟨rfl, rfl, rfl, Nat.le_refl _, fun _ _ _ => rfl⟩, Or.inl rfl⟩
      simp [Builtin.append_, run_underlying ht, sizeOf, typeInfo, hi, Builtin.lenOf, Builtin.firstCells, loadCells, loadCellsFrom]
    · have hr := run_append_nil (P := P) w t ty 64 i _ ht hi hz a m c news (by rw [hsize]; exact hl) hnews (by omega) (by omega) (by rw [hby]; omega)
      have hgr := grown 0 (by omega) (Value.ownBlock (.slice none 0 0))
      simp only [Nat.zero_add, List.nil_append, Array.empty_append] at hgr ⊢
      exact ⟨_, _, hr, hgr.1, hgr.2, Or.inr rfl⟩
  · by_cases hroom : n + m ≤ cap
    · have hfit : n * i.size + news.length ≤ cur.size := by rw [hl, hsize]; omega
      have hr := run_append_room (P := P) w t ty 64 i ht hi g n cap cur hg a m c news (by rw [hsize]; exact hl) hnews h1 hroom hfit
      rw [hsize] at hr hfit
      refine ⟨_, _, hr, ⟨hlen, .inr ⟨g, cap, _, rfl, hbg, setRow_heap w g cur _ 64 _ hg, hroom, hcm, ?_, ?_⟩⟩, ⟨rfl, rfl, rfl, by simp, fun k _ hk => setRow_other w g k _ (fun e => hk (by simp [Value.ownBlock, e]))⟩, Or.inl rfl⟩
      · simp only [List.size_toArray, List.length_append, List.length_take, List.length_drop, Array.length_toList]
        omega
      · rw [htake, ← hlen]
        exact List.take_left
    · have holds : ∀ j u, xs[j]? = some u → w.cell? ((⟨g, 0, none⟩ : Addr).add j) = some u := fun j u hj => by
        rw [add_at, Nat.zero_add]
        exact hown.cells j u hj
      have hr := run_append_grow (P := P) w t ty 64 i _ ht hi hz ⟨g, 0, none⟩ n cap xs (by rw [hsize]; exact hown.1) holds a m c news (by rw [hsize]; exact hl) hnews (by omega) (by omega) (growslice_fits (by omega) (by rw [hby]; omega))
      have hgr := grown cap (by omega) (Value.ownBlock (.slice (some ⟨g, 0, none⟩) n cap))
      exact ⟨_, _, hr, hgr.1, hgr.2, Or.inr rfl⟩
end
theorem OwnK.blk {w w' : World} {base : Nat} {v : Value} {l : List Lk} (h : OwnK w base v l) (k : ∀ i, base ≤ i → i < w.heap.size → v.ownBlock = some i → w'.heap[i]? = w.heap[i]?) : OwnK w' base v l := by
  obtain ⟨h1, h2 | ⟨g, cap, cur, h3, h4, h5, h6⟩⟩ := h
  · exact ⟨h1, .inl h2⟩
  · exact ⟨h1, .inr ⟨g, cap, cur, h3, h4, (k g h4 (Has.lt h5) (by rw [h3]; rfl)).trans h5, h6⟩⟩
/-- One element of a row: a number, and a row of at most L links of its own. -/
def EltE (w : World) (base : Nat) (v : Value) (L : Nat) (x : Int × Value) : Prop :=
  I64 x.1 ∧ ∃ lv, OwnK w base x.2 lv ∧ lv.length ≤ L ∧ (∀ y ∈ lv, LkW y) ∧ (x.2.ownBlock = none ∨ x.2.ownBlock ≠ v.ownBlock)
def DisE (a b : Int × Value) : Prop := a.2.ownBlock = none ∨ a.2.ownBlock ≠ b.2.ownBlock
theorem DisE.symm {a b : Int × Value} (h : DisE a b) : DisE b a := by
  unfold DisE at *
  rcases h with h | h
  · cases hb : b.2.ownBlock with
    | none => exact .inl rfl
    | some k => exact .inr (by rw [h]; exact fun e => by cases e)
  · exact .inr (Ne.symm h)
/-- A row of n nodes' links of the call's own, each with its own row of at most L links, all numbers within bounds. -/
def OwnE (w : World) (base : Nat) (v : Value) (n L : Nat) : Prop :=
  ∃ q : List (Int × Value), LRow w base v n (flatP q) ∧ q.length = n ∧ (∀ x ∈ q, EltE w base v L x) ∧ q.Pairwise DisE
theorem LRow.keep {w w' : World} {base : Nat} {v : Value} {n : Nat} {xs : List Value} (h : LRow w base v n xs) (k : ∀ i, base ≤ i → i < w.heap.size → v.ownBlock = some i → w'.heap[i]? = w.heap[i]?) : LRow w' base v n xs := by
  obtain ⟨h1, h2 | ⟨g, cap, cur, k1, k2, k3, k4⟩⟩ := h
  · exact ⟨h1, .inl h2⟩
  · exact ⟨h1, .inr ⟨g, cap, cur, k1, k2, (k g k2 (Has.lt k3) (by rw [k1]; rfl)).trans k3, k4⟩⟩
theorem EltE.keep {w w' : World} {base L L' : Nat} {v v' : Value} {x : Int × Value} (h : EltE w base v L x) (hL : L ≤ L') (k : ∀ i, base ≤ i → i < w.heap.size → x.2.ownBlock = some i → w'.heap[i]? = w.heap[i]?) (hv : v'.ownBlock = v.ownBlock ∨ ∃ k, w.heap.size ≤ k ∧ v'.ownBlock = some k) : EltE w' base v' L' x := by
  obtain ⟨h1, lv, h2, h3, h4, h5⟩ := h
  refine ⟨h1, lv, h2.blk k, by omega, h4, ?_⟩
  rcases hv with e | ⟨p, hp, e⟩
  · rw [e]; exact h5
  · cases hb : x.2.ownBlock with
    | none => exact .inl rfl
    | some r =>
      refine .inr fun e2 => ?_
      rw [e] at e2
      have := (h2.lt r hb).2
      have := Option.some.inj e2
      omega
section
variable {w w' : World} {base : Nat} {v : Value} {n L : Nat}
theorem OwnE.keep (h : OwnE w base v n L) (hg : ∀ i, base ≤ i → i < w.heap.size → w'.heap[i]? = w.heap[i]?) : OwnE w' base v n L := by
  obtain ⟨q, h1, h2, h3, h4⟩ := h
  exact ⟨q, h1.keep fun i a b _ => hg i a b, h2, fun x hx => (h3 x hx).keep (Nat.le_refl _) (fun i a b _ => hg i a b) (.inl rfl), h4⟩
theorem OwnE.below (h : OwnE w base v n L) (k : Below w.heap.size w w') : OwnE w' base v n L := h.keep fun i _ hi => k.block i hi
theorem OwnE.step {g : Nat} (h : OwnE w base v n L) (hg : g < base) (k : TStep w g w') : OwnE w' base v n L := h.keep fun i h1 hi => k.2.block i hi (fun e => by have := Option.some.inj e; omega)
theorem OwnE.more {L' : Nat} (h : OwnE w base v n L) (hL : L ≤ L') : OwnE w base v n L' := by
  obtain ⟨q, h1, h2, h3, h4⟩ := h
  exact ⟨q, h1, h2, fun x hx => (h3 x hx).keep hL (fun _ _ _ _ => rfl) (.inl rfl), h4⟩
theorem OwnE.nil (w : World) (base L : Nat) : OwnE w base (.slice none 0 0) 0 L := ⟨[], ⟨rfl, .inl ⟨rfl, rfl⟩⟩, rfl, by simp, List.Pairwise.nil⟩
theorem OwnE.shape (h : OwnE w base v n L) : ∃ A c, v = .slice A n c := by
  obtain ⟨q, h1, _⟩ := h
  rcases h1.2 with ⟨rfl, h0⟩ | ⟨g, cap, cur, rfl, _⟩
  · exact ⟨none, 0, by rw [h0]⟩
  · exact ⟨_, cap, rfl⟩
theorem OwnD.toE {ls : List Ld} (h : OwnD w base v ls) (hw : ∀ x ∈ ls, I64 x.id ∧ x.levels.length ≤ L ∧ ∀ y ∈ x.levels, LkW y) : OwnE w base v ls.length L := by
  obtain ⟨q, h1, h2, h3, h4⟩ := h
  refine ⟨q, .of h1, h2, fun x hx => ?_, List.pairwise_iff_getElem.2 fun i j hi hj hij => h4 i j hi hj (by omega)⟩
  obtain ⟨i, hi, rfl⟩ := List.mem_iff_getElem.1 hx
  have hi2 : i < ls.length := by omega
  obtain ⟨a, b, c⟩ := hw _ (List.getElem_mem hi2)
  obtain ⟨e1, e2, e3⟩ := h3 i hi hi2
  exact ⟨by rw [e1]; exact a, _, e2, b, c, e3⟩
/-- What a row is as it is read. -/
theorem OwnE.read (h : OwnE w base v n L) : ∃ (A : Option Addr) (c : Nat) (ls : List Ld), v = .slice A ls.length c ∧ ls.length = n ∧ n ≤ c ∧ c ≤ maxLen ∧ Lds w w.heap.size A ls ∧ (∀ x ∈ ls, I64 x.id ∧ x.levels.length ≤ L ∧ ∀ y ∈ x.levels, LkW y) := by
  obtain ⟨q, h1, h2, h3, h4⟩ := h
  have hch : ∀ i, i < n → ∃ x : Ld, ∃ hq : i < q.length, x.id = q[i].1 ∧ OwnK w base q[i].2 x.levels ∧ (I64 x.id ∧ x.levels.length ≤ L ∧ ∀ y ∈ x.levels, LkW y) := fun i hi => by
    have hq : i < q.length := by omega
    obtain ⟨a, lv, b, c, d, _⟩ := h3 _ (List.getElem_mem hq)
    exact ⟨⟨q[i].1, lv⟩, hq, rfl, b, a, c, d⟩
  obtain ⟨R, hR⟩ := Go.Deep.choose_lt (α := Ld) hch
  have hl : ((List.range n).map R).length = n := by simp
  rcases h1.2 with ⟨rfl, rfl⟩ | ⟨g, cap, cur, rfl, hb, hg, hnc, hcm, hcs, htake⟩
  · exact ⟨none, 0, [], rfl, rfl, Nat.le_refl _, by unfold maxLen; omega, fun hn => absurd rfl hn, fun x hx => by cases hx⟩
  · refine ⟨some ⟨g, 0, none⟩, cap, (List.range n).map R, by rw [hl], hl, hnc, hcm, fun _ => ⟨g, 0, rfl, Has.lt hg, fun i hi => ?_⟩, fun x hx => ?_⟩
    · have hi' : i < n := by omega
      obtain ⟨hq, e1, ho, _⟩ := hR i hi'
      obtain ⟨p1, p2⟩ := flatP_at q i hq
      obtain ⟨A', c', e2, k1, k2, k3⟩ := ho.readB
      have hge : ((List.range n).map R)[i] = R i := by simp
      rw [Nat.zero_add, h1.cells _ _ p1, h1.cells _ _ p2, hge, e1, e2]
      exact ⟨by first | rfl | trivial, A', c', by first | rfl | trivial, k1, k2, k3⟩
    · obtain ⟨i, hi, rfl⟩ := List.mem_map.1 hx
      obtain ⟨_, _, _, hw⟩ := hR i (by simpa using hi)
      exact hw
end
end Go.Proofs.YtmhimkojegkalaaDoor
