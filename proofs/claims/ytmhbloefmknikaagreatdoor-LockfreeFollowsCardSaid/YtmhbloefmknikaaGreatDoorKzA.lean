/-
  Rows of cells and processes: as they are read, and as they are changed in place. No condition.
-/
import Derived.Test.YtmhbloefmknikaaGreatDoorLyB
import Derived.Test.YtmhbloefmknikaaGreatDoorKwL
import Derived.Outline
import Derived.Lib.Hide
namespace Go.Proofs.YtmhbloefmknikaaGreatDoor
open Go.RowKit
namespace Lk

/-- A row as it is read: it lies in a block from lo on. -/
def RdR {α : Type} (enc : α → List Value) (k : Nat) (w : World) (lo : Nat) (A : Option Addr) (l : List α) : Prop :=
  l ≠ [] → ∃ b o, A = some ⟨b, o, none⟩ ∧ lo ≤ b ∧ b < w.heap.size ∧ ∀ i (h : i < l.length) j u, (enc l[i])[j]? = some u → w.cell? ⟨b, o + i * k + j, none⟩ = some u
/-- A row that is changed in place. -/
def MutR {α : Type} (enc : α → List Value) (k : Nat) (t : TypeId) (w : World) (G c : Nat) (l : List α) : Prop :=
  l.length ≤ c ∧ c ≤ maxLen ∧ ∃ cur, Has w G t cur ∧ cur.size = c * k ∧ ∀ i (h : i < l.length) j u, (enc l[i])[j]? = some u → cur[i * k + j]? = some u
section
variable {α : Type} {enc : α → List Value} {k : Nat} {t : TypeId} {w w' : World} {lo G c : Nat} {A : Option Addr} {l : List α}
theorem RdR.nil : RdR enc k w lo A [] := fun h => absurd rfl h
theorem RdR.keep (h : RdR enc k w lo A l) (hs : w.heap.size ≤ w'.heap.size) (q : ∀ i, lo ≤ i → i < w.heap.size → w'.heap[i]? = w.heap[i]?) : RdR enc k w' lo A l := fun hn => by
  obtain ⟨b, o, e, h1, h2, hc⟩ := h hn
  exact ⟨b, o, e, h1, by omega, fun i hi j u hu => (World.cell?_of_block (q b h1 h2)).trans (hc i hi j u hu)⟩
theorem RdR.below (h : RdR enc k w lo A l) (q : Below w.heap.size w w') : RdR enc k w' lo A l := h.keep q.size fun i _ h2 => q.block i h2
theorem RdR.step (h : RdR enc k w lo A l) {g : Nat} (hg : g < lo) (q : TStep w g w') : RdR enc k w' lo A l := h.keep q.2.size fun i h1 h2 => q.2.block i h2 (fun e => by have := Option.some.inj e; omega)
theorem RdR.low (h : RdR enc k w lo A l) {lo' : Nat} (hl : lo' ≤ lo) : RdR enc k w lo' A l := fun hn => by
  obtain ⟨b, o, e, h1, h2, hc⟩ := h hn
  exact ⟨b, o, e, by omega, h2, hc⟩
theorem RdR.at_ (h : RdR enc k w lo A l) {i : Nat} (hi : i < l.length) : ∃ b o, A = some ⟨b, o, none⟩ ∧ lo ≤ b ∧ b < w.heap.size ∧ ∀ j u, (enc l[i])[j]? = some u → w.cell? ⟨b, o + i * k + j, none⟩ = some u := by
  obtain ⟨b, o, e, h1, h2, hc⟩ := h (by intro e; rw [e] at hi; simp at hi)
  exact ⟨b, o, e, h1, h2, hc i hi⟩
theorem MutR.keep (h : MutR enc k t w G c l) (q : w'.heap[G]? = w.heap[G]?) : MutR enc k t w' G c l := by
  obtain ⟨h1, h2, cur, h3, h4⟩ := h
  exact ⟨h1, h2, cur, q.trans h3, h4⟩
theorem MutR.lt (h : MutR enc k t w G c l) : G < w.heap.size := by
  obtain ⟨h1, h2, cur, h3, h4⟩ := h
  exact h3.lt
theorem MutR.below (h : MutR enc k t w G c l) (q : Below w.heap.size w w') : MutR enc k t w' G c l := h.keep (q.block G h.lt)
theorem MutR.cell (h : MutR enc k t w G c l) {i : Nat} (hi : i < l.length) {j : Nat} {u : Value} (hu : (enc l[i])[j]? = some u) : w.cell? ⟨G, i * k + j, none⟩ = some u := by
  obtain ⟨h1, h2, cur, h3, h4, h5⟩ := h
  exact (h3.cell _).trans (h5 i hi j u hu)
theorem MutR.frozen (h : MutR enc k t w G c l) (o : Nat) : w.frozen? ⟨G, o, none⟩ = false := by
  obtain ⟨h1, h2, cur, h3, h4, h5⟩ := h
  exact h3.frozen o
theorem MutR.rd (h : MutR enc k t w G c l) (hl : lo ≤ G) : RdR enc k w lo (some ⟨G, 0, none⟩) l := fun _ =>
  ⟨G, 0, rfl, hl, h.lt, fun i hi j u hu => by rw [Nat.zero_add]; exact h.cell hi hu⟩
theorem flat_row (hk : ∀ x, (enc x).length = k) : ∀ (l : List α) (i : Nat) (h : i < l.length) (j : Nat), j < k → (l.flatMap enc)[i * k + j]? = (enc l[i])[j]?
  | [], _, h, _, _ => by simp at h
  | x :: l, 0, _, j, hj => by
    rw [List.flatMap_cons, Nat.zero_mul, Nat.zero_add, List.getElem?_append_left (by rw [hk]; exact hj)]
    rfl
  | x :: l, i + 1, h, j, hj => by
    have := flat_row hk l i (by simpa using h) j hj
    rw [List.flatMap_cons, List.getElem?_append_right (by rw [hk, Nat.add_mul]; omega), hk, show (i + 1) * k + j - k = i * k + j by rw [Nat.add_mul]; omega]
    exact this
theorem flat_size (hk : ∀ x, (enc x).length = k) (l : List α) : (l.flatMap enc).length = l.length * k := by
  induction l with
  | nil => simp
  | cons x l ih => rw [List.flatMap_cons, List.length_append, ih, hk, List.length_cons, Nat.add_mul]; omega
/-- A row of the call's own may be changed in place. -/
theorem MutR.own {base : Nat} {v : Value} (hk : ∀ x, (enc x).length = k) (h : w.ownsRow base t k v l.length (l.flatMap enc)) (hn : l ≠ []) : ∃ G c, v = .slice (some ⟨G, 0, none⟩) l.length c ∧ base ≤ G ∧ MutR enc k t w G c l := by
  obtain ⟨h1, ⟨rfl, h2⟩ | ⟨G, cap, cur, rfl, h4, h5, h6, h7, h8, h9⟩⟩ := h
  · exact absurd (List.eq_nil_of_length_eq_zero h2) hn
  · refine ⟨G, cap, rfl, h4, h6, h7, cur, h5, h8, fun i hi j u hu => ?_⟩
    have hj : j < k := by
      rw [← hk l[i]]
      exact (List.getElem?_eq_some_iff.1 hu).1
    have hlt : i * k + j < l.length * k := by
      have : (i + 1) * k ≤ l.length * k := Nat.mul_le_mul_right k hi
      rw [Nat.add_mul] at this
      omega
    rw [← flat_row hk l i hi j hj, ← h9, List.getElem?_take_of_lt hlt, Array.getElem?_toList] at hu
    exact hu
/-- One of its numbers is stored anew. -/
theorem MutR.put (hk : ∀ x, (enc x).length = k) (h : MutR enc k t w G c l) {i : Nat} (hi : i < l.length) {j : Nat} (hj : j < k) (v : Value) (y : α) (hy : enc y = (enc l[i]).set j v) : MutR enc k t (w.setCell ⟨G, i * k + j, none⟩ v) G c (l.set i y) := by
  obtain ⟨h1, h2, cur, h3, h4, h5⟩ := h
  have hb : i * k + j < cur.size := by
    have : (i + 1) * k ≤ c * k := Nat.mul_le_mul_right k (by omega)
    rw [Nat.add_mul] at this
    omega
  refine ⟨by rw [List.length_set]; exact h1, h2, _, h3.set_ _ v, by rw [Array.size_setIfInBounds]; exact h4, fun i' hi' j' u hu => ?_⟩
  have hi2 : i' < l.length := by simpa using hi'
  have hj' : j' < k := by
    rw [← hk ((l.set i y)[i'])]
    exact (List.getElem?_eq_some_iff.1 hu).1
  rw [Array.getElem?_setIfInBounds]
  by_cases e : i = i'
  · subst e
    rw [List.getElem_set_self, hy, List.getElem?_set] at hu
    by_cases e2 : j = j'
    · subst e2
      rw [if_pos rfl, if_pos (by rw [hk]; exact hj)] at hu
      rw [if_pos rfl, if_pos hb]
      exact hu
    · rw [if_neg e2] at hu
      rw [if_neg (by omega)]
      exact h5 i hi2 j' u hu
  · rw [List.getElem_set_ne e] at hu
    have hne : i * k + j ≠ i' * k + j' := by
      rcases Nat.lt_or_gt_of_ne e with e3 | e3
      · have : (i + 1) * k ≤ i' * k := Nat.mul_le_mul_right k e3
        rw [Nat.add_mul] at this
        omega
      · have : (i' + 1) * k ≤ i * k := Nat.mul_le_mul_right k e3
        rw [Nat.add_mul] at this
        omega
    rw [if_neg hne]
    exact h5 i' hi2 j' u hu
theorem MutR.far (h : MutR enc k t w G c l) {p : Addr} (hp : p.block ≠ G) (v : Value) : MutR enc k t (w.setCell p v) G c l := h.keep (Below.heap_setCell w p v G (fun e => hp e.symm))
end

abbrev Ce.val (x : Ce) : Value := .agg #[.string x.key, .int .i64 x.left, .int .i64 x.right, .int .i64 x.lock, .bool x.gone]
abbrev Po.val (x : Po) : Value := .agg #[.int .i64 x.kind, .int .i64 x.cell, .int .i64 x.phase, .int .i64 x.pred, .int .i64 x.succ, .int .i64 x.next, .bool x.res]
def Ce.row (x : Ce) : List Value := [.string x.key, .int .i64 x.left, .int .i64 x.right, .int .i64 x.lock, .bool x.gone]
def Po.row (x : Po) : List Value := [.int .i64 x.kind, .int .i64 x.cell, .int .i64 x.phase, .int .i64 x.pred, .int .i64 x.succ, .int .i64 x.next, .bool x.res]
theorem Ce.row_len (x : Ce) : x.row.length = 5 := rfl
theorem Po.row_len (x : Po) : x.row.length = 7 := rfl
theorem Ls.at_lt (l : Ls) {i : Nat} (h : i < l.cs.length) : l.cs[i] = l.at_ i := by unfold Ls.at_; rw [List.getD_eq_getElem?_getD, List.getElem?_eq_getElem h]; rfl
theorem Ls.pr_lt (l : Ls) {p : Nat} (h : p < l.ps.length) : l.ps[p] = l.pr p := by unfold Ls.pr; rw [List.getD_eq_getElem?_getD, List.getElem?_eq_getElem h]; rfl

/-- The five facts on a cell of a list, the seven on a process. -/
def CeAt (w : World) (b o : Nat) (x : Ce) : Prop := w.cell? ⟨b, o, none⟩ = some (.string x.key) ∧ w.cell? ⟨b, o + 1, none⟩ = some (.int .i64 x.left) ∧ w.cell? ⟨b, o + 2, none⟩ = some (.int .i64 x.right) ∧ w.cell? ⟨b, o + 3, none⟩ = some (.int .i64 x.lock) ∧ w.cell? ⟨b, o + 4, none⟩ = some (.bool x.gone)
def PoAt (w : World) (b o : Nat) (x : Po) : Prop := w.cell? ⟨b, o, none⟩ = some (.int .i64 x.kind) ∧ w.cell? ⟨b, o + 1, none⟩ = some (.int .i64 x.cell) ∧ w.cell? ⟨b, o + 2, none⟩ = some (.int .i64 x.phase) ∧ w.cell? ⟨b, o + 3, none⟩ = some (.int .i64 x.pred) ∧ w.cell? ⟨b, o + 4, none⟩ = some (.int .i64 x.succ) ∧ w.cell? ⟨b, o + 5, none⟩ = some (.int .i64 x.next) ∧ w.cell? ⟨b, o + 6, none⟩ = some (.bool x.res)
def Ces (w : World) (lo : Nat) (A : Option Addr) (cs : List Ce) : Prop := RdR Ce.row 5 w lo A cs
def Pos (w : World) (lo : Nat) (A : Option Addr) (ps : List Po) : Prop := RdR Po.row 7 w lo A ps
section
variable {w w' : World} {lo : Nat} {A : Option Addr}
theorem Ces.at_ {cs : List Ce} (h : Ces w lo A cs) {i : Nat} (hi : i < cs.length) : ∃ b o, A = some ⟨b, o, none⟩ ∧ lo ≤ b ∧ b < w.heap.size ∧ CeAt w b (o + i * 5) cs[i] := by
  obtain ⟨b, o, e, h1, h2, h3⟩ := RdR.at_ h hi
  exact ⟨b, o, e, h1, h2, h3 0 _ rfl, h3 1 _ rfl, h3 2 _ rfl, h3 3 _ rfl, h3 4 _ rfl⟩
theorem Pos.at_ {ps : List Po} (h : Pos w lo A ps) {i : Nat} (hi : i < ps.length) : ∃ b o, A = some ⟨b, o, none⟩ ∧ lo ≤ b ∧ b < w.heap.size ∧ PoAt w b (o + i * 7) ps[i] := by
  obtain ⟨b, o, e, h1, h2, h3⟩ := RdR.at_ h hi
  exact ⟨b, o, e, h1, h2, h3 0 _ rfl, h3 1 _ rfl, h3 2 _ rfl, h3 3 _ rfl, h3 4 _ rfl, h3 5 _ rfl, h3 6 _ rfl⟩
end
/-- A list as it is read. -/
structure RdL (w : World) (lo : Nat) (A1 A2 : Option Addr) (l : Ls) : Prop where
  cs : Ces w lo A1 l.cs
  ps : Pos w lo A2 l.ps
section
variable {w w' : World} {lo : Nat} {A1 A2 : Option Addr} {l : Ls}
theorem RdL.keep (h : RdL w lo A1 A2 l) (hs : w.heap.size ≤ w'.heap.size) (q : ∀ i, lo ≤ i → i < w.heap.size → w'.heap[i]? = w.heap[i]?) : RdL w' lo A1 A2 l := ⟨RdR.keep h.cs hs q, RdR.keep h.ps hs q⟩
theorem RdL.below (h : RdL w lo A1 A2 l) (q : Below w.heap.size w w') : RdL w' lo A1 A2 l := ⟨RdR.below h.cs q, RdR.below h.ps q⟩
theorem RdL.step (h : RdL w lo A1 A2 l) {g : Nat} (hg : g < lo) (q : TStep w g w') : RdL w' lo A1 A2 l := ⟨RdR.step h.cs hg q, RdR.step h.ps hg q⟩
theorem RdL.low (h : RdL w lo A1 A2 l) {lo' : Nat} (hl : lo' ≤ lo) : RdL w lo' A1 A2 l := ⟨RdR.low h.cs hl, RdR.low h.ps hl⟩
theorem RdL.cell (h : RdL w lo A1 A2 l) {i : Nat} (hi : i < l.cs.length) : ∃ b o, A1 = some ⟨b, o, none⟩ ∧ lo ≤ b ∧ b < w.heap.size ∧ CeAt w b (o + i * 5) (l.at_ i) := by
  rw [← l.at_lt hi]
  exact h.cs.at_ hi
theorem RdL.proc (h : RdL w lo A1 A2 l) {i : Nat} (hi : i < l.ps.length) : ∃ b o, A2 = some ⟨b, o, none⟩ ∧ lo ≤ b ∧ b < w.heap.size ∧ PoAt w b (o + i * 7) (l.pr i) := by
  rw [← l.pr_lt hi]
  exact h.ps.at_ hi
end
/-- A list that is changed in place. -/
structure MemL (w : World) (base G1 G2 c1 c2 : Nat) (l : Ls) : Prop where
  cs : MutR Ce.row 5 66 w G1 c1 l.cs
  ps : MutR Po.row 7 63 w G2 c2 l.ps
  ne : G1 ≠ G2
  b1 : base ≤ G1
  b2 : base ≤ G2
section
variable {w w' : World} {base G1 G2 c1 c2 : Nat} {l : Ls}
theorem MemL.keep (h : MemL w base G1 G2 c1 c2 l) (q : ∀ i, base ≤ i → i < w.heap.size → w'.heap[i]? = w.heap[i]?) : MemL w' base G1 G2 c1 c2 l := ⟨h.cs.keep (q G1 h.b1 h.cs.lt), h.ps.keep (q G2 h.b2 h.ps.lt), h.ne, h.b1, h.b2⟩
theorem MemL.below (h : MemL w base G1 G2 c1 c2 l) (q : Below w.heap.size w w') : MemL w' base G1 G2 c1 c2 l := h.keep fun i _ h2 => q.block i h2
theorem MemL.cell (h : MemL w base G1 G2 c1 c2 l) {i : Nat} (hi : i < l.cs.length) : CeAt w G1 (i * 5) (l.at_ i) := by
  rw [← l.at_lt hi]
  exact ⟨h.cs.cell hi (j := 0) rfl, h.cs.cell hi (j := 1) rfl, h.cs.cell hi (j := 2) rfl, h.cs.cell hi (j := 3) rfl, h.cs.cell hi (j := 4) rfl⟩
theorem MemL.proc (h : MemL w base G1 G2 c1 c2 l) {i : Nat} (hi : i < l.ps.length) : PoAt w G2 (i * 7) (l.pr i) := by
  rw [← l.pr_lt hi]
  exact ⟨h.ps.cell hi (j := 0) rfl, h.ps.cell hi (j := 1) rfl, h.ps.cell hi (j := 2) rfl, h.ps.cell hi (j := 3) rfl, h.ps.cell hi (j := 4) rfl, h.ps.cell hi (j := 5) rfl, h.ps.cell hi (j := 6) rfl⟩
theorem MemL.fz (h : MemL w base G1 G2 c1 c2 l) : (∀ o, w.frozen? ⟨G1, o, none⟩ = false) ∧ ∀ o, w.frozen? ⟨G2, o, none⟩ = false := ⟨h.cs.frozen, h.ps.frozen⟩
theorem MemL.setC (h : MemL w base G1 G2 c1 c2 l) {i : Nat} (hi : i < l.cs.length) (j : Nat) (hj : j < 5) (v : Value) (y : Ce) (hy : y.row = (l.at_ i).row.set j v) : MemL (w.setCell ⟨G1, i * 5 + j, none⟩ v) base G1 G2 c1 c2 (l.setC i y) :=
  ⟨h.cs.put Ce.row_len hi hj v y (by rw [l.at_lt hi]; exact hy), h.ps.far h.ne v, h.ne, h.b1, h.b2⟩
theorem MemL.setP (h : MemL w base G1 G2 c1 c2 l) {i : Nat} (hi : i < l.ps.length) (j : Nat) (hj : j < 7) (v : Value) (y : Po) (hy : y.row = (l.pr i).row.set j v) : MemL (w.setCell ⟨G2, i * 7 + j, none⟩ v) base G1 G2 c1 c2 (l.setP i y) :=
  ⟨h.cs.far (fun e => h.ne e.symm) v, h.ps.put Po.row_len hi hj v y (by rw [l.pr_lt hi]; exact hy), h.ne, h.b1, h.b2⟩
theorem MemL.rd (h : MemL w base G1 G2 c1 c2 l) : RdL w base (some ⟨G1, 0, none⟩) (some ⟨G2, 0, none⟩) l := ⟨h.cs.rd h.b1, h.ps.rd h.b2⟩
end
theorem Ls.setP_setP (l : Ls) (p : Nat) (x y : Po) : (l.setP p x).setP p y = l.setP p y := by unfold Ls.setP; rw [List.set_set]
theorem Ls.setC_setC (l : Ls) (p : Nat) (x y : Ce) : (l.setC p x).setC p y = l.setC p y := by unfold Ls.setC; rw [List.set_set]
theorem Ls.pr_self (l : Ls) {p : Nat} (h : p < l.ps.length) (x : Po) : (l.setP p x).pr p = x := by rw [Ls.pr_setP l h, if_pos rfl]
theorem Ls.at_self (l : Ls) {p : Nat} (h : p < l.cs.length) (x : Ce) : (l.setC p x).at_ p = x := by rw [Ls.at_setC l h, if_pos rfl]
end Lk
end Go.Proofs.YtmhbloefmknikaaGreatDoor
