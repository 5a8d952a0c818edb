/-
  Rows of any kind of element: rows of the call's own, and append to them. No condition.
-/
import Derived.Test.YtmhbloefmknikaaGreatDoorKzA
import Derived.Deep.AppendLies
import Derived.Maps.AppendAt
namespace Go.Proofs.YtmhbloefmknikaaGreatDoor
open Go.RowKit Go.Maps
namespace Lk

/-- What a type of elements must have to lie in rows. -/
structure RowT {α : Type} (P : Program) (t e : TypeId) (k : Nat) (enc : α → List Value) : Prop where
  len : ∀ x, (enc x).length = k
  ones : ∀ x, ∀ u ∈ enc x, u.oneCell' = true
  pos : 0 < k
  und : P.underlying t = some (.slice e)
  inf : ∃ i z, P.info? e = some i ∧ i.zero = some z ∧ i.size = k ∧ z.cells.size = k ∧ i.bytes ≤ 100
def OwnR {α : Type} (enc : α → List Value) (k : Nat) (e : TypeId) (w : World) (base : Nat) (v : Value) (l : List α) : Prop := w.ownsRow base e k v l.length (l.flatMap enc)
section
variable {α : Type} {enc : α → List Value} {k : Nat} {e t : TypeId} {w w' : World} {base : Nat} {v : Value} {l : List α} {P : Program}
theorem OwnR.nil : OwnR enc k e w base (.slice none 0 0) [] := World.ownsRow_nil _ _ _ _
theorem OwnR.lt (h : OwnR enc k e w base v l) : ∀ j, v.ownBlock = some j → base ≤ j ∧ j < w.heap.size := World.ownsRow.lt h
theorem OwnR.blk (h : OwnR enc k e w base v l) (q : ∀ i, base ≤ i → i < w.heap.size → v.ownBlock = some i → w'.heap[i]? = w.heap[i]?) : OwnR enc k e w' base v l := by
  obtain ⟨h1, h2 | ⟨g, cap, cur, h3, h4, h5, h6⟩⟩ := h
  · exact ⟨h1, .inl h2⟩
  · exact ⟨h1, .inr ⟨g, cap, cur, h3, h4, (q g h4 (Has.lt h5) (by rw [h3]; rfl)).trans h5, h6⟩⟩
theorem OwnR.keep (h : OwnR enc k e w base v l) (q : ∀ i, base ≤ i → i < w.heap.size → w'.heap[i]? = w.heap[i]?) : OwnR enc k e w' base v l := h.blk fun i h1 h2 _ => q i h1 h2
theorem OwnR.below (h : OwnR enc k e w base v l) (q : Below w.heap.size w w') : OwnR enc k e w' base v l := h.keep fun i _ h2 => q.block i h2
theorem OwnR.step (h : OwnR enc k e w base v l) {g : Nat} (hg : g < base) (q : TStep w g w') : OwnR enc k e w' base v l := h.keep fun i h1 hi => q.2.block i hi (fun e => by have := Option.some.inj e; omega)
theorem OwnR.grown (h : OwnR enc k e w base v l) {row : Option Nat} (q : w.grownBy w' row) (hne : v.ownBlock = none ∨ v.ownBlock ≠ row) : OwnR enc k e w' base v l := h.blk fun i _ h2 h3 => q.block i h2 fun e => by
  rcases hne with h4 | h4
  · rw [h4] at h3; cases h3
  · exact h4 (by rw [h3, ← e])
theorem OwnR.low (h : OwnR enc k e w base v l) {b : Nat} (hb : b ≤ base) : OwnR enc k e w b v l := by
  obtain ⟨h1, h2 | ⟨g, cap, cur, h3, h4, h5, h6⟩⟩ := h
  · exact ⟨h1, .inl h2⟩
  · exact ⟨h1, .inr ⟨g, cap, cur, h3, by omega, h5, h6⟩⟩
theorem OwnR.mut (h : OwnR enc k e w base v l) (hk : ∀ x, (enc x).length = k) (hn : l ≠ []) : ∃ G c, v = .slice (some ⟨G, 0, none⟩) l.length c ∧ base ≤ G ∧ MutR enc k e w G c l := MutR.own hk h hn
theorem OwnR.read (h : OwnR enc k e w base v l) (hk : ∀ x, (enc x).length = k) : ∃ A c, v = .slice A l.length c ∧ l.length ≤ c ∧ c ≤ maxLen ∧ RdR enc k w base A l := by
  by_cases hn : l = []
  · subst hn
    obtain ⟨h1, ⟨rfl, h2⟩ | ⟨G, cap, cur, rfl, h4, h5, h6, h7, h8⟩⟩ := h
    · exact ⟨none, 0, rfl, Nat.le_refl _, Nat.zero_le _, RdR.nil⟩
    · exact ⟨_, cap, rfl, h6, h7, RdR.nil⟩
  · obtain ⟨G, c, e, h1, h2⟩ := h.mut hk hn
    exact ⟨_, c, e, h2.1, h2.2.1, h2.rd h1⟩
theorem OwnR.shape (h : OwnR enc k e w base v l) : ∃ A c, v = .slice A l.length c := by
  obtain ⟨h1, ⟨rfl, h2⟩ | ⟨G, cap, cur, rfl, h4, h5, h6, h7, h8⟩⟩ := h
  · exact ⟨none, 0, by rw [h2]⟩
  · exact ⟨_, cap, rfl⟩
theorem flat_ones (R : RowT P t e k enc) (l : List α) : ∀ u ∈ l.flatMap enc, u.oneCell' = true := fun u hu => by
  obtain ⟨x, _, h⟩ := List.mem_flatMap.1 hu
  exact R.ones x u h
theorem add_at (G o j : Nat) : (⟨G, o, none⟩ : Addr).add j = ⟨G, o + j, none⟩ := by unfold Addr.add; split <;> simp_all
theorem run_pushR_nil (R : RowT P t e k enc) (w : World) (base : Nat) (ty : TypeId) (v : Value) (l : List α) (hown : OwnR enc k e w base v l) (A : Option Addr) (c : Nat) : (Builtin.append_ #[t, t] ty #[v, .slice A 0 c]).run P w = .ok v w := by
  have ht := R.und
  obtain ⟨i, z, hi, _⟩ := R.inf
  cases A with
  | none =>
    rcases hown.2 with ⟨rfl, _⟩ | ⟨g, cap, cur, rfl, _, _, hnc, _⟩
    · simp [Builtin.append_, run_underlying ht, sizeOf, typeInfo, hi, Builtin.lenOf, Builtin.firstCells]
    · simp [Builtin.append_, run_underlying ht, sizeOf, typeInfo, hi, Builtin.lenOf, Builtin.firstCells, hnc, storeCells]
  | some ad =>
    rcases hown.2 with ⟨rfl, _⟩ | ⟨g, cap, cur, rfl, _, _, hnc, _⟩
    · simp [Builtin.append_, run_underlying ht, sizeOf, typeInfo, hi, Builtin.lenOf, Builtin.firstCells, loadCells, loadCellsFrom]
    · simp [Builtin.append_, run_underlying ht, sizeOf, typeInfo, hi, Builtin.lenOf, Builtin.firstCells, hnc, storeCells, loadCells, loadCellsFrom]
/-- append of a list that is read. -/
theorem run_pushRs (R : RowT P t e k enc) (w : World) (base lo : Nat) (ty : TypeId) (v : Value) (l : List α) (hown : OwnR enc k e w base v l) (A : Option Addr) (m : List α) (n c : Nat) (hn : m.length = n) (hm : RdR enc k w lo A m) (hlen : l.length + n ≤ 1000000) (hbase : base ≤ w.heap.size) :
    ∃ v' w', (Builtin.append_ #[t, t] ty #[v, .slice A n c]).run P w = .ok v' w' ∧ OwnR enc k e w' base v' (l ++ m) ∧ w.grownBy w' v.ownBlock ∧ (v'.ownBlock = v.ownBlock ∨ v'.ownBlock = some w.heap.size) := by
  subst hn
  by_cases hm0 : m = []
  · subst hm0
    exact ⟨v, w, run_pushR_nil R w base ty v l hown A c, by rw [List.append_nil]; exact hown, grownBy_refl _ _, .inl rfl⟩
  · obtain ⟨b, o, e1, hb1, hb2, hcs⟩ := hm hm0
    subst e1
    obtain ⟨i, z, hi, hz, hs, hzs, hby⟩ := R.inf
    obtain ⟨v', w', hrun, h2, hg, _, hat⟩ := run_append_own_at (P := P) w base t ty e i z k i.bytes R.und hi hz hs rfl hzs R.pos v l.length (l.flatMap enc) hown ⟨b, o, none⟩ m.length c (m.flatMap enc) (flat_size R.len m) (fun j u hj => by
      have h0 : j < m.length * k := by rw [← flat_size R.len m]; exact (List.getElem?_eq_some_iff.1 hj).1
      have hi : j / k < m.length := (Nat.div_lt_iff_lt_mul R.pos).2 h0
      have hjk : j % k < k := Nat.mod_lt _ R.pos
      have hmm : j / k * k + j % k = j := by rw [Nat.mul_comm]; exact Nat.div_add_mod j k
      have h6 := flat_row R.len m (j / k) hi (j % k) hjk
      rw [hmm] at h6
      rw [h6] at hj
      have := hcs (j / k) hi (j % k) u hj
      rw [Nat.add_assoc, hmm] at this
      rw [add_at]
      exact this) (flat_ones R m) (by unfold maxLen; omega) (Nat.le_trans (Nat.mul_le_mul hlen hby) (by decide)) hbase
    refine ⟨v', w', hrun, ?_, hg, hat⟩
    unfold OwnR
    rw [List.flatMap_append, List.length_append]
    exact h2
theorem step_pushRs (R : RowT P t e k enc) {ops : Array Oper} {o : Oper} {a : Act} {w : World} {K : Act → World → Prop} {Q : Exit → Act → World → Prop} {E : Prop} (hgd : o.guard = none) (s x : Operand)
    (ho : o.op = .call { callee := .builtin .append, args := #[s, x], argTypes := #[t, t] })
    (base lo : Nat) (v : Value) (l : List α) (hs : a.eval s = v) (hown : OwnR enc k e w base v l) (A : Option Addr) (m : List α) (n c : Nat) (hn : m.length = n) (hx : a.eval x = .slice A n c) (hm : RdR enc k w lo A m) (hlen : l.length + n ≤ 1000000) (hbase : base ≤ w.heap.size)
    (h : ∀ v' w', OwnR enc k e w' base v' (l ++ m) → w.grownBy w' v.ownBlock → (v'.ownBlock = v.ownBlock ∨ v'.ownBlock = some w.heap.size) → K (a.put o.dst v') w') :
    if Region.wanted o (yielded ops a.tmps) = true then Oper.wp P o a w K Q else E := by
  have hw : Region.wanted o (yielded ops a.tmps) = true := by simp [Region.wanted, hgd]
  rw [if_pos hw]
  obtain ⟨v', w', hr, h2, h3, h4⟩ := run_pushRs R w base lo o.type v l hown A m n c hn hm hlen hbase
  unfold Oper.wp execOp
  simp only [ho, resolve, invoke, builtin, Sem.run_bind, Sem.run_pure, Result.andThen_ok, List.map_toArray, List.map_cons, List.map_nil, hs, hx, hr]
  exact h v' w' h2 h3 h4
theorem wpList_pushRs (R : RowT P t e k enc) {ops : Array Oper} {rest : List Oper} {o : Oper} {a : Act} {Q : Exit → Act → World → Prop} {w : World} (hgd : o.guard = none) (s x : Operand)
    (ho : o.op = .call { callee := .builtin .append, args := #[s, x], argTypes := #[t, t] })
    (base lo : Nat) (v : Value) (l : List α) (hs : a.eval s = v) (hown : OwnR enc k e w base v l) (A : Option Addr) (m : List α) (n c : Nat) (hn : m.length = n) (hx : a.eval x = .slice A n c) (hm : RdR enc k w lo A m) (hlen : l.length + n ≤ 1000000) (hbase : base ≤ w.heap.size)
    (h : ∀ v' w', OwnR enc k e w' base v' (l ++ m) → w.grownBy w' v.ownBlock → (v'.ownBlock = v.ownBlock ∨ v'.ownBlock = some w.heap.size) → wpList P ops Q rest (a.put o.dst v') w') : wpList P ops Q (o :: rest) a w := by
  refine wpList_plain hgd fun K hK => ?_
  obtain ⟨v', w', hr, h2, h3, h4⟩ := run_pushRs R w base lo o.type v l hown A m n c hn hm hlen hbase
  unfold Oper.wp execOp
  simp only [ho, resolve, invoke, builtin, Sem.run_bind, Sem.run_pure, Result.andThen_ok, List.map_toArray, List.map_cons, List.map_nil, hs, hx, hr]
  exact hK _ _ (h v' w' h2 h3 h4)
/-- One element in a new block reads as a row of one. -/
theorem RdR.new (_hk : ∀ x, (enc x).length = k) (w : World) (y : α) (cs : Array Value) (hc : cs = (enc y).toArray) : RdR enc k (w.alloc (.cells cs e)) w.heap.size (some ⟨w.heap.size, 0, none⟩) [y] := fun _ => by
  refine ⟨w.heap.size, 0, rfl, Nat.le_refl _, by rw [World.size_alloc]; omega, fun i hi j u hu => ?_⟩
  have hi0 : i = 0 := by simp at hi; exact hi
  subst hi0
  subst hc
  rw [show 0 + 0 * k + j = j by omega, (Has.new w e (enc y).toArray).cell]
  simpa using hu
/-- append of one element, which lies in the block that was just made. -/
theorem wpList_pushR (R : RowT P t e k enc) {ops : Array Oper} {rest : List Oper} {o : Oper} {a : Act} {Q : Exit → Act → World → Prop} (hgd : o.guard = none) (s x : Operand)
    (ho : o.op = .call { callee := .builtin .append, args := #[s, x], argTypes := #[t, t] })
    (base : Nat) (v : Value) (l : List α) (w0 : World) (y : α) (cs : Array Value) (hc : cs = (enc y).toArray) (hs : a.eval s = v) (hown : OwnR enc k e w0 base v l) (hx : a.eval x = .slice (some ⟨w0.heap.size, 0, none⟩) 1 1) (hlen : l.length < 1000000) (hbase : base ≤ w0.heap.size)
    (h : ∀ v' w', OwnR enc k e w' base v' (l ++ [y]) → w0.grownBy w' v.ownBlock → (v'.ownBlock = v.ownBlock ∨ ∃ q, w0.heap.size ≤ q ∧ v'.ownBlock = some q) → wpList P ops Q rest (a.put o.dst v') w') : wpList P ops Q (o :: rest) a (w0.alloc (.cells cs e)) :=
  wpList_pushRs R hgd s x ho base w0.heap.size v l hs (hown.below ((Below.refl _ _).alloc (Nat.le_refl _) _)) _ [y] 1 1 rfl hx (RdR.new R.len w0 y cs hc) (by omega) (by rw [World.size_alloc]; omega) fun v' w' h1 h2 h3 =>
    h v' w' h1 ((World.grownBy_alloc w0 _ _).trans h2) (h3.imp id fun q => ⟨w0.heap.size + 1, by omega, by rw [q, World.size_alloc]⟩)
theorem step_pushR (R : RowT P t e k enc) {ops : Array Oper} {o : Oper} {a : Act} {K : Act → World → Prop} {Q : Exit → Act → World → Prop} {E : Prop} (hgd : o.guard = none) (s x : Operand)
    (ho : o.op = .call { callee := .builtin .append, args := #[s, x], argTypes := #[t, t] })
    (base : Nat) (v : Value) (l : List α) (w : World) (b c lo : Nat) (y : α) (hs : a.eval s = v) (hown : OwnR enc k e w base v l) (hx : a.eval x = .slice (some ⟨b, 0, none⟩) 1 c) (hm : RdR enc k w lo (some ⟨b, 0, none⟩) [y]) (hlen : l.length < 1000000) (hbase : base ≤ w.heap.size)
    (h : ∀ v' w', OwnR enc k e w' base v' (l ++ [y]) → w.grownBy w' v.ownBlock → (v'.ownBlock = v.ownBlock ∨ v'.ownBlock = some w.heap.size) → K (a.put o.dst v') w') :
    if Region.wanted o (yielded ops a.tmps) = true then Oper.wp P o a w K Q else E :=
  step_pushRs R hgd s x ho base lo v l hs hown _ [y] 1 c rfl hx hm (by omega) hbase h
/-- append([]T{}, s...): a copy. -/
theorem wpList_copyR (R : RowT P t e k enc) {ops : Array Oper} {rest : List Oper} {o : Oper} {a : Act} {Q : Exit → Act → World → Prop} (hgd : o.guard = none) (s x : Operand)
    (ho : o.op = .call { callee := .builtin .append, args := #[s, x], argTypes := #[t, t] })
    (w : World) (lo : Nat) (A : Option Addr) (m : List α) (n c : Nat) (hn : m.length = n) (hm : RdR enc k w lo A m) (hlen : n ≤ 1000000) (hs : a.eval s = .slice (some ⟨w.heap.size, 0, none⟩) 0 0) (hx : a.eval x = .slice A n c)
    (h : ∀ v' w', OwnR enc k e w' w.heap.size v' m → Below w.heap.size w w' → wpList P ops Q rest (a.put o.dst v') w') : wpList P ops Q (o :: rest) a (w.alloc (.cells #[] e)) := by
  have h0 : OwnR enc k e (w.alloc (.cells #[] e)) w.heap.size (.slice (some ⟨w.heap.size, 0, none⟩) 0 0) [] := ⟨by simp, .inr ⟨w.heap.size, 0, #[], rfl, Nat.le_refl _, Has.new w _ _, Nat.le_refl _, Nat.zero_le _, by simp, by simp⟩⟩
  have hb := (Below.refl w.heap.size w).alloc (Nat.le_refl _) (.cells #[] e)
  refine wpList_pushRs R hgd s x ho w.heap.size lo _ [] hs h0 A m n c hn hx (RdR.below hm hb) (by simpa using hlen) hb.size fun v' w' h1 h2 h3 => h v' w' h1 (hb.trans ⟨h2.os, h2.tape, h2.output, h2.size, fun j hj => h2.block j (by rw [World.size_alloc]; omega) (fun e => by have := Option.some.inj e; simp at this; omega)⟩)
end
theorem grown_below {w w' : World} {B : Nat} {row : Option Nat} (h : w.grownBy w' row) (hB : B ≤ w.heap.size) (hr : ∀ j, row = some j → B ≤ j) : Below B w w' := ⟨h.os, h.tape, h.output, h.size, fun j hj => h.block j (by omega) fun e => by have := hr j e.symm; omega⟩
def nrow (x : Int) : List Value := [.int .i64 x]
def trow (x : ByteArray) : List Value := [.string x]
def brow (x : Bool) : List Value := [.bool x]
theorem infoCe : (Tryz.prog.info? 66).map (fun i => (i.zero, i.size, i.bytes)) = some (some (.agg #[.string ⟨#[]⟩, .int .i64 0, .int .i64 0, .int .i64 0, .bool false]), 5, 48) := by kernel_rfl
theorem infoPo : (Tryz.prog.info? 63).map (fun i => (i.zero, i.size, i.bytes)) = some (some (.agg #[.int .i64 0, .int .i64 0, .int .i64 0, .int .i64 0, .int .i64 0, .int .i64 0, .bool false]), 7, 56) := by kernel_rfl
theorem infoIn : (Tryz.prog.info? 3).map (fun i => (i.zero, i.size, i.bytes)) = some (some (.int .i64 0), 1, 8) := by kernel_rfl
theorem infoTx : (Tryz.prog.info? 9).map (fun i => (i.zero, i.size, i.bytes)) = some (some (.string ⟨#[]⟩), 1, 16) := by kernel_rfl
theorem infoBo : (Tryz.prog.info? 4).map (fun i => (i.zero, i.size, i.bytes)) = some (some (.bool false), 1, 1) := by kernel_rfl
theorem inf_of {P : Program} {e : TypeId} {z : Value} {k b : Nat} (h : (P.info? e).map (fun i => (i.zero, i.size, i.bytes)) = some (some z, k, b)) (hz : z.cells.size = k) (hb : b ≤ 100) : ∃ i z, P.info? e = some i ∧ i.zero = some z ∧ i.size = k ∧ z.cells.size = k ∧ i.bytes ≤ 100 := by
  obtain ⟨i, h1, e⟩ := Option.map_eq_some_iff.1 h
  injection e with e1 e2
  injection e2 with e2 e3
  exact ⟨i, z, h1, e1, e2, hz, by omega⟩
theorem RowT.ce : RowT Tryz.prog 25 66 5 Ce.row := ⟨fun _ => rfl, fun x u hu => by
  unfold Ce.row at hu
  simp at hu
  rcases hu with rfl | rfl | rfl | rfl | rfl <;> rfl, by decide, Tryz.underlying25, inf_of infoCe rfl (by decide)⟩
theorem RowT.po : RowT Tryz.prog 26 63 7 Po.row := ⟨fun _ => rfl, fun x u hu => by
  unfold Po.row at hu
  simp at hu
  rcases hu with rfl | rfl | rfl | rfl | rfl | rfl | rfl <;> rfl, by decide, Tryz.underlying26, inf_of infoPo rfl (by decide)⟩
theorem RowT.nu : RowT Tryz.prog 22 3 1 nrow := ⟨fun _ => rfl, fun x u hu => by
  unfold nrow at hu
  simp at hu
  subst hu; rfl, by decide, Tryz.underlying22, inf_of infoIn rfl (by decide)⟩
theorem RowT.tx : RowT Tryz.prog 54 9 1 trow := ⟨fun _ => rfl, fun x u hu => by
  unfold trow at hu
  simp at hu
  subst hu; rfl, by decide, Tryz.underlying54, inf_of infoTx rfl (by decide)⟩
theorem RowT.bo : RowT Tryz.prog 55 4 1 brow := ⟨fun _ => rfl, fun x u hu => by
  unfold brow at hu
  simp at hu
  subst hu; rfl, by decide, Tryz.underlying55, inf_of infoBo rfl (by decide)⟩
/-- Rows of numbers, of texts, of truths, as they are read. -/
theorem num_at {w : World} {lo : Nat} {A : Option Addr} {l : List Int} (h : RdR nrow 1 w lo A l) {i : Nat} (hi : i < l.length) : ∃ b o, A = some ⟨b, o, none⟩ ∧ lo ≤ b ∧ b < w.heap.size ∧ w.cell? ⟨b, o + i, none⟩ = some (.int .i64 l[i]) := by
  obtain ⟨b, o, e, h1, h2, h3⟩ := h.at_ hi
  have := h3 0 _ rfl
  rw [Nat.mul_one] at this
  exact ⟨b, o, e, h1, h2, this⟩
theorem text_at {w : World} {lo : Nat} {A : Option Addr} {l : List ByteArray} (h : RdR trow 1 w lo A l) {i : Nat} (hi : i < l.length) : ∃ b o, A = some ⟨b, o, none⟩ ∧ lo ≤ b ∧ b < w.heap.size ∧ w.cell? ⟨b, o + i, none⟩ = some (.string l[i]) := by
  obtain ⟨b, o, e, h1, h2, h3⟩ := h.at_ hi
  have := h3 0 _ rfl
  rw [Nat.mul_one] at this
  exact ⟨b, o, e, h1, h2, this⟩
theorem bool_at {w : World} {lo : Nat} {A : Option Addr} {l : List Bool} (h : RdR brow 1 w lo A l) {i : Nat} (hi : i < l.length) : ∃ b o, A = some ⟨b, o, none⟩ ∧ lo ≤ b ∧ b < w.heap.size ∧ w.cell? ⟨b, o + i, none⟩ = some (.bool l[i]) := by
  obtain ⟨b, o, e, h1, h2, h3⟩ := h.at_ hi
  have := h3 0 _ rfl
  rw [Nat.mul_one] at this
  exact ⟨b, o, e, h1, h2, this⟩
/-- slices.Clone of cells, of processes. -/
def CloP {α : Type} (enc : α → List Value) (k : Nat) (e : TypeId) (l : List α) (n : Nat) (w : World) (en : Ending) (w' : World) : Prop := ∃ G d, en = .returned (.slice (some ⟨G, 0, none⟩) n d) ∧ w.heap.size ≤ G ∧ MutR enc k e w' G d l ∧ Below w.heap.size w w'
theorem cloP_mk {α : Type} {enc : α → List Value} {k : Nat} {e : TypeId} {l : List α} {n : Nat} {w w' : World} {v : Value} (hk : ∀ x, (enc x).length = k) (hn : l.length = n) (h0 : 0 < n) (h : OwnR enc k e w' w.heap.size v l) (hb : Below w.heap.size w w') : CloP enc k e l n w (.returned v) w' := by
  obtain ⟨G, d, e1, b1, m1⟩ := h.mut hk (by intro e; rw [e] at hn; simp at hn; omega)
  rw [hn] at e1
  exact ⟨G, d, by rw [e1], b1, m1, hb⟩
set_option maxRecDepth 100000 in
set_option maxHeartbeats 800000 in
theorem cloneC_any (A : Addr) (l : List Ce) (n c lo : Nat) (w : World) (hn : l.length = n) (hl : Ces w lo (some A) l) (hlen : n ≤ 1000000) (h0 : 0 < n) :
    Calls Tryz.prog 96 #[.slice (some A) n c] w (CloP Ce.row 5 66 l n w) := by
  have q23 : ∀ (w : World) (a : Option Addr) (n c n' c' : Nat), (binOp .eql 25 (.slice a n c) (.slice none n' c')).run Tryz.prog w = .ok (.bool a.isNone) w := fun w a n c n' c' => Lib.run_eql_slice_nil w _ _ a n c n' c' Tryz.underlying25
  go_enter Tryz.func96, Tryz.ntmps96
  go_wp2_with (at_builtin; refine wpList_copyR RowT.ce rfl _ _ rfl w lo (some A) l n c hn hl hlen rfl rfl ?_; intro v1 w1 ho hb)
  go_ret
  exact cloP_mk Ce.row_len hn h0 ho hb
set_option maxRecDepth 100000 in
set_option maxHeartbeats 800000 in
theorem cloneP_any (A : Addr) (l : List Po) (n c lo : Nat) (w : World) (hn : l.length = n) (hl : Pos w lo (some A) l) (hlen : n ≤ 1000000) (h0 : 0 < n) :
    Calls Tryz.prog 97 #[.slice (some A) n c] w (CloP Po.row 7 63 l n w) := by
  have q23 : ∀ (w : World) (a : Option Addr) (n c n' c' : Nat), (binOp .eql 26 (.slice a n c) (.slice none n' c')).run Tryz.prog w = .ok (.bool a.isNone) w := fun w a n c n' c' => Lib.run_eql_slice_nil w _ _ a n c n' c' Tryz.underlying26
  go_enter Tryz.func97, Tryz.ntmps97
  go_wp2_with (at_builtin; refine wpList_copyR RowT.po rfl _ _ rfl w lo (some A) l n c hn hl hlen rfl rfl ?_; intro v1 w1 ho hb)
  go_ret
  exact cloP_mk Po.row_len hn h0 ho hb
end Lk
end Go.Proofs.YtmhbloefmknikaaGreatDoor
