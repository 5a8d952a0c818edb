/-
  Words on slices of bytes: one that is read, one that the call made and appends to. No condition.
-/
import Derived.Test.YtmhbloefmknikaaGreatDoorKwT
import Derived.OwnWalk
import Derived.Maps.AppendAt
import Derived.Deep.AppendLies
import Derived.Laws.BytesArg
import Derived.Laws.IdiomStrings
import Derived.Lib.AppendStr
namespace Go.Proofs.YtmhbloefmknikaaGreatDoor
open Go.RowKit

/-- Bytes as cells. -/
def bv (l : List UInt8) : List Value := l.map fun c => Value.int .u8 (c.toNat : Int)
theorem bv_len (l : List UInt8) : (bv l).length = l.length := by simp [bv]
theorem bv_append (a b : List UInt8) : bv (a ++ b) = bv a ++ bv b := by simp [bv]
theorem bv_at (l : List UInt8) (i : Nat) : (bv l)[i]? = l[i]?.map fun c => Value.int .u8 (c.toNat : Int) := by simp [bv]
theorem bv_get {l : List UInt8} {i : Nat} (h : i < l.length) : (bv l)[i]? = some (.int .u8 (l[i].toNat : Int)) := by rw [bv_at, List.getElem?_eq_getElem h]; rfl
theorem bv_ones (l : List UInt8) : ∀ u ∈ bv l, u.oneCell' = true := by
  intro u hu
  simp only [bv, List.mem_map] at hu
  obtain ⟨b, _, rfl⟩ := hu
  rfl
theorem bv_str (s : ByteArray) : Lib.strCells s = bv s.data.toList := rfl

theorem block_add (a : Addr) (n : Nat) : (a.add n).block = a.block := by unfold Addr.add; split <;> rfl
theorem add_at (G o j : Nat) : (⟨G, o, none⟩ : Addr).add j = ⟨G, o + j, none⟩ := by unfold Addr.add; split <;> simp_all

/-- A slice of bytes below block B, as it is read. -/
def Bys (w : World) (B : Nat) (A : Option Addr) (l : List UInt8) : Prop :=
  l ≠ [] → ∃ b o, A = some ⟨b, o, none⟩ ∧ b < B ∧ ∀ i (h : i < l.length), w.cell? ⟨b, o + i, none⟩ = some (.int .u8 (l[i].toNat : Int))
section
variable {w w' : World} {B B' : Nat} {A : Option Addr} {l : List UInt8}
theorem Bys.nil (A : Option Addr) : Bys w B A [] := fun h => absurd rfl h
theorem Bys.keep (h : Bys w B A l) (k : ∀ i, i < B → w'.heap[i]? = w.heap[i]?) : Bys w' B A l := fun hn => by
  obtain ⟨b, o, e, hb, hc⟩ := h hn
  exact ⟨b, o, e, hb, fun i hi => (World.cell?_of_block (k b hb)).trans (hc i hi)⟩
theorem Bys.below (h : Bys w B A l) (k : Below B w w') : Bys w' B A l := h.keep k.block
theorem Bys.more (h : Bys w B A l) (hB : B ≤ B') : Bys w B' A l := fun hn => by
  obtain ⟨b, o, e, hb, hc⟩ := h hn
  exact ⟨b, o, e, by omega, hc⟩
theorem Bys.at_ (h : Bys w B A l) {i : Nat} (hi : i < l.length) : ∃ b o, A = some ⟨b, o, none⟩ ∧ b < B ∧ w.cell? ⟨b, o + i, none⟩ = some (.int .u8 (l[i].toNat : Int)) := by
  obtain ⟨b, o, e, hb, hc⟩ := h (by intro e; rw [e] at hi; simp at hi)
  exact ⟨b, o, e, hb, hc i hi⟩
/-- A part of it. -/
theorem Bys.cut (h : Bys w B A l) {k cap : Nat} (hc : l.length ≤ cap) : Bys w B (if cap = k then A else A.map (·.add k)) (l.drop k) := fun hn => by
  have hk : k < l.length := by
    rcases Nat.lt_or_ge k l.length with h1 | h1
    · exact h1
    · exact absurd (List.drop_eq_nil_of_le h1) hn
  obtain ⟨b, o, rfl, hb, hcell⟩ := h (by intro e; rw [e] at hk; simp at hk)
  rw [if_neg (by omega)]
  refine ⟨b, o + k, by simp [add_at], hb, fun i hi => ?_⟩
  have hi' : k + i < l.length := by rw [List.length_drop] at hi; omega
  rw [Nat.add_assoc, hcell (k + i) hi', List.getElem_drop]
theorem Bys.take (h : Bys w B A l) (k : Nat) : Bys w B A (l.take k) := fun hn => by
  obtain ⟨b, o, e, hb, hcell⟩ := h (by rintro rfl; simp at hn)
  refine ⟨b, o, e, hb, fun i hi => ?_⟩
  rw [List.length_take] at hi
  rw [hcell i (by omega), List.getElem_take]
theorem Bys.news (h : Bys w B A l) {ad : Addr} (e : A = some ad) : ∀ j u, (bv l)[j]? = some u → w.cell? (ad.add j) = some u := by
  intro j u hj
  rw [bv_at] at hj
  obtain ⟨c, hc, rfl⟩ := Option.map_eq_some_iff.1 hj
  have hlt : j < l.length := (List.getElem?_eq_some_iff.1 hc).1
  obtain ⟨b, o, e', hb, hcell⟩ := h.at_ hlt
  rw [e] at e'
  obtain rfl := Option.some.inj e'
  rw [add_at, hcell]
  rw [List.getElem?_eq_getElem hlt] at hc
  rw [Option.some.inj hc]
theorem Bys.drewN (h : Bys w B A l) (n : Nat) : Bys (w.drewN n) B A l := h
end

theorem infoByte : (Tryz.prog.info? 5).map (fun i => (i.zero, i.size, i.bytes)) = some (some (.int .u8 0), 1, 1) := by kernel_rfl

/-- A row of bytes of the call's own, from block base on. -/
def OwnB (w : World) (base : Nat) (v : Value) (l : List UInt8) : Prop := w.ownsRow base 5 1 v l.length (bv l)
/-- From v to v' by appends: of what was there only v's block has turned, and v' lies there or in a new block. -/
def Push (w : World) (v : Value) (w' : World) (v' : Value) : Prop := w.grownBy w' v.ownBlock ∧ (v'.ownBlock = v.ownBlock ∨ ∃ g, v'.ownBlock = some g ∧ w.heap.size ≤ g)
section
variable {w w' w1 : World} {base : Nat} {v v' v1 : Value} {l : List UInt8}
theorem OwnB.nil (w : World) (base : Nat) : OwnB w base (.slice none 0 0) [] := World.ownsRow_nil _ _ _ _
theorem OwnB.below (h : OwnB w base v l) (k : Below w.heap.size w w') : OwnB w' base v l := by
  obtain ⟨h1, h2 | ⟨g, cap, cur, h3, h4, h5, h6⟩⟩ := h
  · exact ⟨h1, .inl h2⟩
  · exact ⟨h1, .inr ⟨g, cap, cur, h3, h4, (k.block g (Has.lt h5)).trans h5, h6⟩⟩
theorem OwnB.alloc (h : OwnB w base v l) (o : Obj) : OwnB (w.alloc o) base v l := h.below ((Below.refl _ _).alloc (Nat.le_refl _) o)
theorem OwnB.base_le (h : OwnB w base v l) {g : Nat} (hg : v.ownBlock = some g) : base ≤ g ∧ g < w.heap.size := by
  obtain ⟨_, ⟨rfl, _⟩ | ⟨g', cap', cur, rfl, h4, h5, _⟩⟩ := h
  · cases hg
  · cases hg; exact ⟨h4, Has.lt h5⟩
theorem OwnB.less (h : OwnB w base v l) {b : Nat} (hb : b ≤ base) : OwnB w b v l := by
  obtain ⟨h1, h2 | ⟨g, cap, cur, h3, h4, h5⟩⟩ := h
  · exact ⟨h1, .inl h2⟩
  · exact ⟨h1, .inr ⟨g, cap, cur, h3, by omega, h5⟩⟩
theorem OwnB.read (h : OwnB w base v l) : ∃ A c, v = .slice A l.length c ∧ l.length ≤ c ∧ c ≤ maxLen ∧ Bys w w.heap.size A l := by
  obtain ⟨h1, ⟨rfl, h2⟩ | ⟨g, cap, cur, rfl, h4, h5, h6, h7, h8, h9⟩⟩ := h
  · have hl : l = [] := List.eq_nil_of_length_eq_zero h2
    subst hl
    exact ⟨none, 0, rfl, Nat.le_refl _, by unfold maxLen; omega, Bys.nil _⟩
  · refine ⟨_, cap, rfl, h6, h7, fun _ => ⟨g, 0, rfl, Has.lt h5, fun i hi => ?_⟩⟩
    rw [Nat.zero_add, Has.cell h5, ← Array.getElem?_toList]
    have h10 : (cur.toList.take (l.length * 1))[i]? = some (.int .u8 (l[i].toNat : Int)) := by rw [h9]; exact bv_get hi
    rw [List.getElem?_take_of_lt (by omega)] at h10
    exact h10
theorem Push.refl (w : World) (v : Value) : Push w v w v := ⟨World.grownBy.refl w _, .inl rfl⟩
theorem Push.trans (h : Push w v w1 v1) (k : Push w1 v1 w' v') : Push w v w' v' := by
  obtain ⟨hg, hl⟩ := h
  obtain ⟨kg, kl⟩ := k
  refine ⟨⟨kg.os.trans hg.os, kg.tape.trans hg.tape, kg.output.trans hg.output, Nat.le_trans hg.size kg.size, fun i hi hne => ?_⟩, ?_⟩
  · refine (kg.block i (Nat.lt_of_lt_of_le hi hg.size) ?_).trans (hg.block i hi hne)
    rcases hl with e | ⟨g, e, hge⟩
    · rw [e]; exact hne
    · rw [e]; intro e2; have := Option.some.inj e2; omega
  · rcases kl with e | ⟨g, e, hge⟩
    · rcases hl with e2 | ⟨g2, e2, hge2⟩
      · exact .inl (e.trans e2)
      · exact .inr ⟨g2, e.trans e2, hge2⟩
    · exact .inr ⟨g, e, Nat.le_trans hg.size hge⟩
theorem Push.pre (k : Below w.heap.size w w1) (h : Push w1 v w' v') : Push w v w' v' := by
  obtain ⟨hg, hl⟩ := h
  refine ⟨⟨hg.os.trans k.os, hg.tape.trans k.tape, hg.output.trans k.output, Nat.le_trans k.size hg.size, fun i hi hne => (hg.block i (Nat.lt_of_lt_of_le hi k.size) hne).trans (k.block i hi)⟩, ?_⟩
  rcases hl with e | ⟨g, e, hge⟩
  · exact .inl e
  · exact .inr ⟨g, e, Nat.le_trans k.size hge⟩
theorem Push.post (h : Push w v w1 v') (k : Below w1.heap.size w1 w') : Push w v w' v' := by
  obtain ⟨hg, hl⟩ := h
  refine ⟨⟨k.os.trans hg.os, k.tape.trans hg.tape, k.output.trans hg.output, Nat.le_trans hg.size k.size, fun i hi hne => (k.block i (Nat.lt_of_lt_of_le hi hg.size)).trans (hg.block i hi hne)⟩, hl⟩
/-- What lies below base is as it was. -/
theorem Push.below (h : Push w v w' v') (ho : OwnB w base v l) (_hb : base ≤ w.heap.size) : Below base w w' :=
  ⟨h.1.os, h.1.tape, h.1.output, h.1.size, fun i hi => h.1.block i (by omega) (fun e => by
    have := (ho.base_le e.symm).1
    omega)⟩
end

section
variable {P : Program}
/-- append of one byte, which lies in the block that was just made. -/
theorem wpList_push1 {ops : Array Oper} {rest : List Oper} {o : Oper} {a : Act} {Q : Exit → Act → World → Prop} (hgd : o.guard = none) (s x : Operand) (t : TypeId)
    (ho : o.op = .call { callee := .builtin .append, args := #[s, x], argTypes := #[t, t] })
    (base : Nat) (i : TypeInfo) (ht : P.underlying t = some (.slice 5)) (hi : P.info? 5 = some i) (hz : i.zero = some (.int .u8 0)) (hsize : i.size = 1) (hby : i.bytes = 1)
    (v : Value) (l : List UInt8) (w0 : World) (c : UInt8) (y : Int) (hy : y = (c.toNat : Int)) (hs : a.eval s = v) (hown : OwnB w0 base v l) (hx : a.eval x = .slice (some ⟨w0.heap.size, 0, none⟩) 1 1) (hlen : l.length < 140737488355328) (hbase : base ≤ w0.heap.size)
    (h : ∀ v' w', OwnB w' base v' (l ++ [c]) → Push w0 v w' v' → wpList P ops Q rest (a.put o.dst v') w') : wpList P ops Q (o :: rest) a (w0.alloc (.cells #[.int .u8 y] 5)) := by
  subst hy
  refine wpList_append_own_at _ hgd s x t ho base 5 i (.int .u8 0) 1 1 ht hi hz hsize hby rfl (by decide) v l.length (bv l) hs (hown.alloc _) ⟨w0.heap.size, 0, none⟩ 1 1 [.int .u8 (c.toNat : Int)] hx rfl (cell_one_new _ _ _) ?_ (by unfold maxLen; omega) (by omega) (by simp; omega) ?_
  · intro u hu; simp at hu; subst hu; rfl
  · intro v' w' ho' hg _ hat
    refine h v' w' ?_ (Push.pre ((Below.refl _ _).alloc (Nat.le_refl _) _) ⟨hg, ?_⟩)
    · unfold OwnB
      rw [bv_append, List.length_append]
      exact ho'
    · rcases hat with e | e
      · exact .inl e
      · exact .inr ⟨_, e, Nat.le_refl _⟩

theorem run_push_str (w : World) (base : Nat) (t u ty : TypeId) (i : TypeInfo) (ht : P.underlying t = some (.slice 5)) (hu : P.underlying u = some .string) (hi : P.info? 5 = some i) (hz : i.zero = some (.int .u8 0)) (hsize : i.size = 1) (hby : i.bytes = 1)
    (v : Value) (l : List UInt8) (hown : OwnB w base v l) (s : ByteArray) (hlen : l.length + s.size ≤ 140737488355328) (hbase : base ≤ w.heap.size) :
    ∃ v' w', (Builtin.append_ #[t, u] ty #[v, .string s]).run P w = .ok v' w' ∧ OwnB w' base v' (l ++ s.data.toList) ∧ Push w v w' v' := by
  obtain ⟨v', w', hr, h2, h3, _⟩ := Lib.run_append_own_string (P := P) w base t u ty 5 i ht hu hi hz hsize hby v l.length (bv l) hown s (by unfold maxLen; omega) hlen hbase
  refine ⟨v', w', hr, ?_, h3, ?_⟩
  · unfold OwnB
    rw [bv_append, List.length_append]
    exact h2
  · have hsmall : ((l.length + s.size : Nat) : Int) ≤ 9223372036854775807 := by omega
    obtain ⟨_, ⟨rfl, h0⟩ | ⟨g, cap, cur, rfl, hbg, hg, hnc, hcm, hcs, htake⟩⟩ := hown
    · rcases v'.ownBlock.eq_none_or_eq_some with e | ⟨g, e⟩
      · exact .inl (by rw [e]; rfl)
      · rw [h0] at hlen
        by_cases hm : s.size = 0
        · have hf := Lib.run_firstCells_string (P := P) w 1 s
          have hr2 : (Builtin.append_ #[t, u] ty #[.slice none 0 0, .string s]).run P w = .ok (.slice none 0 0) w := by
            rw [hm] at hf
            simp [Builtin.append_, run_underlying ht, run_underlying hu, sizeOf, typeInfo, hi, hsize, Builtin.lenOf, hm, hf]
          rw [hr2] at hr
          injection hr with hv _
          exact .inl (by rw [← hv])
        · have hr2 := run_append_nil_string (P := P) w t u ty 5 i (.int .u8 0) ht hu hi hz s (by omega) (by omega) (by rw [hby]; omega)
          rw [hr2] at hr
          injection hr with hv _
          exact .inr ⟨w.heap.size, by rw [← hv]; rfl, Nat.le_refl _⟩
    · have hcs' : cur.size = cap := by simpa using hcs
      by_cases hroom : l.length + s.size ≤ cap
      · have hr2 := Lib.run_append_room_string (P := P) w t u ty 5 i ht hu hi hsize g l.length cap cur hg s hroom (by omega)
        rw [hr2] at hr
        injection hr with hv _
        exact .inl (by rw [← hv]; rfl)
      · have holds : ∀ j u, (bv l)[j]? = some u → w.cell? ((⟨g, 0, none⟩ : Addr).add j) = some u := fun j u hj => by
          have hown' : OwnB w base (.slice (some ⟨g, 0, none⟩) l.length cap) l := ⟨by rw [bv_len]; omega, .inr ⟨g, cap, cur, rfl, hbg, hg, hnc, hcm, hcs, htake⟩⟩
          obtain ⟨A, c, e, _, _, hb⟩ := hown'.read
          injection e with e
          exact hb.news e.symm j u hj
        have hr2 := Lib.run_append_grow_string (P := P) w t u ty 5 i (.int .u8 0) ht hu hi hz ⟨g, 0, none⟩ l.length cap (bv l) (by rw [hsize, bv_len]; omega) holds s (by omega) (by omega) (by rw [hby]; exact growslice_fits (by omega) (by omega))
        rw [hr2] at hr
        injection hr with hv _
        exact .inr ⟨w.heap.size, by rw [← hv]; rfl, Nat.le_refl _⟩
/-- append of a string. -/
theorem wpList_pushS {ops : Array Oper} {rest : List Oper} {o : Oper} {a : Act} {Q : Exit → Act → World → Prop} {w : World} (hgd : o.guard = none) (sl x : Operand) (t u : TypeId)
    (ho : o.op = .call { callee := .builtin .append, args := #[sl, x], argTypes := #[t, u] })
    (base : Nat) (i : TypeInfo) (ht : P.underlying t = some (.slice 5)) (hu : P.underlying u = some .string) (hi : P.info? 5 = some i) (hz : i.zero = some (.int .u8 0)) (hsize : i.size = 1) (hby : i.bytes = 1)
    (v : Value) (l : List UInt8) (s : ByteArray) (hs : a.eval sl = v) (hown : OwnB w base v l) (hx : a.eval x = .string s) (hlen : l.length + s.size ≤ 140737488355328) (hbase : base ≤ w.heap.size)
    (h : ∀ v' w', OwnB w' base v' (l ++ s.data.toList) → Push w v w' v' → wpList P ops Q rest (a.put o.dst v') w') : wpList P ops Q (o :: rest) a w := by
  refine wpList_plain hgd fun K hK => ?_
  obtain ⟨v', w', hr, h2, h3⟩ := run_push_str (P := P) w base t u o.type i ht hu hi hz hsize hby v l hown s hlen hbase
  unfold Oper.wp execOp
  simp only [ho, resolve, invoke, builtin, Sem.run_bind, Sem.run_pure, Result.andThen_ok, List.map_toArray, List.map_cons, List.map_nil, hs, hx, hr]
  exact hK _ _ (h v' w' h2 h3)

theorem run_push_nil (w : World) (base : Nat) (t ty : TypeId) (i : TypeInfo) (ht : P.underlying t = some (.slice 5)) (hi : P.info? 5 = some i)
    (v : Value) (l : List UInt8) (hown : OwnB w base v l) (c : Nat) : (Builtin.append_ #[t, t] ty #[v, .slice none 0 c]).run P w = .ok v w := by
  rcases hown.2 with ⟨rfl, _⟩ | ⟨g, cap, cur, rfl, _, _, hnc, _⟩
  · simp [Builtin.append_, run_underlying ht, sizeOf, typeInfo, hi, Builtin.lenOf, Builtin.firstCells]
  · simp [Builtin.append_, run_underlying ht, sizeOf, typeInfo, hi, Builtin.lenOf, Builtin.firstCells, hnc, storeCells]
theorem run_pushL (w : World) (base : Nat) (t ty : TypeId) (i : TypeInfo) (ht : P.underlying t = some (.slice 5)) (hi : P.info? 5 = some i) (hz : i.zero = some (.int .u8 0)) (hsize : i.size = 1) (hby : i.bytes = 1)
    (v : Value) (l : List UInt8) (hown : OwnB w base v l) (B : Nat) (A : Option Addr) (m : List UInt8) (c : Nat) (hm : Bys w B A m) (hlen : l.length + m.length ≤ 140737488355328) (hbase : base ≤ w.heap.size) :
    ∃ v' w', (Builtin.append_ #[t, t] ty #[v, .slice A m.length c]).run P w = .ok v' w' ∧ OwnB w' base v' (l ++ m) ∧ Push w v w' v' := by
  cases A with
  | none =>
    have hm0 : m = [] := by
      rcases m with _ | ⟨x, m⟩
      · rfl
      · obtain ⟨b, o, e, _⟩ := hm (by simp)
        cases e
    subst hm0
    exact ⟨v, w, run_push_nil w base t ty i ht hi v l hown c, by rw [List.append_nil]; exact hown, Push.refl w v⟩
  | some ad =>
    obtain ⟨v', w', hrun, h2, h3, _, h5⟩ := run_append_own_at (P := P) w base t ty 5 i (.int .u8 0) 1 1 ht hi hz hsize hby rfl (by decide) v l.length (bv l) hown ad m.length c (bv m) (by rw [bv_len]; omega) (hm.news rfl) (bv_ones m) (by unfold maxLen; omega) (by omega) hbase
    refine ⟨v', w', hrun, ?_, h3, ?_⟩
    · unfold OwnB
      rw [bv_append, List.length_append]
      exact h2
    · rcases h5 with e | e
      · exact .inl e
      · exact .inr ⟨_, e, Nat.le_refl _⟩
/-- append of a slice that is read. -/
theorem wpList_pushL {ops : Array Oper} {rest : List Oper} {o : Oper} {a : Act} {Q : Exit → Act → World → Prop} {w : World} (hgd : o.guard = none) (s x : Operand) (t : TypeId)
    (ho : o.op = .call { callee := .builtin .append, args := #[s, x], argTypes := #[t, t] })
    (base : Nat) (i : TypeInfo) (ht : P.underlying t = some (.slice 5)) (hi : P.info? 5 = some i) (hz : i.zero = some (.int .u8 0)) (hsize : i.size = 1) (hby : i.bytes = 1)
    (v : Value) (l : List UInt8) (B : Nat) (A : Option Addr) (m : List UInt8) (c : Nat) (hs : a.eval s = v) (hown : OwnB w base v l) (hx : a.eval x = .slice A m.length c) (hm : Bys w B A m) (hlen : l.length + m.length ≤ 140737488355328) (hbase : base ≤ w.heap.size)
    (h : ∀ v' w', OwnB w' base v' (l ++ m) → Push w v w' v' → wpList P ops Q rest (a.put o.dst v') w') : wpList P ops Q (o :: rest) a w := by
  refine wpList_plain hgd fun K hK => ?_
  obtain ⟨v', w', hr, h2, h3⟩ := run_pushL (P := P) w base t o.type i ht hi hz hsize hby v l hown B A m c hm hlen hbase
  unfold Oper.wp execOp
  simp only [ho, resolve, invoke, builtin, Sem.run_bind, Sem.run_pure, Result.andThen_ok, List.map_toArray, List.map_cons, List.map_nil, hs, hx, hr]
  exact hK _ _ (h v' w' h2 h3)

/-- A slice of bytes as a string. -/
theorem run_str (w : World) (B : Nat) (A : Option Addr) (m : List UInt8) (c : Nat) (hm : Bys w B A m) (src dst : TypeId) (hs : P.underlying src = some (.slice 5)) (he : P.underlying 5 = some (.int .u8)) (hd : P.underlying dst = some .string) :
    (convert src dst (.slice A m.length c)).run P w = .ok (.string ⟨m.toArray⟩) w := by
  cases A with
  | none =>
    have hm0 : m = [] := by
      rcases m with _ | ⟨x, m⟩
      · rfl
      · obtain ⟨b, o, e, _⟩ := hm (by simp)
        cases e
    subst hm0
    exact run_convert_bytes_nil w src 5 hs he _ c dst hd
  | some ad =>
    refine run_convert_bytes_back w src dst 5 ad c m hs he hd fun j hj => ?_
    obtain ⟨b, o, e, _, hc⟩ := hm.at_ hj
    obtain rfl := Option.some.inj e
    rw [add_at]
    exact hc
end
theorem or128 (m : Nat) : bits .or .u8 ((m : Int) % 256) 128 = ((m % 128 + 128 : Nat) : Int) := by
  have h : ∀ k : Fin 256, bits .or .u8 ((k.val : Nat) : Int) 128 = ((k.val % 128 + 128 : Nat) : Int) := by decide +kernel
  have h1 := h ⟨m % 256, Nat.mod_lt _ (by omega)⟩
  have e : ((m % 256 : Nat) : Int) = (m : Int) % 256 := by omega
  rw [e] at h1
  rw [h1]
  congr 1
  show m % 256 % 128 + 128 = _
  omega
end Go.Proofs.YtmhbloefmknikaaGreatDoor
