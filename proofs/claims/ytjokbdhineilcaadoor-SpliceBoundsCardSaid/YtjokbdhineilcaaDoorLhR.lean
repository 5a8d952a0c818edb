/-
  Sort of the reference of chapter 5: what it gives. Condition: the nodes can be read.
  Sort of the reference of chapter 5: the walk. Condition: the nodes can be read.
-/
import Derived.Test.YtjokbdhineilcaaDoorLhE
import Derived.Laws.CopyRow
import Derived.Deep.RegionLaw
import Derived.BigQuiet
import Derived.Test.YtjokbdhineilcaaDoorLgG
import Derived.Deep.DeepCutAuto
import Derived.Deep.CutBlock
import Derived.Deep.RegionHeld3
namespace Go.Proofs.YtjokbdhineilcaaDoor
section
open Go.RowKit

section
variable {P : Program}
theorem run_copyN (w : World) (dT sT ty elem : TypeId) (k g o dLen dCap : Nat) (a : Addr) (sLen sCap : Nat) (cur : Array Value) (t : TypeId) (n : Nat) (cs : List Value)
    (hu : P.underlying dT = some (.slice elem)) (hs : (P.info? elem).map (·.size) = some k)
    (hg : w.heap[g]? = some (.cells cur t (0, 0))) (hn : n = Nat.min sLen dLen) (hcs : cs.length = n * k)
    (hsrc : ∀ j v, cs[j]? = some v → w.cell? (a.add j) = some v) (hfit : o + cs.length ≤ cur.size) (h1 : ∀ v ∈ cs, v.oneCell' = true) :
    (Builtin.copy_ #[dT, sT] ty #[.slice (some ⟨g, o, none⟩) dLen dCap, .slice (some a) sLen sCap]).run P w =
      .ok (goInt n) (w.setRow g (cur.toList.take o ++ cs ++ cur.toList.drop (o + cs.length)).toArray) := by
  have hl := run_loadCells_list (P := P) w a cs hsrc
  have hst := run_storeCells_at P g o t cs 0 cur w hg (by simpa using hfit) h1
  cases hq : P.info? elem with
  | none => simp [hq] at hs
  | some i =>
    have hi : i.size = k := by simpa [hq] using hs
    rw [hcs] at hl
    simp [Builtin.copy_, run_underlying hu, Builtin.lenOf, Builtin.firstCells, sizeOf, typeInfo, hq, hi, ← hn, hl, hst]
theorem run_copyN_none (w : World) (dT sT ty elem : TypeId) (k : Nat) (d a : Option Addr) (dLen dCap sLen sCap : Nat) (hu : P.underlying dT = some (.slice elem)) (hs : (P.info? elem).map (·.size) = some k) (hn : Nat.min sLen dLen = 0) :
    (Builtin.copy_ #[dT, sT] ty #[.slice d dLen dCap, .slice a sLen sCap]).run P w = .ok (goInt 0) w := by
  cases hq : P.info? elem with
  | none => simp [hq] at hs
  | some i =>
    have hl : ∀ (x : Addr), (loadCells x 0).run P w = .ok #[] w := fun x => by simpa using run_loadCells_list (P := P) w x [] (by simp)
    cases d <;> cases a <;> simp [Builtin.copy_, run_underlying hu, Builtin.lenOf, Builtin.firstCells, sizeOf, typeInfo, hq, hn, storeCells, hl]
theorem step_copyN {ops : Array Oper} {o : Oper} {a : Act} {w : World} {K : Act → World → Prop} {Q : Exit → Act → World → Prop} {E : Prop} (hgd : o.guard = none) (d s : Operand) (dT sT : TypeId)
    (ho : o.op = .call { callee := .builtin .copy, args := #[d, s], argTypes := #[dT, sT] }) (elem : TypeId) (k : Nat) (hu : P.underlying dT = some (.slice elem)) (hsz : (P.info? elem).map (·.size) = some k)
    (g off dLen dCap : Nat) (ad : Addr) (sLen sCap : Nat) (hd : a.eval d = .slice (some ⟨g, off, none⟩) dLen dCap) (hs : a.eval s = .slice (some ad) sLen sCap)
    (cur : Array Value) (t : TypeId) (hg : w.heap[g]? = some (.cells cur t (0, 0))) (n : Nat) (cs : List Value) (hn : n = Nat.min sLen dLen) (hcs : cs.length = n * k)
    (hsrc : ∀ j v, cs[j]? = some v → w.cell? (ad.add j) = some v) (hfit : off + cs.length ≤ cur.size) (h1 : ∀ v ∈ cs, v.oneCell' = true)
    (h : ∀ w', w'.heap[g]? = some (.cells (cur.toList.take off ++ cs ++ cur.toList.drop (off + cs.length)).toArray t (0, 0)) → w.grownBy w' (some g) → K (a.put o.dst (goInt n)) w') :
    if Region.wanted o (yielded ops a.tmps) = true then Oper.wp P o a w K Q else E := by
  have hw : Region.wanted o (yielded ops a.tmps) = true := by simp [Region.wanted, hgd]
  rw [if_pos hw]
  have hrun := run_copyN (P := P) w dT sT o.type elem k g off dLen dCap ad sLen sCap cur t n cs hu hsz hg hn hcs hsrc hfit h1
  unfold Oper.wp
  simp [execOp, ho, resolve, invoke, builtin, hd, hs, hrun, Result.andThen]
  refine h _ (by simpa using setRow_heap w g _ _ t _ hg) ⟨rfl, rfl, rfl, by simp [World.setRow], fun i hi hne => setRow_other w g i _ (fun e => hne (by rw [e]))⟩
theorem step_copyN_none {ops : Array Oper} {o : Oper} {a : Act} {w : World} {K : Act → World → Prop} {Q : Exit → Act → World → Prop} {E : Prop} (hgd : o.guard = none) (d s : Operand) (dT sT : TypeId)
    (ho : o.op = .call { callee := .builtin .copy, args := #[d, s], argTypes := #[dT, sT] }) (elem : TypeId) (k : Nat) (hu : P.underlying dT = some (.slice elem)) (hsz : (P.info? elem).map (·.size) = some k)
    (dp sp : Option Addr) (dLen dCap sLen sCap : Nat) (hd : a.eval d = .slice dp dLen dCap) (hs : a.eval s = .slice sp sLen sCap) (hn : Nat.min sLen dLen = 0)
    (h : K (a.put o.dst (goInt 0)) w) :
    if Region.wanted o (yielded ops a.tmps) = true then Oper.wp P o a w K Q else E := by
  have hw : Region.wanted o (yielded ops a.tmps) = true := by simp [Region.wanted, hgd]
  rw [if_pos hw]
  have hrun := run_copyN_none (P := P) w dT sT o.type elem k dp sp dLen dCap sLen sCap hu hsz hn
  unfold Oper.wp
  simp [execOp, ho, resolve, invoke, builtin, hd, hs, hrun, Result.andThen]
  exact h
end
theorem flatN_take (l : List Nd) (pad : List Value) {k : Nat} (h : k ≤ l.length) : (flatN l ++ pad).take (k * 3) = flatN (l.take k) := by
  have e : flatN l = flatN (l.take k) ++ flatN (l.drop k) := by rw [← flatN_append, List.take_append_drop]
  have hl : (flatN (l.take k)).length = k * 3 := by rw [flatN_len, List.length_take, Nat.min_eq_left h]
  rw [e, List.append_assoc, List.take_append_of_le_length (by omega), List.take_of_length_le (by omega)]
/-- What lies in the row behind the copy. -/
theorem shiftN {m : List Nd} {z : Nd} {pad : List Value} {a : Nat} (ha : a ≤ m.length) :
    (flatN (m ++ [z]) ++ pad).take ((a + 1) * 3) ++ flatN (m.drop a) ++ (flatN (m ++ [z]) ++ pad).drop ((a + 1) * 3 + (flatN (m.drop a)).length) = flatN ((m ++ [z]).take (a + 1) ++ m.drop a) ++ pad := by
  have h1 : (a + 1) * 3 + (flatN (m.drop a)).length = (flatN (m ++ [z])).length := by
    rw [flatN_len, flatN_len, List.length_drop, List.length_append, List.length_singleton]; omega
  rw [flatN_take _ _ (by simp; omega), h1, List.drop_left, flatN_append]
theorem set_shift {m : List Nd} {z : Nd} {a : Nat} (ha : a ≤ m.length) (x : Nd) : ((m ++ [z]).take (a + 1) ++ m.drop a).set a x = m.take a ++ [x] ++ m.drop a := by
  rcases Nat.lt_or_ge a m.length with h | h
  · rw [List.take_append_of_le_length (by omega), List.take_succ_eq_append_getElem h, List.append_assoc, List.set_append_right _ _ (by rw [List.length_take]; omega)]
    rw [List.length_take, Nat.min_eq_left ha, Nat.sub_self, List.append_assoc]
    rfl
  · have e : a = m.length := by omega
    subst e
    rw [List.take_of_length_le (by simp), List.drop_length, List.append_nil, List.append_nil, List.set_append_right _ _ (Nat.le_refl _), Nat.sub_self, List.take_length]
    rfl
theorem len_shift {m : List Nd} {z : Nd} {a : Nat} (ha : a ≤ m.length) : ((m ++ [z]).take (a + 1) ++ m.drop a).length = m.length + 1 := by
  rw [List.length_append, List.length_take, List.length_drop, List.length_append, List.length_singleton]; omega
theorem shift_last (m : List Nd) (z : Nd) : (m ++ [z]).take (m.length + 1) ++ m.drop m.length = m ++ [z] := by
  rw [List.take_of_length_le (by simp), List.drop_length, List.append_nil]
/-- The first i nodes of l, sorted so that equal nodes keep their order. -/
def SIn (l : List Nd) (i : Nat) (m : List Nd) : Prop := ∃ L : List Nat, m = L.map (nth l) ∧ L.Pairwise (Lx (nth l)) ∧ ∀ t, t ∈ L ↔ t < i
theorem sin_nil (l : List Nd) : SIn l 0 [] := ⟨[], rfl, List.Pairwise.nil, fun t => by simp⟩
theorem sin_end {l m : List Nd} (h : SIn l l.length m) : StbS l m := h
theorem sin_put {l m : List Nd} {i a : Nat} (h : SIn l i m) (hi : i < l.length) (ha : a ≤ m.length)
    (h1 : 0 < a → ∀ (k : a - 1 < m.length), nlt l[i] m[a - 1] = false) (h2 : ∀ j (hj : j < m.length), a ≤ j → nlt l[i] m[j] = true) : SIn l (i + 1) (m.take a ++ [l[i]] ++ m.drop a) := by
  obtain ⟨L, rfl, hp, hm⟩ := h
  have hx : l[i] = nth l i := by simp [nth, List.getElem?_eq_getElem hi]
  rw [hx] at h1 h2 ⊢
  have hl : (L.map (nth l)).length = L.length := by simp
  rw [hl] at ha
  have hlt : ∀ j (hj : j < L.length), L[j] < i := fun j hj => (hm _).1 (List.getElem_mem hj)
  have hpi := List.pairwise_iff_getElem.1 hp
  refine ⟨L.take a ++ [i] ++ L.drop a, by simp [List.map_take, List.map_drop], ?_, fun t => ?_⟩
  · rw [List.append_assoc]
    show List.Pairwise _ (L.take a ++ (i :: L.drop a))
    have up : ∀ j (hj : j < L.length), a ≤ j → Lx (nth l) i L[j] := fun j hj haj => by
      have := h2 j (by simpa using hj) haj
      rw [List.getElem_map] at this
      exact (lx_up (hlt j hj)).2 this
    have dn : ∀ j (hj : j < L.length), j < a → Lx (nth l) L[j] i := fun j hj hja => by
      have h3 : a - 1 < L.length := by omega
      have := h1 (by omega) (by simpa using h3)
      rw [List.getElem_map] at this
      have h4 := (lx_dn (F := nth l) (hlt (a - 1) h3)).2 this
      rcases Nat.lt_or_ge j (a - 1) with h5 | h5
      · exact lx_trans (hpi j (a - 1) hj h3 h5) h4
      · have : j = a - 1 := by omega
        subst this; exact h4
    refine List.pairwise_append.2 ⟨hp.sublist (List.take_sublist _ _), List.pairwise_cons.2 ⟨fun y hy => ?_, hp.sublist (List.drop_sublist _ _)⟩, fun y hy u hu => ?_⟩
    · obtain ⟨j, hj, rfl⟩ := List.mem_iff_getElem.1 hy
      rw [List.length_drop] at hj
      rw [List.getElem_drop]
      exact up (a + j) (by omega) (by omega)
    · obtain ⟨j, hj, rfl⟩ := List.mem_iff_getElem.1 hy
      rw [List.length_take] at hj
      rw [List.getElem_take]
      rcases List.mem_cons.1 hu with rfl | hu
      · exact dn j (by omega) (by omega)
      · obtain ⟨k, hk, rfl⟩ := List.mem_iff_getElem.1 hu
        rw [List.length_drop] at hk
        rw [List.getElem_drop]
        exact hpi j (a + k) (by omega) (by omega) (by omega)
  · have e : t ∈ L.take a ++ [i] ++ L.drop a ↔ t = i ∨ t ∈ L := by
      have h6 : t ∈ L ↔ t ∈ L.take a ∨ t ∈ L.drop a := by
        conv => lhs; rw [← List.take_append_drop a L]
        exact List.mem_append
      rw [List.mem_append, List.mem_append, List.mem_singleton, h6]
      constructor
      · rintro ((h | h) | h)
        · exact .inr (.inl h)
        · exact .inl h
        · exact .inr (.inr h)
      · rintro (h | h | h)
        · exact .inl (.inr h)
        · exact .inl (.inl h)
        · exact .inr h
    rw [e, hm]
    omega
theorem sin_len {l m : List Nd} {i : Nat} (h : SIn l i m) : m.length = i := by
  obtain ⟨L, rfl, hp, hm⟩ := h
  have hn : L.Nodup := hp.imp fun {a b} h e => by subst e; exact lx_irr _ h
  have := ((List.perm_ext_iff_of_nodup hn List.nodup_range (l₂ := List.range i)).2 fun a => by rw [hm, List.mem_range]).length_eq
  simpa using this
theorem hsz3 : (Tryd.prog.info? 30).map (·.size) = some 3 := by kernel_rfl
end
section
open Go.RowKit

end
end Go.Proofs.YtjokbdhineilcaaDoor
