/-
  copy at rows of ranges as one step of a region that draws its order; a range laid into an ascending list at its place. No condition.
-/
import Derived.Test.YtofandkijmbplaaDoorKtD
import Derived.Laws.CopyRow
import Derived.Deep.RegionLaw
namespace Go.Proofs.YtofandkijmbplaaDoor
open Go.RowKit

theorem run_copyK {P : Program} (w : World) (dT sT ty elem : TypeId) (k g o dLen dCap : Nat) (a : Addr) (sLen sCap : Nat) (cur : Array Value) (t : TypeId) (n : Nat) (cs : List Value)
    (hu : P.underlying dT = some (.slice elem)) (hs : (P.info? elem).map (·.size) = some k)
    (hg : w.heap[g]? = some (.cells cur t (0, 0))) (hn : n = Nat.min sLen dLen) (hcs : cs.length = n * k)
    (hsrc : ∀ j v, cs[j]? = some v → w.cell? (a.add j) = some v) (hfit : o + cs.length ≤ cur.size) (h1 : ∀ v ∈ cs, v.oneCell' = true) :
    (Builtin.copy_ #[dT, sT] ty #[.slice (some ⟨g, o, none⟩) dLen dCap, .slice (some a) sLen sCap]).run P w =
      .ok (goInt n) (w.setRow g (cur.toList.take o ++ cs ++ cur.toList.drop (o + cs.length)).toArray) := by
  have hl := run_loadCells_list (P := P) w a cs hsrc
  have hst := run_storeCells_at P g o t cs 0 cur w hg (by simpa using hfit) h1
  cases hq : P.info? elem with
  | none => simp [hq] at hs
  | some i =>
    have hi : i.size = k := by simpa [hq] using hs
    rw [hcs] at hl
    simp [Builtin.copy_, run_underlying hu, Builtin.lenOf, Builtin.firstCells, sizeOf, typeInfo, hq, hi, ← hn, hl, hst]
theorem run_copyK_none {P : Program} (w : World) (dT sT ty elem : TypeId) (k : Nat) (d a : Option Addr) (dLen dCap sLen sCap : Nat) (hu : P.underlying dT = some (.slice elem)) (hs : (P.info? elem).map (·.size) = some k) (hn : Nat.min sLen dLen = 0) :
    (Builtin.copy_ #[dT, sT] ty #[.slice d dLen dCap, .slice a sLen sCap]).run P w = .ok (goInt 0) w := by
  cases hq : P.info? elem with
  | none => simp [hq] at hs
  | some i =>
    have hl : ∀ (x : Addr), (loadCells x 0).run P w = .ok #[] w := fun x => by simpa using run_loadCells_list (P := P) w x [] (by simp)
    cases d <;> cases a <;> simp [Builtin.copy_, run_underlying hu, Builtin.lenOf, Builtin.firstCells, sizeOf, typeInfo, hq, hn, storeCells, hl]

theorem step_copyK {P : Program} {ops : Array Oper} {o : Oper} {a : Act} {w : World} {K : Act → World → Prop} {Q : Exit → Act → World → Prop} {E : Prop} (hgd : o.guard = none) (d s : Operand) (dT sT : TypeId)
    (ho : o.op = .call { callee := .builtin .copy, args := #[d, s], argTypes := #[dT, sT] }) (elem : TypeId) (k : Nat) (hu : P.underlying dT = some (.slice elem)) (hsz : (P.info? elem).map (·.size) = some k)
    (g off dLen dCap : Nat) (ad : Addr) (sLen sCap : Nat) (hd : a.eval d = .slice (some ⟨g, off, none⟩) dLen dCap) (hs : a.eval s = .slice (some ad) sLen sCap)
    (cur : Array Value) (t : TypeId) (hg : w.heap[g]? = some (.cells cur t (0, 0))) (n : Nat) (cs : List Value) (hn : n = Nat.min sLen dLen) (hcs : cs.length = n * k)
    (hsrc : ∀ j v, cs[j]? = some v → w.cell? (ad.add j) = some v) (hfit : off + cs.length ≤ cur.size) (h1 : ∀ v ∈ cs, v.oneCell' = true)
    (h : ∀ w', w'.heap[g]? = some (.cells (cur.toList.take off ++ cs ++ cur.toList.drop (off + cs.length)).toArray t (0, 0)) → w.grownBy w' (some g) → K (a.put o.dst (goInt n)) w') :
    if Region.wanted o (yielded ops a.tmps) = true then Oper.wp P o a w K Q else E := by
  have hw : Region.wanted o (yielded ops a.tmps) = true := by simp [Region.wanted, hgd]
  rw [if_pos hw]
  have hrun := run_copyK (P := P) w dT sT o.type elem k g off dLen dCap ad sLen sCap cur t n cs hu hsz hg hn hcs hsrc hfit h1
  unfold Oper.wp
  simp [execOp, ho, resolve, invoke, builtin, hd, hs, hrun, Result.andThen]
  refine h _ (by simpa using setRow_heap w g _ _ t _ hg) ⟨rfl, rfl, rfl, by simp [World.setRow], fun i hi hne => setRow_other w g i _ (fun e => hne (by rw [e]))⟩
theorem step_copyK_none {P : Program} {ops : Array Oper} {o : Oper} {a : Act} {w : World} {K : Act → World → Prop} {Q : Exit → Act → World → Prop} {E : Prop} (hgd : o.guard = none) (d s : Operand) (dT sT : TypeId)
    (ho : o.op = .call { callee := .builtin .copy, args := #[d, s], argTypes := #[dT, sT] }) (elem : TypeId) (k : Nat) (hu : P.underlying dT = some (.slice elem)) (hsz : (P.info? elem).map (·.size) = some k)
    (dp sp : Option Addr) (dLen dCap sLen sCap : Nat) (hd : a.eval d = .slice dp dLen dCap) (hs : a.eval s = .slice sp sLen sCap) (hn : Nat.min sLen dLen = 0)
    (h : K (a.put o.dst (goInt 0)) w) :
    if Region.wanted o (yielded ops a.tmps) = true then Oper.wp P o a w K Q else E := by
  have hw : Region.wanted o (yielded ops a.tmps) = true := by simp [Region.wanted, hgd]
  rw [if_pos hw]
  have hrun := run_copyK_none (P := P) w dT sT o.type elem k dp sp dLen dCap sLen sCap hu hsz hn
  unfold Oper.wp
  simp [execOp, ho, resolve, invoke, builtin, hd, hs, hrun, Result.andThen]
  exact h

/-- Behind the copy the elements from a on lie one place further. -/
theorem row_shift {cur : Array Value} {m : List Rg} {z : Rg} (h : Row cur (m ++ [z])) {a : Nat} (ha : a ≤ m.length) :
    Row (cur.toList.take ((a + 1) * 4) ++ flat (m.drop a) ++ cur.toList.drop ((a + 1) * 4 + (flat (m.drop a)).length)).toArray (m.take a ++ [(m ++ [z])[a]'(by simp; omega)] ++ m.drop a) := fun i hi j hj => by
  have hsz : (m.length + 1) * 4 ≤ cur.size := by
    have := row_size h (n := m.length) (by simp)
    omega
  have hfl : (flat (m.drop a)).length = (m.length - a) * 4 := by rw [flat_len, List.length_drop]
  have hi' : i < m.length + 1 := by simp at hi; omega
  have hta : (m.take a).length = a := by rw [List.length_take]; omega
  have htk : (cur.toList.take ((a + 1) * 4)).length = (a + 1) * 4 := by rw [List.length_take]; simp; omega
  rw [List.getElem?_toArray]
  rcases Nat.lt_or_ge i (a + 1) with hia | hia
  · rw [List.append_assoc, List.getElem?_append_left (by rw [htk]; omega), List.getElem?_take_of_lt (by omega), Array.getElem?_toList, h i (by simp; omega) j hj]
    have e : (m ++ [z])[i]'(by simp; omega) = (m.take a ++ [(m ++ [z])[a]'(by simp; omega)] ++ m.drop a)[i] := by
      rw [List.getElem_append_left (bs := m.drop a) (by simp [hta]; omega)]
      rcases Nat.lt_or_ge i a with h2 | h2
      · simp [List.getElem_append, hta, h2, show i < m.length by omega]
      · have h3 : i = a := by omega
        subst h3
        simp [List.getElem_append, hta]
    rw [e]
  · rw [List.append_assoc, List.getElem?_append_right (by rw [htk]; omega), htk, List.getElem?_append_left (by rw [hfl]; omega)]
    have e1 : i * 4 + j - (a + 1) * 4 = (i - (a + 1)) * 4 + j := by omega
    rw [e1, flat_at (m.drop a) (i - (a + 1)) (by rw [List.length_drop]; omega) j hj]
    have e : (m.drop a)[i - (a + 1)]'(by rw [List.length_drop]; omega) = (m.take a ++ [(m ++ [z])[a]'(by simp; omega)] ++ m.drop a)[i] := by
      rw [List.getElem_append_right (by simp [hta]; omega)]
      congr 1
      simp [hta]
    rw [e]
theorem row_insert {cur : Array Value} {m : List Rg} {z : Rg} (_h : Row cur (m ++ [z])) {a : Nat} (ha : a ≤ m.length) (x : Rg) :
    ∀ c2, Row c2 (m.take a ++ [(m ++ [z])[a]'(by simp; omega)] ++ m.drop a) → Row ((((c2.setIfInBounds (a * 4) (.string x.lo.key)).setIfInBounds (a * 4 + 1) (.bool x.lo.top)).setIfInBounds (a * 4 + 2) (.string x.hi.key)).setIfInBounds (a * 4 + 3) (.bool x.hi.top)) (m.take a ++ [x] ++ m.drop a) := fun c2 h2 => by
  have hta : (m.take a).length = a := by rw [List.length_take]; omega
  have h3 := row_set4 h2 (n := a) (by simp [hta] <;> omega) x
  have e : (m.take a ++ [(m ++ [z])[a]'(by simp; omega)] ++ m.drop a).set a x = m.take a ++ [x] ++ m.drop a := by
    rw [List.append_assoc, List.append_assoc, List.set_append_right _ _ (by rw [hta]; omega), hta, Nat.sub_self]
    rfl
  rw [e] at h3
  exact h3

/-- The first i ranges of l that are not Empty, ascending by their lower bounds. -/
def SInv (l : List Rg) (i : Nat) (m : List Rg) : Prop := m.Perm (keep (l.take i)) ∧ m.Pairwise fun r q => r.lo.cmp q.lo ≤ 0
theorem sinv_nil (l : List Rg) : SInv l 0 [] := ⟨by rw [List.take_zero]; exact List.Perm.nil, List.Pairwise.nil⟩
theorem sinv_skip {l m : List Rg} {i : Nat} (h : SInv l i m) (hi : i < l.length) (he : l[i].emp = true) : SInv l (i + 1) m := ⟨by rw [keep_no hi he]; exact h.1, h.2⟩
theorem sinv_put {l m : List Rg} {i a : Nat} (h : SInv l i m) (hi : i < l.length) (he : l[i].emp = false) (ha : a ≤ m.length)
    (h1 : 0 < a → ∀ (k : a - 1 < m.length), m[a - 1].lo.cmp l[i].lo ≤ 0) (h2 : ∀ j (hj : j < m.length), a ≤ j → 0 < m[j].lo.cmp l[i].lo) : SInv l (i + 1) (m.take a ++ [l[i]] ++ m.drop a) := by
  have hp := List.pairwise_iff_getElem.1 h.2
  refine ⟨?_, ?_⟩
  · rw [keep_yes hi he]
    refine List.Perm.trans ?_ (h.1.append_right _)
    have e : m ++ [l[i]] = m.take a ++ (m.drop a ++ [l[i]]) := by rw [← List.append_assoc, List.take_append_drop]
    rw [e, List.append_assoc]
    exact List.Perm.append_left _ List.perm_append_comm
  · rw [List.append_assoc]
    show List.Pairwise _ (m.take a ++ (l[i] :: m.drop a))
    refine List.pairwise_append.2 ⟨h.2.sublist (List.take_sublist _ _), List.pairwise_cons.2 ⟨fun y hy => ?_, h.2.sublist (List.drop_sublist _ _)⟩, fun y hy u hu => ?_⟩
    · obtain ⟨j, hj, rfl⟩ := List.mem_iff_getElem.1 hy
      rw [List.length_drop] at hj
      rw [List.getElem_drop]
      have := h2 (a + j) (by omega) (by omega)
      have s := cmp_swap m[a + j].lo l[i].lo
      omega
    · obtain ⟨j, hj, rfl⟩ := List.mem_iff_getElem.1 hy
      rw [List.length_take] at hj
      rw [List.getElem_take]
      rcases List.mem_cons.1 hu with rfl | hu
      · have h3 := h1 (by omega) (by omega)
        rcases Nat.lt_or_ge j (a - 1) with h4 | h4
        · exact cmp_le_trans (hp j (a - 1) (by omega) (by omega) h4) h3
        · have : j = a - 1 := by omega
          subst this
          exact h3
      · obtain ⟨k, hk, rfl⟩ := List.mem_iff_getElem.1 hu
        rw [List.length_drop] at hk
        rw [List.getElem_drop]
        exact hp j (a + k) (by omega) (by omega) (by omega)
end Go.Proofs.YtofandkijmbplaaDoor
