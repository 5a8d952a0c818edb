/-
  Chained of the reference of chapter 11. Condition: keys and truths can be read.
-/
import Derived.Test.YtgmffgdhijcfcaaDoorMaD0
import Derived.Test.YtgmffgdhijcfcaaDoorMaT
import Derived.StillTailTactics
namespace Go.Proofs.YtgmffgdhijcfcaaDoor
open Go.RowKit Go.Maps
namespace Lk
section
variable {P : Program}
theorem run_copyR (w : World) (dT sT ty elem : TypeId) (k g o dLen dCap : Nat) (a : Addr) (sLen sCap : Nat) (cur : Array Value) (t : TypeId) (n : Nat) (cs : List Value)
    (hu : P.underlying dT = some (.slice elem)) (hs : (P.info? elem).map (·.size) = some k)
    (hg : w.heap[g]? = some (.cells cur t (0, 0))) (hn : n = Nat.min sLen dLen) (hcs : cs.length = n * k)
    (hsrc : ∀ j v, cs[j]? = some v → w.cell? (a.add j) = some v) (hfit : o + cs.length ≤ cur.size) (h1 : ∀ v ∈ cs, v.oneCell' = true) :
    (Builtin.copy_ #[dT, sT] ty #[.slice (some ⟨g, o, none⟩) dLen dCap, .slice (some a) sLen sCap]).run P w =
      .ok (goInt n) (w.setRow g (cur.toList.take o ++ cs ++ cur.toList.drop (o + cs.length)).toArray) := by
  have hl := run_loadCells_list (P := P) w a cs hsrc
  have hst := run_storeCells_at P g o t cs 0 cur w hg (by simpa using hfit) h1
  cases hq : P.info? elem with
  | none => simp [hq] at hs
  | some i =>
    have hi : i.size = k := by simpa [hq] using hs
    rw [hcs] at hl
    simp [Builtin.copy_, run_underlying hu, Builtin.lenOf, Builtin.firstCells, sizeOf, typeInfo, hq, hi, ← hn, hl, hst]
theorem run_copyR_none (w : World) (dT sT ty elem : TypeId) (k : Nat) (d a : Option Addr) (dLen dCap sLen sCap : Nat) (hu : P.underlying dT = some (.slice elem)) (hs : (P.info? elem).map (·.size) = some k) (hn : Nat.min sLen dLen = 0) :
    (Builtin.copy_ #[dT, sT] ty #[.slice d dLen dCap, .slice a sLen sCap]).run P w = .ok (goInt 0) w := by
  cases hq : P.info? elem with
  | none => simp [hq] at hs
  | some i =>
    have hl : ∀ (x : Addr), (loadCells x 0).run P w = .ok #[] w := fun x => by simpa using run_loadCells_list (P := P) w x [] (by simp)
    cases d <;> cases a <;> simp [Builtin.copy_, run_underlying hu, Builtin.lenOf, Builtin.firstCells, sizeOf, typeInfo, hq, hn, storeCells, hl]
theorem step_copyR {ops : Array Oper} {o : Oper} {a : Act} {w : World} {K : Act → World → Prop} {Q : Exit → Act → World → Prop} {E : Prop} (hgd : o.guard = none) (d s : Operand) (dT sT : TypeId)
    (ho : o.op = .call { callee := .builtin .copy, args := #[d, s], argTypes := #[dT, sT] }) (elem : TypeId) (k : Nat) (hu : P.underlying dT = some (.slice elem)) (hsz : (P.info? elem).map (·.size) = some k)
    (g off dLen dCap : Nat) (ad : Addr) (sLen sCap : Nat) (hd : a.eval d = .slice (some ⟨g, off, none⟩) dLen dCap) (hs : a.eval s = .slice (some ad) sLen sCap)
    (cur : Array Value) (t : TypeId) (hg : w.heap[g]? = some (.cells cur t (0, 0))) (n : Nat) (cs : List Value) (hn : n = Nat.min sLen dLen) (hcs : cs.length = n * k)
    (hsrc : ∀ j v, cs[j]? = some v → w.cell? (ad.add j) = some v) (hfit : off + cs.length ≤ cur.size) (h1 : ∀ v ∈ cs, v.oneCell' = true)
    (h : ∀ w', w'.heap[g]? = some (.cells (cur.toList.take off ++ cs ++ cur.toList.drop (off + cs.length)).toArray t (0, 0)) → w.grownBy w' (some g) → K (a.put o.dst (goInt n)) w') :
    if Region.wanted o (yielded ops a.tmps) = true then Oper.wp P o a w K Q else E := by
  have hw : Region.wanted o (yielded ops a.tmps) = true := by simp [Region.wanted, hgd]
  rw [if_pos hw]
  have hrun := run_copyR (P := P) w dT sT o.type elem k g off dLen dCap ad sLen sCap cur t n cs hu hsz hg hn hcs hsrc hfit h1
  unfold Oper.wp
  simp [execOp, ho, resolve, invoke, builtin, hd, hs, hrun, Result.andThen]
  refine h _ (by simpa using setRow_heap w g _ _ t _ hg) ⟨rfl, rfl, rfl, by simp [World.setRow], fun i hi hne => setRow_other w g i _ (fun e => hne (by rw [e]))⟩
theorem step_copyR_none {ops : Array Oper} {o : Oper} {a : Act} {w : World} {K : Act → World → Prop} {Q : Exit → Act → World → Prop} {E : Prop} (hgd : o.guard = none) (d s : Operand) (dT sT : TypeId)
    (ho : o.op = .call { callee := .builtin .copy, args := #[d, s], argTypes := #[dT, sT] }) (elem : TypeId) (k : Nat) (hu : P.underlying dT = some (.slice elem)) (hsz : (P.info? elem).map (·.size) = some k)
    (dp sp : Option Addr) (dLen dCap sLen sCap : Nat) (hd : a.eval d = .slice dp dLen dCap) (hs : a.eval s = .slice sp sLen sCap) (hn : Nat.min sLen dLen = 0)
    (h : K (a.put o.dst (goInt 0)) w) :
    if Region.wanted o (yielded ops a.tmps) = true then Oper.wp P o a w K Q else E := by
  have hw : Region.wanted o (yielded ops a.tmps) = true := by simp [Region.wanted, hgd]
  rw [if_pos hw]
  have hrun := run_copyR_none (P := P) w dT sT o.type elem k dp sp dLen dCap sLen sCap hu hsz hn
  unfold Oper.wp
  simp [execOp, ho, resolve, invoke, builtin, hd, hs, hrun, Result.andThen]
  exact h
end
theorem hsz1 : (Tryd.prog.info? 3).map (·.size) = some 1 := by kernel_rfl
/-- The box of Chained and its cells. -/
structure ChS (base : Nat) (w : World) (X : Nat) (v1 : Value) (cs : List Ce) : Prop where
  own : OwnR Ce.row 5 58 w base v1 cs
  x0 : w.cell? ⟨X, 0, none⟩ = some v1
  x1 : w.cell? ⟨X, 1, none⟩ = some (.slice none 0 0)
  fz : ∀ o, w.frozen? ⟨X, o, none⟩ = false
  ne1 : v1.ownBlock ≠ some X
  bX : base ≤ X
section
variable {base : Nat} {w w' : World} {X : Nat} {v1 : Value} {cs : List Ce}
theorem ChS.blk (h : ChS base w X v1 cs) (q : ∀ j, j = X ∨ v1.ownBlock = some j → w'.heap[j]? = w.heap[j]?) : ChS base w' X v1 cs :=
  have e := q X (.inl rfl)
  ⟨h.own.blk fun i _ _ h3 => q i (.inr h3), (World.cell?_of_block (a := ⟨X, 0, none⟩) e).trans h.x0, (World.cell?_of_block (a := ⟨X, 1, none⟩) e).trans h.x1, fun o => (World.frozen?_of_block (a := ⟨X, o, none⟩) e).trans (h.fz o), h.ne1, h.bX⟩
theorem ChS.lt (h : ChS base w X v1 cs) : X < w.heap.size := World.block_lt_of_cell? w _ h.x0
theorem ChS.below (h : ChS base w X v1 cs) (k : Below w.heap.size w w') : ChS base w' X v1 cs := h.blk fun j hj => by
  rcases hj with rfl | hj
  · exact k.block _ h.lt
  · exact k.block _ (h.own.lt j hj).2
theorem ChS.put (h : ChS base w X v1 cs) {v' : Value} {cs' : List Ce} (ho : OwnR Ce.row 5 58 w' base v' cs') (hg : w.grownBy w' v1.ownBlock) (hat : v'.ownBlock = v1.ownBlock ∨ ∃ q, w.heap.size ≤ q ∧ v'.ownBlock = some q) : ChS base (w'.setCell ⟨X, 0, none⟩ v') X v' cs' := by
  have hX := h.lt
  have n1 : v'.ownBlock ≠ some X := by
    rcases hat with e | ⟨q, h1, e⟩
    · rw [e]; exact h.ne1
    · rw [e]; intro e2; have := Option.some.inj e2; omega
  have hbX : w'.heap[X]? = w.heap[X]? := hg.block X hX (fun e => h.ne1 e.symm)
  have c0 := (World.cell?_of_block (a := ⟨X, 0, none⟩) hbX).trans h.x0
  have c1 := (World.cell?_of_block (a := ⟨X, 1, none⟩) hbX).trans h.x1
  refine ⟨ho.blk fun i h1 h2 h3 => Below.heap_setCell _ _ _ _ (fun e => n1 (by rw [h3, e])), ?_, ?_, fun o => ?_, n1, h.bX⟩
  · simp [go_sem, c0]
  · simp [go_sem, c1]
  · rw [World.frozen?_setCell]
    exact (World.frozen?_of_block (w := w) hbX).trans (h.fz o)
end
end Lk
end Go.Proofs.YtgmffgdhijcfcaaDoor
