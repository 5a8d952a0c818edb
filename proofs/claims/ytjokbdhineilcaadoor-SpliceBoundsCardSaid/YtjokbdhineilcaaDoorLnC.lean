/-
  The tape's Height. Condition: the nodes can be read.
  The tape's Links: a built list of links that is changed in five ways. Conditions: the nodes can be read, their height is within the levels.
-/
import Derived.Test.YtjokbdhineilcaaDoorLmJ
import Derived.Test.YtjokbdhineilcaaDoorLnA
import Derived.Test.YtjokbdhineilcaaDoorKhU
import Derived.Deep.DeepCutAuto
import Derived.Deep.CutBlock
namespace Go.Proofs.YtjokbdhineilcaaDoor
section
open Go.RowKit

def HgtP (g : Nat) (w : World) (e : Ending) (w' : World) : Prop := ∃ h : Int, (0 ≤ h ∧ h ≤ 16) ∧ e = .returned (.int .i64 h) ∧ TStep w g w'
theorem hgtP_mk {g : Nat} {w w' : World} {h : Int} (h0 : 0 ≤ h) (h1 : h ≤ 16) (k : TStep w g w') : HgtP g w (.returned (.int .i64 h)) w' := ⟨h, ⟨h0, h1⟩, rfl, k⟩
end
section
open Go.RowKit

theorem idAt_wide {c : List Nd} (h : ∀ x ∈ c, I64 x.id) (j : Nat) : I64 (idAt c j) := by
  rcases Nat.lt_or_ge j c.length with h1 | h1
  · rw [idAt_lt h1]; exact h _ (List.getElem_mem h1)
  · rw [idAt_ge h1]; unfold I64; omega
theorem lnk_wide {s : List Nd} (hs : ∀ x ∈ s, I64 x.id) (h : Int) (x : Nd) : LkW (lnk s h x) := by
  have hc : ∀ y ∈ grp s h x.word, I64 y.id := fun y hy => hs y ((grp_sub s h x.word).subset hy)
  refine ⟨?_, idAt_wide hc _⟩
  show I64 (if _ then (0 : Int) else _)
  split
  · unfold I64; omega
  · exact idAt_wide hc _
theorem bldV_wide {l : List Nd} (hl : ∀ x ∈ l, x.wide) (n : Nat) : ∀ x ∈ bldV l n, I64 x.id ∧ x.levels.length ≤ n ∧ ∀ y ∈ x.levels, LkW y := by
  have hs : ∀ x ∈ srt l, I64 x.id := fun x hx => (hl x ((srt_srt l).1.mem_iff.1 hx)).1
  intro x hx
  obtain ⟨y, hy, rfl⟩ := List.mem_map.1 hx
  refine ⟨hs y hy, by simp, fun z hz => ?_⟩
  obtain ⟨t, _, rfl⟩ := List.mem_map.1 hz
  exact lnk_wide hs _ _
/-- append of one link in a drawn region, which lies in the block that was just made. -/
theorem step_pushK1 {P : Program} {ops : Array Oper} {o : Oper} {a : Act} {K : Act → World → Prop} {Q : Exit → Act → World → Prop} {E : Prop} (hgd : o.guard = none) (s x : Operand) (t : TypeId)
    (ho : o.op = .call { callee := .builtin .append, args := #[s, x], argTypes := #[t, t] })
    (base : Nat) (i : TypeInfo) (ht : P.underlying t = some (.slice 64)) (hi : P.info? 64 = some i) (hz : i.zero = some (.agg #[.int .i64 0, .int .i64 0])) (hsize : i.size = 2) (hby : i.bytes = 16)
    (v : Value) (l : List Lk) (w0 : World) (f : Lk) (hs : a.eval s = v) (hown : OwnK w0 base v l) (hx : a.eval x = .slice (some ⟨w0.heap.size, 0, none⟩) 1 1) (hlen : l.length < 1000000) (hbase : base ≤ w0.heap.size)
    (h : ∀ v' w', OwnK w' base v' (l ++ [f]) → w0.grownBy w' v.ownBlock → (v'.ownBlock = v.ownBlock ∨ v'.ownBlock = some (w0.heap.size + 1)) → K (a.put o.dst v') w') :
    if Region.wanted o (yielded ops a.tmps) = true then Oper.wp P o a (w0.alloc (.cells #[.int .i64 f.left, .int .i64 f.right] 64)) K Q else E := by
  have hw : Region.wanted o (yielded ops a.tmps) = true := by simp [Region.wanted, hgd]
  rw [if_pos hw]
  obtain ⟨v', w', hr, ho', hg, _, hat⟩ := run_append_own_at (P := P) (w := w0.alloc (.cells #[.int .i64 f.left, .int .i64 f.right] 64)) base t o.type 64 i (.agg #[.int .i64 0, .int .i64 0]) 2 16 ht hi hz hsize hby rfl (by decide) v l.length (flatK l) (hown.below ((Below.refl _ _).alloc (Nat.le_refl _) _)) ⟨w0.heap.size, 0, none⟩ 1 1 [.int .i64 f.left, .int .i64 f.right] rfl (by
    intro j u hj
    rw [add_at, Nat.zero_add, (Has.new w0 64 #[.int .i64 f.left, .int .i64 f.right]).cell, ← Array.getElem?_toList]
    exact hj) (by
    intro u hu
    simp at hu
    rcases hu with rfl | rfl <;> rfl) (by unfold maxLen; omega) (by omega) (by simp; omega)
  unfold Oper.wp execOp
  simp only [ho, resolve, invoke, builtin, Sem.run_bind, Sem.run_pure, Result.andThen_ok, List.map_toArray, List.map_cons, List.map_nil, hs, hx, hr]
  refine h v' w' ?_ ((World.grownBy_alloc w0 _ _).trans hg) (hat.imp id fun e => by rw [e, World.size_alloc])
  unfold OwnK
  rw [flatK_snoc, List.length_append]
  exact ho'
theorem KpA.undrew {w w1 : World} {base : Nat} (h : KpA base w.drew w1) : KpA base w w1 := fun j h1 h2 => h j h1 h2
def LinksP (N L : Nat) (g : Nat) (w : World) (e : Ending) (w' : World) : Prop := ∃ v n, e = .returned v ∧ n ≤ N ∧ OwnE w' w.heap.size v n L ∧ TStep w g w'
/-- What is so after a change. -/
def ChE (g : Nat) (w : World) (N L : Nat) (v : Value) (W : World) : Prop := ∃ n, n ≤ N ∧ OwnE W w.heap.size v n L ∧ TStep w g W

end
end Go.Proofs.YtjokbdhineilcaaDoor
