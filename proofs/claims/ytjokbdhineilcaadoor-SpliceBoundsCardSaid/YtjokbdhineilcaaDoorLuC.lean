/-
  Rows of hops, as they are read and as the call's own. No condition.
  Package search: one step, End and find. Conditions: what is read can be read.
  Package search: run. Conditions: the nodes can be read; the table of trailing zeros is as it is laid.
  Package search: Run and Bound. Conditions: the nodes can be read; the table of trailing zeros is as it is laid.
-/
import Derived.Test.YtjokbdhineilcaaDoorLuA
import Derived.Test.YtjokbdhineilcaaDoorKdN
import Derived.Test.YtjokbdhineilcaaDoorLpA
import Derived.Test.YtjokbdhineilcaaDoorLgG
import Derived.Test.YtjokbdhineilcaaDoorKfA
import Derived.Test.YtjokbdhineilcaaDoorLdG
import Derived.Test.YtjokbdhineilcaaDoorLmD
import Derived.Test.YtjokbdhineilcaaDoorLmG
import Derived.Deep.RegionHeld3
import Derived.BigRegion
import Derived.Deep.DeepCutAuto
import Derived.Deep.CutBlock
namespace Go.Proofs.YtjokbdhineilcaaDoor
section
open Go.RowKit


/-! rows of hops -/
theorem infoHop : (Tryd.prog.info? 99).map (fun i => (i.zero, i.size, i.bytes)) = some (some (.agg #[.int .i64 0, .int .i64 0, .int .i64 0]), 3, 24) := by kernel_rfl
theorem infoH_parts : ∃ i, Tryd.prog.info? 99 = some i ∧ i.zero = some (.agg #[.int .i64 0, .int .i64 0, .int .i64 0]) ∧ i.size = 3 ∧ i.bytes = 24 := by
  obtain ⟨i, h, e⟩ := Option.map_eq_some_iff.1 infoHop
  injection e with e1 e2
  injection e2 with e2 e3
  exact ⟨i, h, e1, e2, e3⟩
def Hp.cells (d : Hp) : List Value := [.int .i64 d.src, .int .i64 d.dst, .int .i64 d.lvl]
/-- A row of hops of the call's own. -/
def flatH (l : List Hp) : List Value := l.flatMap Hp.cells
theorem flatH_len (l : List Hp) : (flatH l).length = l.length * 3 := by
  induction l with
  | nil => rfl
  | cons x l ih => show (_ ++ flatH l).length = _; rw [List.length_append, ih]; simp [Hp.cells]; omega
theorem flatH_snoc (l : List Hp) (f : Hp) : flatH (l ++ [f]) = flatH l ++ f.cells := by simp [flatH]
theorem flatH_at : ∀ (l : List Hp) (i : Nat) (h : i < l.length) (j : Nat), j < 3 → (flatH l)[i * 3 + j]? = l[i].cells[j]?
  | [], _, h, _, _ => by simp at h
  | f :: l, 0, _, j, hj => by
    show (f.cells ++ flatH l)[0 * 3 + j]? = f.cells[j]?
    rw [List.getElem?_append_left (by simp [Hp.cells]; omega), Nat.zero_mul, Nat.zero_add]
  | f :: l, i + 1, h, j, hj => by
    have := flatH_at l i (by simpa using h) j hj
    show (f.cells ++ flatH l)[(i + 1) * 3 + j]? = _
    rw [List.getElem?_append_right (by simp [Hp.cells]; omega)]
    rw [show (i + 1) * 3 + j - f.cells.length = i * 3 + j by simp [Hp.cells]; omega]
    exact this
/-- Slices of hops below block B, as they are read. -/
def Hps (w : World) (B : Nat) (A : Option Addr) (l : List Hp) : Prop :=
  l ≠ [] → ∃ b o, A = some ⟨b, o, none⟩ ∧ b < B ∧ ∀ i (h : i < l.length) (j : Nat), j < 3 → w.cell? ⟨b, o + (i * 3 + j), none⟩ = l[i].cells[j]?
theorem Hps.below {w w' : World} {B : Nat} {A : Option Addr} {l : List Hp} (h : Hps w B A l) (k : Below B w w') : Hps w' B A l := fun hn => by
  obtain ⟨b, o, e, hb, hc⟩ := h hn
  exact ⟨b, o, e, hb, fun i hi j hj => (World.cell?_of_block (k.block b hb)).trans (hc i hi j hj)⟩
theorem Hps.more {w : World} {B B' : Nat} {A : Option Addr} {l : List Hp} (h : Hps w B A l) (hB : B ≤ B') : Hps w B' A l := fun hn => by
  obtain ⟨b, o, e, hb, hc⟩ := h hn
  exact ⟨b, o, e, by omega, hc⟩
def OwnH (w : World) (base : Nat) (v : Value) (l : List Hp) : Prop := w.ownsRow base 99 3 v l.length (flatH l)
theorem OwnH.nil (w : World) (base : Nat) : OwnH w base (.slice none 0 0) [] := World.ownsRow_nil _ _ _ _
theorem OwnH.shape {w : World} {base : Nat} {v : Value} {l : List Hp} (h : OwnH w base v l) : ∃ A c, v = .slice A l.length c := by
  obtain ⟨_, ⟨rfl, h2⟩ | ⟨g, cap, cur, rfl, _⟩⟩ := h
  · exact ⟨none, 0, by rw [h2]⟩
  · exact ⟨_, _, rfl⟩
theorem OwnH.low {w : World} {base b : Nat} {v : Value} {l : List Hp} (h : OwnH w base v l) (hb : b ≤ base) : OwnH w b v l := by
  obtain ⟨h1, h2 | ⟨g, cap, cur, h3, h4, h5, h6⟩⟩ := h
  · exact ⟨h1, .inl h2⟩
  · exact ⟨h1, .inr ⟨g, cap, cur, h3, by omega, h5, h6⟩⟩
theorem OwnH.keep {w w' : World} {base : Nat} {v : Value} {l : List Hp} (h : OwnH w base v l) (k : ∀ i, base ≤ i → i < w.heap.size → w'.heap[i]? = w.heap[i]?) : OwnH w' base v l := by
  obtain ⟨h1, h2 | ⟨g, cap, cur, h3, h4, h5, h6⟩⟩ := h
  · exact ⟨h1, .inl h2⟩
  · exact ⟨h1, .inr ⟨g, cap, cur, h3, h4, (k g h4 (Has.lt h5)).trans h5, h6⟩⟩
theorem OwnH.below {w w' : World} {base : Nat} {v : Value} {l : List Hp} (h : OwnH w base v l) (k : Below w.heap.size w w') : OwnH w' base v l := h.keep fun i _ hi => k.block i hi
theorem OwnH.read {w : World} {base : Nat} {v : Value} {l : List Hp} (h : OwnH w base v l) : ∃ A c, v = .slice A l.length c ∧ Hps w w.heap.size A l := by
  obtain ⟨h1, ⟨rfl, h2⟩ | ⟨g, cap, cur, rfl, h4, h5, h6, h7, h8, h9⟩⟩ := h
  · have hl : l = [] := List.eq_nil_of_length_eq_zero h2
    subst hl
    exact ⟨none, 0, rfl, fun h => absurd rfl h⟩
  · refine ⟨_, cap, rfl, fun _ => ⟨g, 0, rfl, Has.lt h5, fun i hi j hj => ?_⟩⟩
    have hh := flatH_at l i hi j hj
    rw [← h9, List.getElem?_take_of_lt (by omega), Array.getElem?_toList] at hh
    rw [Nat.zero_add, Has.cell h5]
    exact hh
/-- append of one hop, which lies in the block that was just made. -/
theorem wpList_pushH {P : Program} {ops : Array Oper} {rest : List Oper} {o : Oper} {a : Act} {Q : Exit → Act → World → Prop} (hgd : o.guard = none) (s x : Operand) (t : TypeId)
    (ho : o.op = .call { callee := .builtin .append, args := #[s, x], argTypes := #[t, t] })
    (base : Nat) (i : TypeInfo) (ht : P.underlying t = some (.slice 99)) (hi : P.info? 99 = some i) (hz : i.zero = some (.agg #[.int .i64 0, .int .i64 0, .int .i64 0])) (hsize : i.size = 3) (hby : i.bytes = 24)
    (v : Value) (l : List Hp) (w0 : World) (f : Hp) (hs : a.eval s = v) (hown : OwnH w0 base v l) (hx : a.eval x = .slice (some ⟨w0.heap.size, 0, none⟩) 1 1) (hlen : l.length < 1000000) (hbase : base ≤ w0.heap.size)
    (h : ∀ v' w', OwnH w' base v' (l ++ [f]) → Below base w0 w' → (∀ j, j < w0.heap.size → v.ownBlock ≠ some j → w'.heap[j]? = w0.heap[j]?) → (v'.ownBlock = v.ownBlock ∨ ∃ k, w0.heap.size ≤ k ∧ v'.ownBlock = some k) → wpList P ops Q rest (a.put o.dst v') w') : wpList P ops Q (o :: rest) a (w0.alloc (.cells #[.int .i64 f.src, .int .i64 f.dst, .int .i64 f.lvl] 99)) := by
  refine wpList_append_own_at _ hgd s x t ho base 99 i (.agg #[.int .i64 0, .int .i64 0, .int .i64 0]) 3 24 ht hi hz hsize hby rfl (by decide) v l.length (flatH l) hs (OwnH.below hown ((Below.refl _ _).alloc (Nat.le_refl _) _)) ⟨w0.heap.size, 0, none⟩ 1 1 f.cells hx rfl ?_ ?_ (by unfold maxLen; omega) (by omega) (by simp; omega) ?_
  · intro j u hj
    rw [add_at, Nat.zero_add, (Has.new w0 99 #[.int .i64 f.src, .int .i64 f.dst, .int .i64 f.lvl]).cell, ← Array.getElem?_toList]
    exact hj
  · intro u hu
    simp [Hp.cells] at hu
    rcases hu with rfl | rfl | rfl <;> rfl
  · intro v' w' ho' hg _ hat
    refine h v' w' ?_ ?_ (fun j hj hne => ?_) (hat.imp (fun e => e) fun e => ⟨_, by rw [World.size_alloc]; omega, e⟩)
    · unfold OwnH
      rw [flatH_snoc, List.length_append]
      exact ho'
    · refine ((Below.refl _ _).alloc hbase _).trans ⟨hg.os, hg.tape, hg.output, hg.size, fun j hj => hg.block j (by rw [World.size_alloc]; omega) ?_⟩
      intro e
      obtain ⟨_, ⟨rfl, _⟩ | ⟨g', cap', cur, rfl, h4, h5, _⟩⟩ := hown
      · cases e
      · have : j = g' := Option.some.inj e
        omega
    · exact (hg.block j (by rw [World.size_alloc]; omega) (fun e => hne e.symm)).trans (Below.heap_alloc w0 _ j hj)
theorem OwnH.lt {w : World} {base : Nat} {v : Value} {l : List Hp} (h : OwnH w base v l) : ∀ k, v.ownBlock = some k → base ≤ k ∧ k < w.heap.size := World.ownsRow.lt h
theorem OwnH.ne {w : World} {base X : Nat} {v : Value} {l : List Hp} (h : OwnH w base v l) (hX : w.heap.size ≤ X) : v.ownBlock ≠ some X := fun e => by have := (h.lt X e).2; omega
theorem step_pushH {P : Program} {ops : Array Oper} {o : Oper} {a : Act} {K : Act → World → Prop} {Q : Exit → Act → World → Prop} {E : Prop} (hgd : o.guard = none) (s x : Operand) (t : TypeId)
    (ho : o.op = .call { callee := .builtin .append, args := #[s, x], argTypes := #[t, t] })
    (base : Nat) (i : TypeInfo) (ht : P.underlying t = some (.slice 99)) (hi : P.info? 99 = some i) (hz : i.zero = some (.agg #[.int .i64 0, .int .i64 0, .int .i64 0])) (hsize : i.size = 3) (hby : i.bytes = 24)
    (v : Value) (l : List Hp) (w0 : World) (f : Hp) (hs : a.eval s = v) (hown : OwnH w0 base v l) (hx : a.eval x = .slice (some ⟨w0.heap.size, 0, none⟩) 1 1) (hlen : l.length < 1000000) (hbase : base ≤ w0.heap.size)
    (h : ∀ v' w', OwnH w' base v' (l ++ [f]) → Below base w0 w' → (∀ j, j < w0.heap.size → v.ownBlock ≠ some j → w'.heap[j]? = w0.heap[j]?) → (v'.ownBlock = v.ownBlock ∨ ∃ k, w0.heap.size ≤ k ∧ v'.ownBlock = some k) → K (a.put o.dst v') w') :
    if Region.wanted o (yielded ops a.tmps) = true then Oper.wp P o a (w0.alloc (.cells #[.int .i64 f.src, .int .i64 f.dst, .int .i64 f.lvl] 99)) K Q else E := by
  have hw : Region.wanted o (yielded ops a.tmps) = true := by simp [Region.wanted, hgd]
  rw [if_pos hw]
  obtain ⟨v', w', hr, ho', hg, _, hat⟩ := run_append_own_at (P := P) (w := w0.alloc (.cells #[.int .i64 f.src, .int .i64 f.dst, .int .i64 f.lvl] 99)) base t o.type 99 i (.agg #[.int .i64 0, .int .i64 0, .int .i64 0]) 3 24 ht hi hz hsize hby rfl (by decide) v l.length (flatH l) (OwnH.below hown ((Below.refl _ _).alloc (Nat.le_refl _) _)) ⟨w0.heap.size, 0, none⟩ 1 1 f.cells rfl (by
    intro j u hj
    rw [add_at, Nat.zero_add, (Has.new w0 99 #[.int .i64 f.src, .int .i64 f.dst, .int .i64 f.lvl]).cell, ← Array.getElem?_toList]
    exact hj) (by
    intro u hu
    simp [Hp.cells] at hu
    rcases hu with rfl | rfl | rfl <;> rfl) (by unfold maxLen; omega) (by omega) (by simp; omega)
  unfold Oper.wp execOp
  simp only [ho, resolve, invoke, builtin, Sem.run_bind, Sem.run_pure, Result.andThen_ok, List.map_toArray, List.map_cons, List.map_nil, hs, hx, hr]
  refine h v' w' ?_ ?_ (fun j hj hne => ?_) (hat.imp (fun e => e) fun e => ⟨_, by rw [World.size_alloc]; omega, e⟩)
  · unfold OwnH
    rw [flatH_snoc, List.length_append]
    exact ho'
  · refine ((Below.refl _ _).alloc hbase _).trans ⟨hg.os, hg.tape, hg.output, hg.size, fun j hj => hg.block j (by rw [World.size_alloc]; omega) ?_⟩
    intro e
    obtain ⟨_, ⟨rfl, _⟩ | ⟨g', cap', cur, rfl, h4, h5, _⟩⟩ := hown
    · cases e
    · have : j = g' := Option.some.inj e
      omega
  · exact (hg.block j (by rw [World.size_alloc]; omega) (fun e => hne e.symm)).trans (Below.heap_alloc w0 _ j hj)
end
section
open Go.RowKit


/-! the program's stops, and one step -/
theorem gtr_kl (a b : ByteArray) : (!(Op.bytesLess a.toList b.toList || a.toList == b.toList)) = kl b a := by
  show (!(kl a b || a.toList == b.toList)) = kl b a
  cases h1 : kl a b
  · by_cases h2 : a.toList = b.toList
    · have := toList_inj h2
      subst this
      simp [kl_irrefl]
    · cases h3 : kl b a
      · exact absurd (by rw [kl_tri h1 h3]) h2
      · simp [h2]
  · rw [kl_asymm h1]
    rfl
def stV (x : Nd) (s : Value) : Value := .agg #[.int .i64 x.id, .string x.key, .int .u32 (x.word : Int), s]
set_option maxRecDepth 100000 in
set_option maxHeartbeats 800000 in
theorem ahead_any (x : Nd) (A : Option Addr) (P : List Lk) (c t : Nat) (q : ByteArray) (w : World) (hP : Lks w w.heap.size A P) (ht : t < P.length) :
    Calls Tryd.prog 96 #[stV x (.slice A P.length c), .string q, .int .i64 (t : Int)] w fun e w' => e = .returned (.int .i64 (lkS (!kl q x.key) P[t])) ∧ Below w.heap.size w w' := by
  obtain ⟨b, o, rfl, hb, f1, f2⟩ := hP.at_ ht
  generalize P[t] = y at *
  obtain ⟨n, hnn⟩ : ∃ n, n = P.length := ⟨_, rfl⟩
  rw [← hnn] at ht ⊢
  obtain ⟨xi, xk, xw⟩ := x
  obtain ⟨yl, yr⟩ := y
  have hb1 := (Below.refl w.heap.size w).alloc (Nat.le_refl _) (.cells #[.int .i64 xi, .string xk, .int .u32 (xw : Int), .slice (some ⟨b, o, none⟩) n c] 128)
  have HB := Lib.hid hb1
  replace f1 := (hb1.cell (p := ⟨b, o + t * 2, none⟩) hb).trans f1
  replace f2 := (hb1.cell (p := ⟨b, o + t * 2 + 1, none⟩) hb).trans f2
  have hX := Has.new w 128 #[.int .i64 xi, .string xk, .int .u32 (xw : Int), .slice (some ⟨b, o, none⟩) n c]
  have x1 := hX.cell 1
  have x3 := hX.cell 3
  have hl1 : ∀ a b : ByteArray, Op.bytesLess a.toList b.toList = kl a b := fun _ _ => rfl
  have i0 : (0 : Int) ≤ (t : Int) := by omega
  have i1 : (t : Int) < (n : Int) := by omega
  show Calls Tryd.prog 96 #[.agg #[.int .i64 xi, .string xk, .int .u32 (xw : Int), .slice (some ⟨b, o, none⟩) n c], .string q, .int .i64 (t : Int)] w fun e w' => e = .returned (.int .i64 (lkS (!kl q xk) ⟨yl, yr⟩)) ∧ Below w.heap.size w w'
  clear hX hb1 hnn hP hb
  have hl3 : Op.bytesLess q.toList xk.toList = kl q xk := rfl
  cases hk : kl q xk
  · rw [hk] at hl3
    clear hl1
    go_enter Tryd.func96, Tryd.ntmps96
    go_wp2_with fail
    go_ret
    exact ⟨rfl, HB.out⟩
  · rw [hk] at hl3
    clear hl1
    go_enter Tryd.func96, Tryd.ntmps96
    go_wp2_with fail
    go_ret
    exact ⟨rfl, HB.out⟩
/-- Whether a stop is between another one and the key. -/
def appB (x y : Nd) (q : ByteArray) : Bool := far (!kl q x.key) x y && (kl q y.key == kl q x.key)
set_option maxRecDepth 100000 in
set_option maxHeartbeats 1600000 in
theorem approaches_any (x y : Nd) (s u : Value) (q : ByteArray) (w : World) (hs : ∃ A n c, s = .slice A n c) (hu : ∃ A n c, u = .slice A n c) :
    Calls Tryd.prog 97 #[stV x s, stV y u, .string q] w fun e w' => e = .returned (.bool (appB x y q)) ∧ Below w.heap.size w w' := by
  obtain ⟨A1, n1, c1, rfl⟩ := hs
  obtain ⟨A2, n2, c2, rfl⟩ := hu
  have HZ : Hid (appB x y q = (if kl q x.key then (kl q y.key && kl y.key x.key) else (kl x.key y.key && !kl q y.key))) := Lib.hid (by
    unfold appB far
    cases kl q x.key <;> cases kl q y.key <;> cases kl x.key y.key <;> cases kl y.key x.key <;> rfl)
  generalize appB x y q = Z at *
  obtain ⟨xi, xk, xw⟩ := x
  obtain ⟨yi, yk, yw⟩ := y
  simp only at HZ
  have hX := Has.new w 128 #[.int .i64 xi, .string xk, .int .u32 (xw : Int), .slice A1 n1 c1]
  have hb1 := (Below.refl w.heap.size w).alloc (Nat.le_refl _) (.cells #[.int .i64 xi, .string xk, .int .u32 (xw : Int), .slice A1 n1 c1] 128)
  have hb2 := hb1.alloc (by rw [World.size_alloc]; omega) (.cells #[.int .i64 yi, .string yk, .int .u32 (yw : Int), .slice A2 n2 c2] 128)
  have HB := Lib.hid hb2
  have hl2 := gtr_kl yk q
  have hl3 : Op.bytesLess q.toList xk.toList = kl q xk := rfl
  have hl4 : Op.bytesLess q.toList yk.toList = kl q yk := rfl
  have hl5 : Op.bytesLess yk.toList xk.toList = kl yk xk := rfl
  have hl6 : Op.bytesLess xk.toList yk.toList = kl xk yk := rfl
  have hl7 : (Op.bytesLess yk.toList q.toList || yk.toList == q.toList) = !kl q yk := by rw [← hl2, Bool.not_not]
  clear hX hb1 hb2 hl2
  show Calls Tryd.prog 97 #[.agg #[.int .i64 xi, .string xk, .int .u32 (xw : Int), .slice A1 n1 c1], .agg #[.int .i64 yi, .string yk, .int .u32 (yw : Int), .slice A2 n2 c2], .string q] w _
  generalize kl q xk = K1 at *
  generalize kl q yk = K2 at *
  generalize kl yk xk = K3 at *
  generalize kl xk yk = K4 at *
  cases K1
  · cases K4
    all_goals
      go_enter Tryd.func97, Tryd.ntmps97
      go_wp2_with fail
      go_ret
      exact ⟨ret_bool (by rw [HZ.out]; rfl), HB.out⟩
  · cases K2
    all_goals
      go_enter Tryd.func97, Tryd.ntmps97
      go_wp2_with fail
      go_ret
      exact ⟨ret_bool (by rw [HZ.out]; rfl), HB.out⟩
theorem isLevelS_any (h : Int) (w : World) : Calls Tryd.prog 44 #[.int .i64 h] w fun e w' => e = .returned (.bool (lvB h)) ∧ w = w' := by
  have HL : Hid (lvB h = (decide (0 ≤ h) && decide (h ≤ 16))) := Lib.hid rfl
  generalize lvB h = Z at *
  by_cases h1 : 0 ≤ h
  · by_cases h2 : h ≤ 16
    · have HZ : Hid (Z = true) := Lib.hid (by rw [HL.out]; simp [h1, h2])
      go_enter Tryd.func44, Tryd.ntmps44
      go_wp2_with fail
      go_ret
      exact ⟨ret_bool HZ.out.symm, rfl⟩
    · have HZ : Hid (Z = false) := Lib.hid (by rw [HL.out]; simp [h2])
      go_enter Tryd.func44, Tryd.ntmps44
      go_wp2_with fail
      go_ret
      exact ⟨ret_bool HZ.out.symm, rfl⟩
  · have HZ : Hid (Z = false) := Lib.hid (by rw [HL.out]; simp [h1])
    go_enter Tryd.func44, Tryd.ntmps44
    go_wp2_with fail
    go_ret
    exact ⟨ret_bool HZ.out.symm, rfl⟩
theorem endV_last {l : List Hp} {n : Nat} (id : Int) (h : n < l.length) (h1 : n + 1 = l.length) : endV id l = l[n].dst := by
  unfold endV
  rw [List.getLast?_eq_getElem?, List.getElem?_eq_getElem (by omega)]
  simp only [Option.map_some, Option.getD_some]
  congr 2
  omega
set_option maxRecDepth 100000 in
theorem endH_any (A : Option Addr) (l : List Hp) (c : Nat) (id : Int) (w : World) (h : Hps w w.heap.size A l) (hn : l.length ≤ maxLen) :
    Calls Tryd.prog 38 #[.int .i64 id, .slice A l.length c] w fun e w' => e = .returned (.int .i64 (endV id l)) ∧ w = w' := by
  have hml : maxLen ≤ 9223372036854775807 := by decide
  by_cases h0 : l = []
  · subst h0
    show Calls Tryd.prog 38 #[.int .i64 id, .slice A 0 c] w fun e w' => e = .returned (.int .i64 id) ∧ w = w'
    go_enter Tryd.func38, Tryd.ntmps38
    go_wp2_with fail
    go_ret
    exact ⟨rfl, rfl⟩
  · obtain ⟨n, hnn⟩ : ∃ n, n + 1 = l.length := ⟨l.length - 1, by have := List.length_pos_iff.2 h0; omega⟩
    have hi : n < l.length := by omega
    rw [endV_last id hi hnn]
    obtain ⟨b, o, rfl, hb, hc⟩ := h h0
    have f1 := hc n hi 1 (by omega)
    clear hc
    replace f1 : w.cell? ⟨b, o + (n * 3 + 1), none⟩ = some (.int .i64 l[n].dst) := f1
    rw [← Nat.add_assoc] at f1
    generalize l[n].dst = D at *
    generalize l.length = N at *
    have e1 : IntKind.i64.wrap ((N : Int) - 1) = (n : Int) := by rw [IntWalk.i64_in _ (by omega)]; omega
    have i0 : (0 : Int) ≤ (n : Int) := by omega
    have i1 : (n : Int) < (N : Int) := by omega
    have e2 : ((N : Int) == 0) = false := by simp; omega
    clear hnn hi hn
    go_enter Tryd.func38, Tryd.ntmps38
    go_wp2_with fail
    go_ret
    exact ⟨rfl, rfl⟩
/-- What find gives: no node of a list that is no roster. -/
def sfB (l : List Nd) (id : Int) : Bool := decide (chkV l = 0) && decide (plc l id < l.length)
def sfN (l : List Nd) (id : Int) : Nd := if chkV l = 0 then fndV l id else Nd.none
set_option maxRecDepth 100000 in
set_option maxHeartbeats 800000 in
theorem sfind_any (A : Option Addr) (l : List Nd) (c : Nat) (id : Int) (w : World) (hl : Nds w w.heap.size A l) (hwd : ∀ x ∈ l, x.word < 4294967296) :
    Calls Tryd.prog 42 #[.slice A l.length c, .int .i64 id] w fun e w' => e = .returned (.tuple #[(sfN l id).val, .bool (sfB l id)]) ∧ Below w.heap.size w w' := by
  have hb0 := (Below.refl w.heap.size w).alloc (Nat.le_refl _) (.cells #[.int .i64 0, .string ByteArray.empty, .int .u32 0] 30)
  have HX := Lib.hid (Has.new w 30 #[.int .i64 0, .string ByteArray.empty, .int .u32 0])
  have HC := Lib.hid (check_any A l c (w.alloc (.cells #[.int .i64 0, .string ByteArray.empty, .int .u32 0] 30)) ((hl.below hb0).more (by rw [World.size_alloc]; omega)) hwd)
  have HF := Lib.hid (fun (h : chkV l = 0) (W : World) (k : Below w.heap.size w W) => find_any A l c id W ((hl.below k).more k.size) (by have := (chkV_zero.1 h).1; omega))
  unfold FndP at HF
  have HB0 := Lib.hid hb0
  have HN0 : Hid (chkV l ≠ 0 → sfN l id = Nd.none ∧ sfB l id = false) := Lib.hid fun h => ⟨if_neg h, by simp [sfB, h]⟩
  have HN1 : Hid (chkV l = 0 → sfN l id = fndV l id ∧ sfB l id = decide (plc l id < l.length)) := Lib.hid fun h => ⟨if_pos h, by simp [sfB, h]⟩
  generalize chkV l = E at *
  generalize sfN l id = X at *
  generalize sfB l id = B at *
  generalize decide (plc l id < l.length) = B2 at *
  generalize fndV l id = Y at *
  obtain ⟨N, hN⟩ : ∃ N, N = l.length := ⟨_, rfl⟩
  rw [← hN] at HC HF ⊢
  clear hl hwd hb0 hN
  by_cases he : E = 0
  · obtain ⟨rfl, rfl⟩ := HN1.out he
    have HG := Lib.hid (HF.out he)
    clear HF HN0 HN1
    subst he
    obtain ⟨yi, yk, yw⟩ := X
    go_enter Tryd.func42, Tryd.ntmps42
    go_wp2_with fail
    refine (HC.out).mono ?_
    rintro e w1 ⟨rfl, hb1⟩
    have HB1 := Lib.hid (HB0.out.trans (hb1.mono HB0.out.size))
    have HX1 := Lib.hid (HX.out.below hb1)
    clear hb1 HB0 HX HC
    go_wp2_with fail
    refine (HG.out w1 HB1.out).mono ?_
    rintro e w2 ⟨rfl, hb2⟩
    have HB2 := Lib.hid (HB1.out.trans (hb2.mono HB1.out.size))
    have hX2 := HX1.out.below hb2
    have z := fun o => hX2.frozen o
    have c0 := hX2.cell 0
    have c1 := hX2.cell 1
    have c2 := hX2.cell 2
    clear hb2 HB1 HX1 HG hX2
    go_wp2_with fail
    refine bodyPost_ret (v := .tuple #[.agg #[.int .i64 yi, .string yk, .int .u32 (yw : Int)], .bool B]) (by simp [results, Tryd.results42, go_sem, *]) rfl ⟨rfl, ?_⟩
    exact ((HB2.out.setCell (Nat.le_refl _) _).setCell (Nat.le_refl _) _).setCell (Nat.le_refl _) _
  · obtain ⟨rfl, rfl⟩ := HN0.out he
    have e1 : (E == 0) = false := by simpa using he
    clear HF HN0 HN1 he
    go_enter Tryd.func42, Tryd.ntmps42
    go_wp2_with fail
    refine (HC.out).mono ?_
    rintro e w1 ⟨rfl, hb1⟩
    have HB1 := Lib.hid (HB0.out.trans (hb1.mono HB0.out.size))
    have hX1 := HX.out.below hb1
    have z := fun o => hX1.frozen o
    have c0 := hX1.cell 0
    have c1 := hX1.cell 1
    have c2 := hX1.cell 2
    clear hb1 HB0 HX HC hX1
    go_wp2_with fail
    refine bodyPost_ret (v := .tuple #[.agg #[.int .i64 0, .string ⟨#[]⟩, .int .u32 0], .bool false]) (by simp [results, Tryd.results42, go_sem, *]) rfl ⟨rfl, ?_⟩
    exact ((HB1.out.setCell (Nat.le_refl _) _).setCell (Nat.le_refl _) _).setCell (Nat.le_refl _) _
end
section
open Go.RowKit


theorem drop_at {α : Type} {l : List α} {k : Nat} (h : k < l.length) : l.drop k = l[k] :: l.drop (k + 1) := List.drop_eq_getElem_cons h
theorem runF_yes {p : Nd → Bool} {C : List Nd} {k n b : Nat} (h : k < C.length) (e : p C[k] = true) : runF p (C.drop k) n b = runF p (C.drop (k + 1)) 0 (max b 0) := by
  rw [drop_at h, runF, e]; rfl
theorem runF_no {p : Nd → Bool} {C : List Nd} {k n b : Nat} (h : k < C.length) (e : p C[k] = false) : runF p (C.drop k) n b = runF p (C.drop (k + 1)) (n + 1) (max b (n + 1)) := by
  rw [drop_at h, runF, e]; rfl
theorem runF_end {p : Nd → Bool} {C : List Nd} {k n b : Nat} (h : C.length ≤ k) : runF p (C.drop k) n b = b := by
  rw [List.drop_eq_nil_of_le h]; rfl
theorem pin_id {x y : Nd} {t : Nat} (h : y.id = x.id) : pin x t y = true := by simp [pin, h]
theorem pin_ne {x y : Nd} {t : Nat} (h : y.id ≠ x.id) : pin x t y = decide ((t : Int) + 1 ≤ (cm y.word x.word : Int)) := by simp [pin, h]
theorem pin_out {x y : Nd} (h : y.id ≠ x.id) : pin x 16 y = false := by
  rw [pin_ne h]
  have := cm_le y.word x.word
  simp
  omega
theorem max_int (a b : Nat) : max (a : Int) (b : Int) = ((max a b : Nat) : Int) := by omega
set_option maxRecDepth 100000 in
set_option maxHeartbeats 1600000 in
theorem runS_any (A : Option Addr) (s : List Nd) (c : Nat) (x : Nd) (h : Nat) (w : World) (hl : Nds w w.heap.size A s) (hn : s.length ≤ 1000) (hwd : ∀ y ∈ s, y.word < 4294967296) (hxw : x.word < 4294967296) (hh : h ≤ 16) (hT : Deb w) :
    Calls Tryd.prog 43 #[.slice A s.length c, x.val, .int .i64 (h : Int)] w fun e w' => e = .returned (.int .i64 (runF (pin x h) (grp s (h : Int) x.word) 0 0 : Int)) ∧ Below w.heap.size w w' := by
  have hb0 := (Below.refl w.heap.size w).alloc (Nat.le_refl _) (.cells #[.int .i64 x.id, .string x.key, .int .u32 (x.word : Int)] 30)
  have HG := Lib.hid (group_any A s c (h : Int) x.word (w.alloc (.cells #[.int .i64 x.id, .string x.key, .int .u32 (x.word : Int)] 30)) ((hl.below hb0).more hb0.size) hn hwd hxw (hT.below hb0))
  have HX := Lib.hid (Has.new w 30 #[.int .i64 x.id, .string x.key, .int .u32 (x.word : Int)])
  have HB0 := Lib.hid hb0
  have HT0 := Lib.hid (hT.below hb0)
  have HW : Hid (∀ y ∈ grp s (h : Int) x.word, y.word < 4294967296) := Lib.hid fun y hy => hwd y (List.mem_filter.1 hy).1
  have hgl : (grp s (h : Int) x.word).length ≤ 1000 := Nat.le_trans (grp_len _ _ _) hn
  have HP1 := Lib.hid (fun (y : Nd) (e : y.id = x.id) => pin_id (t := h) e)
  have HP2 := Lib.hid (fun (y : Nd) (e : y.id ≠ x.id) => pin_ne (t := h) e)
  generalize pin x h = p at *
  generalize grp s (h : Int) x.word = C at *
  have HR0 : Hid (runF p (C.drop 0) 0 0 = runF p C 0 0) := Lib.hid rfl
  generalize runF p C 0 0 = R at *
  have HYS := Lib.hid (fun (k n b : Nat) (h : k < C.length) (e : p C[k] = true) => runF_yes (n := n) (b := b) h e)
  have HNO := Lib.hid (fun (k n b : Nat) (h : k < C.length) (e : p C[k] = false) => runF_no (n := n) (b := b) h e)
  have HEN := Lib.hid (fun (k n b : Nat) (h : C.length ≤ k) => runF_end (p := p) (n := n) (b := b) h)
  obtain ⟨m, hm⟩ : ∃ m, m = s.length := ⟨_, rfl⟩
  rw [← hm] at HG ⊢
  obtain ⟨N, hN⟩ : ∃ N, N = C.length := ⟨_, rfl⟩
  have HN := Lib.hid hN
  obtain ⟨xi, xk, xw⟩ := x
  simp only at hxw HG HX HB0 HT0 HP1 HP2 ⊢
  obtain ⟨X, hX⟩ : ∃ X, X = w.heap.size := ⟨_, rfl⟩
  have HXX := Lib.hid hX
  clear hl hn hwd hT hb0 hm
  go_enter Tryd.func43, Tryd.ntmps43
  go_wp2_with fail
  refine (HG.out).mono ?_
  rintro e w1 ⟨A1, c1, rfl, ho1, hb1⟩
  obtain ⟨_, _, er, hr1⟩ := ho1.read
  injection er with e1 _ e2
  subst e1 e2
  have HB1 := Lib.hid (HB0.out.trans (hb1.mono HB0.out.size))
  have HX1 := Lib.hid (HX.out.below hb1)
  have HT1 := Lib.hid (HT0.out.below hb1)
  have HRC := Lib.hid hr1
  rw [← hX] at HX1
  rw [← hN] at hgl ⊢
  try rw [← hX]
  clear hb1 HG HX HB0 HT0 ho1 hr1 hN hX
  go_wp2_with fail
  go_loopw [7, 8, 17] (fun vb vn vk wr => ∃ k n b : Nat, vk = .int .i64 (k : Int) ∧ vn = .int .i64 (n : Int) ∧ vb = .int .i64 (b : Int) ∧ k ≤ N ∧ n ≤ k ∧ b ≤ k ∧ Below w1.heap.size w1 wr ∧ Hid (runF p (C.drop k) n b = R)) (fun _ _ vk _ => N - (intOf vk).toNat)
  case atStart => exact ⟨0, 0, 0, rfl, rfl, rfl, by omega, by omega, by omega, Below.refl _ _, HR0⟩
  case round =>
    obtain ⟨k, n, b, rfl, rfl, rfl, hk, hnk, hbk, hB, HR⟩ := hrel
    by_cases hlt : k < N
    · have k1 : k < C.length := by rw [← HN.out]; exact hlt
      obtain ⟨b2, o2, e2, hb2, f1, f2, f3⟩ := HRC.out.at_ k1
      subst e2
      have hyw := HW.out _ (List.getElem_mem k1)
      have HY1 := Lib.hid (fun e => HYS.out k n b k1 e)
      have HN1 := Lib.hid (fun e => HNO.out k n b k1 e)
      have HQ1 := Lib.hid (HP1.out (C[k]'k1))
      have HQ2 := Lib.hid (HP2.out (C[k]'k1))
      generalize p C[k] = pb at *
      generalize C[k] = y at *
      obtain ⟨yi, yk, yw⟩ := y
      simp only at f1 f2 f3 hyw HQ1 HQ2
      replace f1 := (hB.cell (p := ⟨b2, o2 + k * 3, none⟩) hb2).trans f1
      replace f2 := (hB.cell (p := ⟨b2, o2 + k * 3 + 1, none⟩) hb2).trans f2
      replace f3 := (hB.cell (p := ⟨b2, o2 + k * 3 + 2, none⟩) hb2).trans f3
      have i0 : (0 : Int) ≤ (k : Int) := by omega
      have i1 : (k : Int) < (N : Int) := by omega
      have hbY := (Below.refl wr.heap.size wr).alloc (Nat.le_refl _) (.cells #[.int .i64 yi, .string yk, .int .u32 (yw : Int)] 30)
      have hY := Has.new wr 30 #[.int .i64 yi, .string yk, .int .u32 (yw : Int)]
      have y0 := hY.cell 0
      have y2 := hY.cell 2
      have hXY := (HX1.out.below hB).below hbY
      have x0 := hXY.cell 0
      have x2 := hXY.cell 2
      have HBY := Lib.hid (hB.trans (hbY.mono hB.size))
      have HS := Lib.hid (same_any yw xw ((h : Int) + 1) (wr.alloc (.cells #[.int .i64 yi, .string yk, .int .u32 (yw : Int)] 30)) hyw hxw ((HT1.out.below hB).below hbY))
      have en : IntKind.i64.wrap ((n : Int) + 1) = (n : Int) + 1 := IntWalk.i64_in _ (by omega)
      have eh : IntKind.i64.wrap ((h : Int) + 1) = (h : Int) + 1 := IntWalk.i64_in _ (by omega)
      clear hbY hY hXY hB hb2 k1
      by_cases he : yi = xi
      · have hpe := HQ1.out he
        have e1 : (yi == xi) = true := by simpa using he
        have HZ := Lib.hid ((HY1.out hpe).symm.trans HR.out)
        clear HQ1 HQ2 HY1 HN1 HS he hpe HR
        go_wp2_with fail
        refine ⟨⟨k + 1, 0, max b 0, by go_num, rfl, ?_, by omega, by omega, by omega, HBY.out, HZ⟩, by simp [intOf]; omega⟩
        exact congrArg (Value.int .i64) (by omega)
      · have hpe := HQ2.out he
        have e1 : (yi == xi) = false := by simpa using he
        have HPB := Lib.hid hpe
        rw [← hpe] at HS
        clear HQ1 HQ2 he hpe
        go_wp2_with fail
        refine (HS.out).mono ?_
        rintro e w2 ⟨rfl, rfl⟩
        cases hpb : pb
        · have HZ := Lib.hid ((HN1.out hpb).symm.trans HR.out)
          subst hpb
          clear HY1 HN1 HR HS
          go_wp2_with fail
          refine ⟨⟨k + 1, n + 1, max b (n + 1), by go_num, by go_num, ?_, by omega, by omega, by omega, HBY.out, HZ⟩, by simp [intOf]; omega⟩
          exact congrArg (Value.int .i64) (by omega)
        · have HZ := Lib.hid ((HY1.out hpb).symm.trans HR.out)
          subst hpb
          clear HY1 HN1 HR HS
          go_wp2_with fail
          refine ⟨⟨k + 1, 0, max b 0, by go_num, rfl, ?_, by omega, by omega, by omega, HBY.out, HZ⟩, by simp [intOf]; omega⟩
          exact congrArg (Value.int .i64) (by omega)
    · have hkn : C.length ≤ k := by rw [← HN.out]; omega
      have HRE := Lib.hid ((HEN.out k n b hkn).symm.trans HR.out)
      clear HEN HYS HNO HR
      go_wp2_with fail
      go_ret
      exact ⟨ret_int (by rw [HRE.out]), HB1.out.trans (hB.mono HB1.out.size)⟩
end
section
open Go.RowKit


theorem sf_yes {l : List Nd} {id : Int} (h : sfB l id = true) : chkV l = 0 ∧ plc l id < l.length ∧ sfN l id = fndV l id ∧ fndV l id ∈ l := by
  unfold sfB at h
  simp only [Bool.and_eq_true, decide_eq_true_eq] at h
  exact ⟨h.1, h.2, if_pos h.1, (fnd_in h.2).1⟩
theorem run_le {l : List Nd} (hc : chkV l = 0) (x : Nd) (t : Nat) : runL l x t ≤ 64 := by
  have h1 := runF_le (pin x t) (grp (srt l) (t : Int) x.word) 0 0
  have h2 := List.length_filter_le (fun y => !pin x t y) (grp (srt l) (t : Int) x.word)
  have h3 := grp_len (srt l) (t : Int) x.word
  have h4 := srt_le hc
  unfold runL
  omega
theorem sum_le {f : Nat → Nat} (h : ∀ t, f t ≤ 64) : ∀ n, sumR f n ≤ n * 64
  | 0 => by simp [sumR]
  | n + 1 => by have := sum_le h n; have := h n; rw [sumR]; omega
theorem run_if {l : List Nd} {id h : Int} (hb : sfB l id = true) (hl : lvB h = true) : runR l id h = runL l (sfN l id) h.toNat := by
  obtain ⟨h1, h2, h3, _⟩ := sf_yes hb
  unfold runR
  rw [if_pos ⟨h1, hl, h2⟩, h3]
theorem run_no {l : List Nd} {id h : Int} (hb : sfB l id = false ∨ lvB h = false) : runR l id h = 0 := by
  unfold runR
  rw [if_neg]
  rintro ⟨h1, h2, h3⟩
  rcases hb with hb | hb
  · simp [sfB, h1, h3] at hb
  · rw [h2] at hb; cases hb
theorem bnd_yes {l : List Nd} {id : Int} (hb : sfB l id = true) : bndR l id = 1 + sumR (runL l (sfN l id)) 17 := by
  obtain ⟨h1, h2, h3, _⟩ := sf_yes hb
  unfold bndR
  rw [if_pos ⟨h1, h2⟩, h3]
theorem bnd_no {l : List Nd} {id : Int} (hb : sfB l id = false) : bndR l id = 0 := by
  unfold bndR
  rw [if_neg]
  rintro ⟨h1, h3⟩
  simp [sfB, h1, h3] at hb
/-- run on the nodes in their order. -/
theorem runL_any {l : List Nd} (hc : chkV l = 0) {x : Nd} (hx : x ∈ l) (A : Option Addr) (c h : Nat) (w : World) (hl : Nds w w.heap.size A (srt l)) (hh : h ≤ 16) (hT : Deb w) :
    Calls Tryd.prog 43 #[.slice A (srt l).length c, x.val, .int .i64 (h : Int)] w fun e w' => e = .returned (.int .i64 (runL l x h : Int)) ∧ Below w.heap.size w w' :=
  runS_any A (srt l) c x h w hl (by have := srt_le hc; omega) (srt_wd hc) (wide_of hc x hx).2 hh hT
set_option maxRecDepth 100000 in
set_option maxHeartbeats 1600000 in
theorem runK_any (A : Option Addr) (l : List Nd) (c : Nat) (id h : Int) (w : World) (hl : Nds w w.heap.size A l) (hwd : ∀ x ∈ l, x.word < 4294967296) (hT : Deb w) :
    Calls Tryd.prog 20 #[.slice A l.length c, .int .i64 id, .int .i64 h] w fun e w' => e = .returned (.int .i64 (runR l id h : Int)) ∧ Below w.heap.size w w' := by
  have HF := Lib.hid (sfind_any A l c id w hl hwd)
  have HI := Lib.hid (fun (W : World) => isLevelS_any h W)
  by_cases hb : sfB l id = true
  · obtain ⟨hc, _, hsn, hin⟩ := sf_yes hb
    by_cases hv : lvB h = true
    · obtain ⟨t, rfl, ht⟩ : ∃ t : Nat, h = (t : Int) ∧ t ≤ 16 := ⟨h.toNat, by simp [lvB] at hv; omega, by simp [lvB] at hv; omega⟩
      have HR : Hid (runR l id (t : Int) = runL l (sfN l id) t) := Lib.hid (run_if hb hv)
      have HS := Lib.hid (fun (W : World) (k : Below w.heap.size w W) => sortR_any A l c W ((hl.below k).more k.size) hc)
      have HRN := Lib.hid (fun (W : World) (A2 : Option Addr) (c2 : Nat) (hr : Nds W W.heap.size A2 (srt l)) (hd : Deb W) => runL_any hc (x := sfN l id) (by rw [hsn]; exact hin) A2 c2 t W hr ht hd)
      have HDB := Lib.hid (fun (W : World) (k : Below w.heap.size w W) => hT.below k)
      rw [hb] at HF
      rw [hv] at HI
      rw [HR.out]
      generalize runL l (sfN l id) t = R at *
      generalize sfN l id = x at *
      generalize srt l = S at *
      obtain ⟨n, hn⟩ : ∃ n, n = l.length := ⟨_, rfl⟩
      rw [← hn] at HF HS ⊢
      obtain ⟨xi, xk, xw⟩ := x
      clear hl hwd hT hb hc hsn hin hv HR hn
      go_enter Tryd.func20, Tryd.ntmps20
      go_wp2_with fail
      refine (HF.out).mono ?_
      rintro e w1 ⟨rfl, hb1⟩
      have hk1 := hb1.trans (((Below.refl w1.heap.size w1).alloc (Nat.le_refl _) (.cells #[.int .i64 xi, .string xk, .int .u32 (xw : Int)] 30)).mono hb1.size)
      have HX1 := Lib.hid (Has.new w1 30 #[.int .i64 xi, .string xk, .int .u32 (xw : Int)])
      have HB1 := Lib.hid hk1
      clear hb1 hk1 HF
      go_wp2_with fail
      refine (HI.out _).mono ?_
      rintro e w2 ⟨rfl, rfl⟩
      obtain ⟨W1, hW1⟩ : ∃ W1 : World, W1 = w1.alloc (.cells #[.int .i64 xi, .string xk, .int .u32 (xw : Int)] 30) := ⟨_, rfl⟩
      obtain ⟨X, hX⟩ : ∃ X, X = w1.heap.size := ⟨_, rfl⟩
      go_upto_region 4 with fail
      rw [← hW1] at HX1 HB1 ⊢
      rw [← hX] at HX1 ⊢
      have x0 : W1.drew.cell? ⟨X, 0, none⟩ = some (.int .i64 xi) := HX1.out.cell 0
      have x1 : W1.drew.cell? ⟨X, 1, none⟩ = some (.string xk) := HX1.out.cell 1
      have x2 : W1.drew.cell? ⟨X, 2, none⟩ = some (.int .u32 (xw : Int)) := HX1.out.cell 2
      have hlt2 : X < W1.drew.heap.size := HX1.out.lt
      clear hW1 hX HX1
      go_region_held3 (fun W => W.cell? ⟨X, 0, none⟩ = some (.int .i64 xi) ∧ W.cell? ⟨X, 1, none⟩ = some (.string xk) ∧ W.cell? ⟨X, 2, none⟩ = some (.int .u32 (xw : Int))) (first | with_reducible exact hx4 | with_reducible exact hx3 | with_reducible exact ⟨x0, x1, x2⟩ | with_reducible assumption) (first | (go_at_call 43; refine (HRN.out wa A3 c3 hr3 (HDB.out _ hBa)).mono ?_; rintro e wb ⟨rfl, hb4⟩; have hx4 := And.intro ((hb4.cell (p := ⟨X, 0, none⟩) hlt3).trans hx3.1) (And.intro ((hb4.cell (p := ⟨X, 1, none⟩) hlt3).trans hx3.2.1) ((hb4.cell (p := ⟨X, 2, none⟩) hlt3).trans hx3.2.2))) | (go_at_call 26; refine (HS.out _ (HB1.out.drew)).mono ?_; rintro e wa ⟨A3, c3, rfl, ho3, hb3⟩; obtain ⟨_, _, er, hr3⟩ := ho3.read; injection er with e1 _ e2; subst e1 e2; have hBa := HB1.out.drew.trans (hb3.mono HB1.out.drew.size); have hlt3 : X < wa.heap.size := Nat.lt_of_lt_of_le hlt2 hb3.size; have hx3 := And.intro ((hb3.cell (p := ⟨X, 0, none⟩) hlt2).trans x0) (And.intro ((hb3.cell (p := ⟨X, 1, none⟩) hlt2).trans x1) ((hb3.cell (p := ⟨X, 2, none⟩) hlt2).trans x2))))
      all_goals
        have HBb := Lib.hid (hBa.trans (hb4.mono hBa.size))
        clear hb3 hb4 hBa ho3 hr3 hlt3 hx3 hx4 x0 x1 x2 hlt2 HS HRN HDB HB1 HI
        go_wp2_with fail
        go_ret
        exact ⟨rfl, HBb.out⟩
    · have hz : lvB h = false := by simpa using hv
      have HR : Hid (runR l id h = 0) := Lib.hid (run_no (.inr hz))
      rw [hb] at HF
      rw [hz] at HI
      rw [HR.out]
      generalize sfN l id = x at *
      obtain ⟨n, hn⟩ : ∃ n, n = l.length := ⟨_, rfl⟩
      rw [← hn] at HF ⊢
      obtain ⟨xi, xk, xw⟩ := x
      clear hl hwd hT hb hc hsn hin hv hz HR hn
      go_enter Tryd.func20, Tryd.ntmps20
      go_wp2_with fail
      refine (HF.out).mono ?_
      rintro e w1 ⟨rfl, hb1⟩
      have HB1 := Lib.hid (hb1.trans (((Below.refl w1.heap.size w1).alloc (Nat.le_refl _) (.cells #[.int .i64 xi, .string xk, .int .u32 (xw : Int)] 30)).mono hb1.size))
      clear hb1 HF
      go_wp2_with fail
      refine (HI.out _).mono ?_
      rintro e w2 ⟨rfl, rfl⟩
      go_wp2_with fail
      go_ret
      exact ⟨rfl, HB1.out⟩
  · have hz : sfB l id = false := by simpa using hb
    have HR : Hid (runR l id h = 0) := Lib.hid (run_no (.inl hz))
    rw [hz] at HF
    rw [HR.out]
    generalize sfN l id = x at *
    obtain ⟨n, hn⟩ : ∃ n, n = l.length := ⟨_, rfl⟩
    rw [← hn] at HF ⊢
    obtain ⟨xi, xk, xw⟩ := x
    clear hl hwd hT hb hz HR hn
    go_enter Tryd.func20, Tryd.ntmps20
    go_wp2_with fail
    refine (HF.out).mono ?_
    rintro e w1 ⟨rfl, hb1⟩
    have HB1 := Lib.hid (hb1.trans (((Below.refl w1.heap.size w1).alloc (Nat.le_refl _) (.cells #[.int .i64 xi, .string xk, .int .u32 (xw : Int)] 30)).mono hb1.size))
    clear hb1 HF
    go_wp2_with fail
    go_ret
    exact ⟨rfl, HB1.out⟩
set_option maxRecDepth 100000 in
set_option maxHeartbeats 1600000 in
theorem bndK_any (A : Option Addr) (l : List Nd) (c : Nat) (id : Int) (w : World) (hl : Nds w w.heap.size A l) (hwd : ∀ x ∈ l, x.word < 4294967296) (hT : Deb w) :
    Calls Tryd.prog 19 #[.slice A l.length c, .int .i64 id] w fun e w' => e = .returned (.int .i64 (bndR l id : Int)) ∧ Below w.heap.size w w' := by
  have HF := Lib.hid (sfind_any A l c id w hl hwd)
  by_cases hb : sfB l id = true
  · obtain ⟨hc, _, hsn, hin⟩ := sf_yes hb
    have HR : Hid (bndR l id = 1 + sumR (runL l (sfN l id)) 17) := Lib.hid (bnd_yes hb)
    have HS := Lib.hid (fun (W : World) (k : Below w.heap.size w W) => sortR_any A l c W ((hl.below k).more k.size) hc)
    have HRN := Lib.hid (fun (W : World) (A2 : Option Addr) (c2 t : Nat) (ht : t ≤ 16) (hr : Nds W W.heap.size A2 (srt l)) (hd : Deb W) => runL_any hc (x := sfN l id) (by rw [hsn]; exact hin) A2 c2 t W hr ht hd)
    have HDB := Lib.hid (fun (W : World) (k : Below w.heap.size w W) => hT.below k)
    have HLE := Lib.hid (fun n => sum_le (run_le hc (sfN l id)) n)
    rw [hb] at HF
    rw [HR.out]
    have hNX : Hid (∀ n, sumR (runL l (sfN l id)) (n + 1) = sumR (runL l (sfN l id)) n + runL l (sfN l id) n) := Lib.hid fun _ => rfl
    have hN0 : Hid (sumR (runL l (sfN l id)) 0 = 0) := Lib.hid rfl
    have hRL := Lib.hid (run_le hc (sfN l id))
    generalize runL l (sfN l id) = R at *
    generalize sumR R = SM at *
    generalize sfN l id = x at *
    generalize srt l = S at *
    obtain ⟨n, hn⟩ : ∃ n, n = l.length := ⟨_, rfl⟩
    rw [← hn] at HF HS ⊢
    obtain ⟨xi, xk, xw⟩ := x
    clear hl hwd hT hb hc hsn hin HR hn
    go_enter Tryd.func19, Tryd.ntmps19
    go_wp2_with fail
    refine (HF.out).mono ?_
    rintro e w1 ⟨rfl, hb1⟩
    have hk1 := hb1.trans (((Below.refl w1.heap.size w1).alloc (Nat.le_refl _) (.cells #[.int .i64 xi, .string xk, .int .u32 (xw : Int)] 30)).mono hb1.size)
    have HX1 := Lib.hid (Has.new w1 30 #[.int .i64 xi, .string xk, .int .u32 (xw : Int)])
    have HB1 := Lib.hid hk1
    clear hb1 hk1 HF
    go_wp2_with fail
    refine (HS.out _ HB1.out).mono ?_
    rintro e w2 ⟨A2, c2, rfl, ho2, hb2⟩
    obtain ⟨_, _, er, hr2⟩ := ho2.read
    injection er with e1 _ e2
    subst e1 e2
    have HB2 := Lib.hid (HB1.out.trans (hb2.mono HB1.out.size))
    have HX2 := Lib.hid (HX1.out.below hb2)
    obtain ⟨X, hX⟩ : ∃ X, X = w1.heap.size := ⟨_, rfl⟩
    rw [← hX] at HX2
    try rw [← hX]
    have HR2 := Lib.hid hr2
    clear hb2 HS HX1 HB1 ho2 hr2
    go_wp2_with fail
    try rw [← hX]
    clear hX
    go_loopw [8, 20] (fun vs vk wr => ∃ k : Nat, vk = .int .i64 (k : Int) ∧ k ≤ 17 ∧ vs = .int .i64 (1 + (SM k : Int)) ∧ Below w2.heap.size w2 wr) (fun _ vk _ => 17 - (intOf vk).toNat)
    case atStart => exact ⟨0, rfl, by omega, by rw [hN0.out]; rfl, Below.refl _ _⟩
    case round =>
      obtain ⟨k, rfl, hk, rfl, hB⟩ := hrel
      by_cases hlt : k < 17
      · have i1 : (k : Int) < 17 := by omega
        have hXr := HX2.out.below hB
        have x0 := hXr.cell 0
        have x1 := hXr.cell 1
        have x2 := hXr.cell 2
        have HC := Lib.hid (HRN.out wr A2 c2 k (by omega) ((HR2.out.below hB).more hB.size) (HDB.out _ (HB2.out.trans (hB.mono HB2.out.size))))
        have h1 := HLE.out k
        have h2 := hRL.out k
        have h3 := hNX.out k
        have HBr := Lib.hid hB
        have es : IntKind.i64.wrap (1 + (SM k : Int) + (R k : Int)) = 1 + (SM (k + 1) : Int) := by rw [IntWalk.i64_in _ (by omega)]; omega
        clear hXr hB h1 h2 h3
        go_wp2_with fail
        refine (HC.out).mono ?_
        rintro e w3 ⟨rfl, hb3⟩
        go_wp2_with fail
        exact ⟨⟨k + 1, by go_num, by omega, by first | rfl | trivial | (exact congrArg (Value.int .i64) es), HBr.out.trans (hb3.mono HBr.out.size)⟩, by simp [intOf]; omega⟩
      · have ek : k = 17 := by omega
        subst ek
        go_wp2_with fail
        go_ret
        exact ⟨ret_int (by omega), HB2.out.trans (hB.mono HB2.out.size)⟩
  · have hz : sfB l id = false := by simpa using hb
    have HR : Hid (bndR l id = 0) := Lib.hid (bnd_no hz)
    rw [hz] at HF
    rw [HR.out]
    generalize sfN l id = x at *
    obtain ⟨n, hn⟩ : ∃ n, n = l.length := ⟨_, rfl⟩
    rw [← hn] at HF ⊢
    obtain ⟨xi, xk, xw⟩ := x
    clear hl hwd hT hb hz HR hn
    go_enter Tryd.func19, Tryd.ntmps19
    go_wp2_with fail
    refine (HF.out).mono ?_
    rintro e w1 ⟨rfl, hb1⟩
    have HB1 := Lib.hid (hb1.trans (((Below.refl w1.heap.size w1).alloc (Nat.le_refl _) (.cells #[.int .i64 xi, .string xk, .int .u32 (xw : Int)] 30)).mono hb1.size))
    clear hb1 HF
    go_wp2_with fail
    go_ret
    exact ⟨rfl, HB1.out⟩
end
end Go.Proofs.YtjokbdhineilcaaDoor
