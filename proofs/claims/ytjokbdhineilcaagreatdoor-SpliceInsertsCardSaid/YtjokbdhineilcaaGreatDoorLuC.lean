/-
  Rows of hops, as they are read and as the call's own. No condition.
  Package search: one step, End and find. Conditions: what is read can be read.
  Package search: run. Conditions: the nodes can be read; the table of trailing zeros is as it is laid.
  Package search: Run and Bound. Conditions: the nodes can be read; the table of trailing zeros is as it is laid.
-/
import Derived.Test.YtjokbdhineilcaaGreatDoorLuA
import Derived.Test.YtjokbdhineilcaaGreatDoorKdN
import Derived.Test.YtjokbdhineilcaaGreatDoorLpA
import Derived.Test.YtjokbdhineilcaaGreatDoorLgG
import Derived.Test.YtjokbdhineilcaaGreatDoorKfA
import Derived.Test.YtjokbdhineilcaaGreatDoorLdG
import Derived.Test.YtjokbdhineilcaaGreatDoorLmD
import Derived.Test.YtjokbdhineilcaaGreatDoorLmG
import Derived.Deep.RegionHeld3
import Derived.BigRegion
import Derived.Deep.DeepCutAuto
import Derived.Deep.CutBlock
namespace Go.Proofs.YtjokbdhineilcaaGreatDoor
section
open Go.RowKit


/-! rows of hops -/
theorem infoHop : (Tryz.prog.info? 94).map (fun i => (i.zero, i.size, i.bytes)) = some (some (.agg #[.int .i64 0, .int .i64 0, .int .i64 0]), 3, 24) := by kernel_rfl
theorem infoH_parts : ∃ i, Tryz.prog.info? 94 = some i ∧ i.zero = some (.agg #[.int .i64 0, .int .i64 0, .int .i64 0]) ∧ i.size = 3 ∧ i.bytes = 24 := by
  obtain ⟨i, h, e⟩ := Option.map_eq_some_iff.1 infoHop
  injection e with e1 e2
  injection e2 with e2 e3
  exact ⟨i, h, e1, e2, e3⟩
def Hp.cells (d : Hp) : List Value := [.int .i64 d.src, .int .i64 d.dst, .int .i64 d.lvl]
/-- A row of hops of the call's own. -/
def flatH (l : List Hp) : List Value := l.flatMap Hp.cells
theorem flatH_len (l : List Hp) : (flatH l).length = l.length * 3 := by
  induction l with
  | nil => rfl
  | cons x l ih => show (_ ++ flatH l).length = _; rw [List.length_append, ih]; simp [Hp.cells]; omega
theorem flatH_snoc (l : List Hp) (f : Hp) : flatH (l ++ [f]) = flatH l ++ f.cells := by simp [flatH]
theorem flatH_at : ∀ (l : List Hp) (i : Nat) (h : i < l.length) (j : Nat), j < 3 → (flatH l)[i * 3 + j]? = l[i].cells[j]?
  | [], _, h, _, _ => by simp at h
  | f :: l, 0, _, j, hj => by
    show (f.cells ++ flatH l)[0 * 3 + j]? = f.cells[j]?
    rw [List.getElem?_append_left (by simp [Hp.cells]; omega), Nat.zero_mul, Nat.zero_add]
  | f :: l, i + 1, h, j, hj => by
    have := flatH_at l i (by simpa using h) j hj
    show (f.cells ++ flatH l)[(i + 1) * 3 + j]? = _
    rw [List.getElem?_append_right (by simp [Hp.cells]; omega)]
    rw [show (i + 1) * 3 + j - f.cells.length = i * 3 + j by simp [Hp.cells]; omega]
    exact this
/-- Slices of hops below block B, as they are read. -/
def Hps (w : World) (B : Nat) (A : Option Addr) (l : List Hp) : Prop :=
  l ≠ [] → ∃ b o, A = some ⟨b, o, none⟩ ∧ b < B ∧ ∀ i (h : i < l.length) (j : Nat), j < 3 → w.cell? ⟨b, o + (i * 3 + j), none⟩ = l[i].cells[j]?
theorem Hps.below {w w' : World} {B : Nat} {A : Option Addr} {l : List Hp} (h : Hps w B A l) (k : Below B w w') : Hps w' B A l := fun hn => by
  obtain ⟨b, o, e, hb, hc⟩ := h hn
  exact ⟨b, o, e, hb, fun i hi j hj => (World.cell?_of_block (k.block b hb)).trans (hc i hi j hj)⟩
theorem Hps.more {w : World} {B B' : Nat} {A : Option Addr} {l : List Hp} (h : Hps w B A l) (hB : B ≤ B') : Hps w B' A l := fun hn => by
  obtain ⟨b, o, e, hb, hc⟩ := h hn
  exact ⟨b, o, e, by omega, hc⟩
def OwnH (w : World) (base : Nat) (v : Value) (l : List Hp) : Prop := w.ownsRow base 94 3 v l.length (flatH l)
theorem OwnH.nil (w : World) (base : Nat) : OwnH w base (.slice none 0 0) [] := World.ownsRow_nil _ _ _ _
theorem OwnH.shape {w : World} {base : Nat} {v : Value} {l : List Hp} (h : OwnH w base v l) : ∃ A c, v = .slice A l.length c := by
  obtain ⟨_, ⟨rfl, h2⟩ | ⟨g, cap, cur, rfl, _⟩⟩ := h
  · exact ⟨none, 0, by rw [h2]⟩
  · exact ⟨_, _, rfl⟩
theorem OwnH.low {w : World} {base b : Nat} {v : Value} {l : List Hp} (h : OwnH w base v l) (hb : b ≤ base) : OwnH w b v l := by
  obtain ⟨h1, h2 | ⟨g, cap, cur, h3, h4, h5, h6⟩⟩ := h
  · exact ⟨h1, .inl h2⟩
  · exact ⟨h1, .inr ⟨g, cap, cur, h3, by omega, h5, h6⟩⟩
theorem OwnH.keep {w w' : World} {base : Nat} {v : Value} {l : List Hp} (h : OwnH w base v l) (k : ∀ i, base ≤ i → i < w.heap.size → w'.heap[i]? = w.heap[i]?) : OwnH w' base v l := by
  obtain ⟨h1, h2 | ⟨g, cap, cur, h3, h4, h5, h6⟩⟩ := h
  · exact ⟨h1, .inl h2⟩
  · exact ⟨h1, .inr ⟨g, cap, cur, h3, h4, (k g h4 (Has.lt h5)).trans h5, h6⟩⟩
theorem OwnH.below {w w' : World} {base : Nat} {v : Value} {l : List Hp} (h : OwnH w base v l) (k : Below w.heap.size w w') : OwnH w' base v l := h.keep fun i _ hi => k.block i hi
theorem OwnH.read {w : World} {base : Nat} {v : Value} {l : List Hp} (h : OwnH w base v l) : ∃ A c, v = .slice A l.length c ∧ Hps w w.heap.size A l := by
  obtain ⟨h1, ⟨rfl, h2⟩ | ⟨g, cap, cur, rfl, h4, h5, h6, h7, h8, h9⟩⟩ := h
  · have hl : l = [] := List.eq_nil_of_length_eq_zero h2
    subst hl
    exact ⟨none, 0, rfl, fun h => absurd rfl h⟩
  · refine ⟨_, cap, rfl, fun _ => ⟨g, 0, rfl, Has.lt h5, fun i hi j hj => ?_⟩⟩
    have hh := flatH_at l i hi j hj
    rw [← h9, List.getElem?_take_of_lt (by omega), Array.getElem?_toList] at hh
    rw [Nat.zero_add, Has.cell h5]
    exact hh
/-- append of one hop, which lies in the block that was just made. -/
theorem wpList_pushH {P : Program} {ops : Array Oper} {rest : List Oper} {o : Oper} {a : Act} {Q : Exit → Act → World → Prop} (hgd : o.guard = none) (s x : Operand) (t : TypeId)
    (ho : o.op = .call { callee := .builtin .append, args := #[s, x], argTypes := #[t, t] })
    (base : Nat) (i : TypeInfo) (ht : P.underlying t = some (.slice 94)) (hi : P.info? 94 = some i) (hz : i.zero = some (.agg #[.int .i64 0, .int .i64 0, .int .i64 0])) (hsize : i.size = 3) (hby : i.bytes = 24)
    (v : Value) (l : List Hp) (w0 : World) (f : Hp) (hs : a.eval s = v) (hown : OwnH w0 base v l) (hx : a.eval x = .slice (some ⟨w0.heap.size, 0, none⟩) 1 1) (hlen : l.length < 1000000) (hbase : base ≤ w0.heap.size)
    (h : ∀ v' w', OwnH w' base v' (l ++ [f]) → Below base w0 w' → (∀ j, j < w0.heap.size → v.ownBlock ≠ some j → w'.heap[j]? = w0.heap[j]?) → (v'.ownBlock = v.ownBlock ∨ ∃ k, w0.heap.size ≤ k ∧ v'.ownBlock = some k) → wpList P ops Q rest (a.put o.dst v') w') : wpList P ops Q (o :: rest) a (w0.alloc (.cells #[.int .i64 f.src, .int .i64 f.dst, .int .i64 f.lvl] 94)) := by
  refine wpList_append_own_at _ hgd s x t ho base 94 i (.agg #[.int .i64 0, .int .i64 0, .int .i64 0]) 3 24 ht hi hz hsize hby rfl (by decide) v l.length (flatH l) hs (OwnH.below hown ((Below.refl _ _).alloc (Nat.le_refl _) _)) ⟨w0.heap.size, 0, none⟩ 1 1 f.cells hx rfl ?_ ?_ (by unfold maxLen; omega) (by omega) (by simp; omega) ?_
  · intro j u hj
    rw [add_at, Nat.zero_add, (Has.new w0 94 #[.int .i64 f.src, .int .i64 f.dst, .int .i64 f.lvl]).cell, ← Array.getElem?_toList]
    exact hj
  · intro u hu
    simp [Hp.cells] at hu
    rcases hu with rfl | rfl | rfl <;> rfl
  · intro v' w' ho' hg _ hat
    refine h v' w' ?_ ?_ (fun j hj hne => ?_) (hat.imp (fun e => e) fun e => ⟨_, by rw [World.size_alloc]; omega, e⟩)
    · unfold OwnH
      rw [flatH_snoc, List.length_append]
      exact ho'
    · refine ((Below.refl _ _).alloc hbase _).trans ⟨hg.os, hg.tape, hg.output, hg.size, fun j hj => hg.block j (by rw [World.size_alloc]; omega) ?_⟩
      intro e
      obtain ⟨_, ⟨rfl, _⟩ | ⟨g', cap', cur, rfl, h4, h5, _⟩⟩ := hown
      · cases e
      · have : j = g' := Option.some.inj e
        omega
    · exact (hg.block j (by rw [World.size_alloc]; omega) (fun e => hne e.symm)).trans (Below.heap_alloc w0 _ j hj)
theorem OwnH.lt {w : World} {base : Nat} {v : Value} {l : List Hp} (h : OwnH w base v l) : ∀ k, v.ownBlock = some k → base ≤ k ∧ k < w.heap.size := World.ownsRow.lt h
theorem OwnH.ne {w : World} {base X : Nat} {v : Value} {l : List Hp} (h : OwnH w base v l) (hX : w.heap.size ≤ X) : v.ownBlock ≠ some X := fun e => by have := (h.lt X e).2; omega
theorem step_pushH {P : Program} {ops : Array Oper} {o : Oper} {a : Act} {K : Act → World → Prop} {Q : Exit → Act → World → Prop} {E : Prop} (hgd : o.guard = none) (s x : Operand) (t : TypeId)
    (ho : o.op = .call { callee := .builtin .append, args := #[s, x], argTypes := #[t, t] })
    (base : Nat) (i : TypeInfo) (ht : P.underlying t = some (.slice 94)) (hi : P.info? 94 = some i) (hz : i.zero = some (.agg #[.int .i64 0, .int .i64 0, .int .i64 0])) (hsize : i.size = 3) (hby : i.bytes = 24)
    (v : Value) (l : List Hp) (w0 : World) (f : Hp) (hs : a.eval s = v) (hown : OwnH w0 base v l) (hx : a.eval x = .slice (some ⟨w0.heap.size, 0, none⟩) 1 1) (hlen : l.length < 1000000) (hbase : base ≤ w0.heap.size)
    (h : ∀ v' w', OwnH w' base v' (l ++ [f]) → Below base w0 w' → (∀ j, j < w0.heap.size → v.ownBlock ≠ some j → w'.heap[j]? = w0.heap[j]?) → (v'.ownBlock = v.ownBlock ∨ ∃ k, w0.heap.size ≤ k ∧ v'.ownBlock = some k) → K (a.put o.dst v') w') :
    if Region.wanted o (yielded ops a.tmps) = true then Oper.wp P o a (w0.alloc (.cells #[.int .i64 f.src, .int .i64 f.dst, .int .i64 f.lvl] 94)) K Q else E := by
  have hw : Region.wanted o (yielded ops a.tmps) = true := by simp [Region.wanted, hgd]
  rw [if_pos hw]
  obtain ⟨v', w', hr, ho', hg, _, hat⟩ := run_append_own_at (P := P) (w := w0.alloc (.cells #[.int .i64 f.src, .int .i64 f.dst, .int .i64 f.lvl] 94)) base t o.type 94 i (.agg #[.int .i64 0, .int .i64 0, .int .i64 0]) 3 24 ht hi hz hsize hby rfl (by decide) v l.length (flatH l) (OwnH.below hown ((Below.refl _ _).alloc (Nat.le_refl _) _)) ⟨w0.heap.size, 0, none⟩ 1 1 f.cells rfl (by
    intro j u hj
    rw [add_at, Nat.zero_add, (Has.new w0 94 #[.int .i64 f.src, .int .i64 f.dst, .int .i64 f.lvl]).cell, ← Array.getElem?_toList]
    exact hj) (by
    intro u hu
    simp [Hp.cells] at hu
    rcases hu with rfl | rfl | rfl <;> rfl) (by unfold maxLen; omega) (by omega) (by simp; omega)
  unfold Oper.wp execOp
  simp only [ho, resolve, invoke, builtin, Sem.run_bind, Sem.run_pure, Result.andThen_ok, List.map_toArray, List.map_cons, List.map_nil, hs, hx, hr]
  refine h v' w' ?_ ?_ (fun j hj hne => ?_) (hat.imp (fun e => e) fun e => ⟨_, by rw [World.size_alloc]; omega, e⟩)
  · unfold OwnH
    rw [flatH_snoc, List.length_append]
    exact ho'
  · refine ((Below.refl _ _).alloc hbase _).trans ⟨hg.os, hg.tape, hg.output, hg.size, fun j hj => hg.block j (by rw [World.size_alloc]; omega) ?_⟩
    intro e
    obtain ⟨_, ⟨rfl, _⟩ | ⟨g', cap', cur, rfl, h4, h5, _⟩⟩ := hown
    · cases e
    · have : j = g' := Option.some.inj e
      omega
  · exact (hg.block j (by rw [World.size_alloc]; omega) (fun e => hne e.symm)).trans (Below.heap_alloc w0 _ j hj)
end
section
open Go.RowKit


/-! the program's stops, and one step -/
theorem gtr_kl (a b : ByteArray) : (!(Op.bytesLess a.toList b.toList || a.toList == b.toList)) = kl b a := by
  show (!(kl a b || a.toList == b.toList)) = kl b a
  cases h1 : kl a b
  · by_cases h2 : a.toList = b.toList
    · have := toList_inj h2
      subst this
      simp [kl_irrefl]
    · cases h3 : kl b a
      · exact absurd (by rw [kl_tri h1 h3]) h2
      · simp [h2]
  · rw [kl_asymm h1]
    rfl
def stV (x : Nd) (s : Value) : Value := .agg #[.int .i64 x.id, .string x.key, .int .u32 (x.word : Int), s]
set_option maxRecDepth 100000 in
set_option maxHeartbeats 800000 in
theorem ahead_any (x : Nd) (A : Option Addr) (P : List Lk) (c t : Nat) (q : ByteArray) (w : World) (hP : Lks w w.heap.size A P) (ht : t < P.length) :
    Calls Tryz.prog 88 #[stV x (.slice A P.length c), .string q, .int .i64 (t : Int)] w fun e w' => e = .returned (.int .i64 (lkS (!kl q x.key) P[t])) ∧ Below w.heap.size w w' := by
  obtain ⟨b, o, rfl, hb, f1, f2⟩ := hP.at_ ht
  generalize P[t] = y at *
  obtain ⟨n, hnn⟩ : ∃ n, n = P.length := ⟨_, rfl⟩
  rw [← hnn] at ht ⊢
  obtain ⟨xi, xk, xw⟩ := x
  obtain ⟨yl, yr⟩ := y
  have hb1 := (Below.refl w.heap.size w).alloc (Nat.le_refl _) (.cells #[.int .i64 xi, .string xk, .int .u32 (xw : Int), .slice (some ⟨b, o, none⟩) n c] 115)
  have HB := Lib.hid hb1
  replace f1 := (hb1.cell (p := ⟨b, o + t * 2, none⟩) hb).trans f1
  replace f2 := (hb1.cell (p := ⟨b, o + t * 2 + 1, none⟩) hb).trans f2
  have hX := Has.new w 115 #[.int .i64 xi, .string xk, .int .u32 (xw : Int), .slice (some ⟨b, o, none⟩) n c]
  have x1 := hX.cell 1
  have x3 := hX.cell 3
  have hl1 : ∀ a b : ByteArray, Op.bytesLess a.toList b.toList = kl a b := fun _ _ => rfl
  have i0 : (0 : Int) ≤ (t : Int) := by omega
  have i1 : (t : Int) < (n : Int) := by omega
  show Calls Tryz.prog 88 #[.agg #[.int .i64 xi, .string xk, .int .u32 (xw : Int), .slice (some ⟨b, o, none⟩) n c], .string q, .int .i64 (t : Int)] w fun e w' => e = .returned (.int .i64 (lkS (!kl q xk) ⟨yl, yr⟩)) ∧ Below w.heap.size w w'
  clear hX hb1 hnn hP hb
  have hl3 : Op.bytesLess q.toList xk.toList = kl q xk := rfl
  cases hk : kl q xk
  · rw [hk] at hl3
    clear hl1
    go_enter Tryz.func88, Tryz.ntmps88
    go_wp2_with fail
    go_ret
    exact ⟨rfl, HB.out⟩
  · rw [hk] at hl3
    clear hl1
    go_enter Tryz.func88, Tryz.ntmps88
    go_wp2_with fail
    go_ret
    exact ⟨rfl, HB.out⟩
/-- Whether a stop is between another one and the key. -/
def appB (x y : Nd) (q : ByteArray) : Bool := far (!kl q x.key) x y && (kl q y.key == kl q x.key)
set_option maxRecDepth 100000 in
set_option maxHeartbeats 1600000 in
theorem approaches_any (x y : Nd) (s u : Value) (q : ByteArray) (w : World) (hs : ∃ A n c, s = .slice A n c) (hu : ∃ A n c, u = .slice A n c) :
    Calls Tryz.prog 89 #[stV x s, stV y u, .string q] w fun e w' => e = .returned (.bool (appB x y q)) ∧ Below w.heap.size w w' := by
  obtain ⟨A1, n1, c1, rfl⟩ := hs
  obtain ⟨A2, n2, c2, rfl⟩ := hu
  have HZ : Hid (appB x y q = (if kl q x.key then (kl q y.key && kl y.key x.key) else (kl x.key y.key && !kl q y.key))) := Lib.hid (by
    unfold appB far
    cases kl q x.key <;> cases kl q y.key <;> cases kl x.key y.key <;> cases kl y.key x.key <;> rfl)
  generalize appB x y q = Z at *
  obtain ⟨xi, xk, xw⟩ := x
  obtain ⟨yi, yk, yw⟩ := y
  simp only at HZ
  have hX := Has.new w 115 #[.int .i64 xi, .string xk, .int .u32 (xw : Int), .slice A1 n1 c1]
  have hb1 := (Below.refl w.heap.size w).alloc (Nat.le_refl _) (.cells #[.int .i64 xi, .string xk, .int .u32 (xw : Int), .slice A1 n1 c1] 115)
  have hb2 := hb1.alloc (by rw [World.size_alloc]; omega) (.cells #[.int .i64 yi, .string yk, .int .u32 (yw : Int), .slice A2 n2 c2] 115)
  have HB := Lib.hid hb2
  have hl2 := gtr_kl yk q
  have hl3 : Op.bytesLess q.toList xk.toList = kl q xk := rfl
  have hl4 : Op.bytesLess q.toList yk.toList = kl q yk := rfl
  have hl5 : Op.bytesLess yk.toList xk.toList = kl yk xk := rfl
  have hl6 : Op.bytesLess xk.toList yk.toList = kl xk yk := rfl
  have hl7 : (Op.bytesLess yk.toList q.toList || yk.toList == q.toList) = !kl q yk := by rw [← hl2, Bool.not_not]
  clear hX hb1 hb2 hl2
  show Calls Tryz.prog 89 #[.agg #[.int .i64 xi, .string xk, .int .u32 (xw : Int), .slice A1 n1 c1], .agg #[.int .i64 yi, .string yk, .int .u32 (yw : Int), .slice A2 n2 c2], .string q] w _
  generalize kl q xk = K1 at *
  generalize kl q yk = K2 at *
  generalize kl yk xk = K3 at *
  generalize kl xk yk = K4 at *
  cases K1
  · cases K4
    all_goals
      go_enter Tryz.func89, Tryz.ntmps89
      go_wp2_with fail
      go_ret
      exact ⟨ret_bool (by rw [HZ.out]; rfl), HB.out⟩
  · cases K2
    all_goals
      go_enter Tryz.func89, Tryz.ntmps89
      go_wp2_with fail
      go_ret
      exact ⟨ret_bool (by rw [HZ.out]; rfl), HB.out⟩
theorem endV_last {l : List Hp} {n : Nat} (id : Int) (h : n < l.length) (h1 : n + 1 = l.length) : endV id l = l[n].dst := by
  unfold endV
  rw [List.getLast?_eq_getElem?, List.getElem?_eq_getElem (by omega)]
  simp only [Option.map_some, Option.getD_some]
  congr 2
  omega
set_option maxRecDepth 100000 in
theorem endH_any (A : Option Addr) (l : List Hp) (c : Nat) (id : Int) (w : World) (h : Hps w w.heap.size A l) (hn : l.length ≤ maxLen) :
    Calls Tryz.prog 35 #[.int .i64 id, .slice A l.length c] w fun e w' => e = .returned (.int .i64 (endV id l)) ∧ w = w' := by
  have hml : maxLen ≤ 9223372036854775807 := by decide
  by_cases h0 : l = []
  · subst h0
    show Calls Tryz.prog 35 #[.int .i64 id, .slice A 0 c] w fun e w' => e = .returned (.int .i64 id) ∧ w = w'
    go_enter Tryz.func35, Tryz.ntmps35
    go_wp2_with fail
    go_ret
    exact ⟨rfl, rfl⟩
  · obtain ⟨n, hnn⟩ : ∃ n, n + 1 = l.length := ⟨l.length - 1, by have := List.length_pos_iff.2 h0; omega⟩
    have hi : n < l.length := by omega
    rw [endV_last id hi hnn]
    obtain ⟨b, o, rfl, hb, hc⟩ := h h0
    have f1 := hc n hi 1 (by omega)
    clear hc
    replace f1 : w.cell? ⟨b, o + (n * 3 + 1), none⟩ = some (.int .i64 l[n].dst) := f1
    rw [← Nat.add_assoc] at f1
    generalize l[n].dst = D at *
    generalize l.length = N at *
    have e1 : IntKind.i64.wrap ((N : Int) - 1) = (n : Int) := by rw [IntWalk.i64_in _ (by omega)]; omega
    have i0 : (0 : Int) ≤ (n : Int) := by omega
    have i1 : (n : Int) < (N : Int) := by omega
    have e2 : ((N : Int) == 0) = false := by simp; omega
    clear hnn hi hn
    go_enter Tryz.func35, Tryz.ntmps35
    go_wp2_with fail
    go_ret
    exact ⟨rfl, rfl⟩
/-- What find gives: no node of a list that is no roster. -/
def sfB (l : List Nd) (id : Int) : Bool := decide (chkV l = 0) && decide (plc l id < l.length)
def sfN (l : List Nd) (id : Int) : Nd := if chkV l = 0 then fndV l id else Nd.none
end
section
open Go.RowKit


theorem drop_at {α : Type} {l : List α} {k : Nat} (h : k < l.length) : l.drop k = l[k] :: l.drop (k + 1) := List.drop_eq_getElem_cons h
theorem runF_yes {p : Nd → Bool} {C : List Nd} {k n b : Nat} (h : k < C.length) (e : p C[k] = true) : runF p (C.drop k) n b = runF p (C.drop (k + 1)) 0 (max b 0) := by
  rw [drop_at h, runF, e]; rfl
theorem runF_no {p : Nd → Bool} {C : List Nd} {k n b : Nat} (h : k < C.length) (e : p C[k] = false) : runF p (C.drop k) n b = runF p (C.drop (k + 1)) (n + 1) (max b (n + 1)) := by
  rw [drop_at h, runF, e]; rfl
theorem runF_end {p : Nd → Bool} {C : List Nd} {k n b : Nat} (h : C.length ≤ k) : runF p (C.drop k) n b = b := by
  rw [List.drop_eq_nil_of_le h]; rfl
theorem pin_id {x y : Nd} {t : Nat} (h : y.id = x.id) : pin x t y = true := by simp [pin, h]
theorem pin_ne {x y : Nd} {t : Nat} (h : y.id ≠ x.id) : pin x t y = decide ((t : Int) + 1 ≤ (cm y.word x.word : Int)) := by simp [pin, h]
theorem pin_out {x y : Nd} (h : y.id ≠ x.id) : pin x 16 y = false := by
  rw [pin_ne h]
  have := cm_le y.word x.word
  simp
  omega
theorem max_int (a b : Nat) : max (a : Int) (b : Int) = ((max a b : Nat) : Int) := by omega
end
section
open Go.RowKit


theorem sf_yes {l : List Nd} {id : Int} (h : sfB l id = true) : chkV l = 0 ∧ plc l id < l.length ∧ sfN l id = fndV l id ∧ fndV l id ∈ l := by
  unfold sfB at h
  simp only [Bool.and_eq_true, decide_eq_true_eq] at h
  exact ⟨h.1, h.2, if_pos h.1, (fnd_in h.2).1⟩
theorem run_le {l : List Nd} (hc : chkV l = 0) (x : Nd) (t : Nat) : runL l x t ≤ 64 := by
  have h1 := runF_le (pin x t) (grp (srt l) (t : Int) x.word) 0 0
  have h2 := List.length_filter_le (fun y => !pin x t y) (grp (srt l) (t : Int) x.word)
  have h3 := grp_len (srt l) (t : Int) x.word
  have h4 := srt_le hc
  unfold runL
  omega
theorem sum_le {f : Nat → Nat} (h : ∀ t, f t ≤ 64) : ∀ n, sumR f n ≤ n * 64
  | 0 => by simp [sumR]
  | n + 1 => by have := sum_le h n; have := h n; rw [sumR]; omega
theorem run_if {l : List Nd} {id h : Int} (hb : sfB l id = true) (hl : lvB h = true) : runR l id h = runL l (sfN l id) h.toNat := by
  obtain ⟨h1, h2, h3, _⟩ := sf_yes hb
  unfold runR
  rw [if_pos ⟨h1, hl, h2⟩, h3]
theorem run_no {l : List Nd} {id h : Int} (hb : sfB l id = false ∨ lvB h = false) : runR l id h = 0 := by
  unfold runR
  rw [if_neg]
  rintro ⟨h1, h2, h3⟩
  rcases hb with hb | hb
  · simp [sfB, h1, h3] at hb
  · rw [h2] at hb; cases hb
theorem bnd_yes {l : List Nd} {id : Int} (hb : sfB l id = true) : bndR l id = 1 + sumR (runL l (sfN l id)) 17 := by
  obtain ⟨h1, h2, h3, _⟩ := sf_yes hb
  unfold bndR
  rw [if_pos ⟨h1, h2⟩, h3]
theorem bnd_no {l : List Nd} {id : Int} (hb : sfB l id = false) : bndR l id = 0 := by
  unfold bndR
  rw [if_neg]
  rintro ⟨h1, h3⟩
  simp [sfB, h1, h3] at hb
end
end Go.Proofs.YtjokbdhineilcaaGreatDoor
