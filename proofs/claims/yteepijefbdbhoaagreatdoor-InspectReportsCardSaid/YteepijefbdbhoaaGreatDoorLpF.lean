/-
  slices.Contains at numbers, cmp.Compare at numbers; around of package inspect. Conditions: what is read can be read.
  around of package inspect. Condition: the links can be read.
  Rows of slices of numbers, each of its own; unite of package inspect. Conditions: what is read can be read; no list is long.
-/
import Derived.Test.YteepijefbdbhoaaGreatDoorLpA
import Derived.Test.YteepijefbdbhoaaGreatDoorLoA
import Derived.WalkMore
namespace Go.Proofs.YteepijefbdbhoaaGreatDoor
section
open Go.RowKit

def Quiet (v : Value) (w : World) (e : Ending) (w' : World) : Prop := e = .returned v ∧ Below w.heap.size w w'
def posI (l : List Int) (i : Int) : Int := if pos l i < l.length then (pos l i : Int) else -1
theorem pos_is {l : List Int} {i : Int} {k : Nat} (hk : k < l.length) (h1 : l[k] = i) (h2 : ∀ j (h : j < k), (l[j]'(by omega)) ≠ i) : posI l i = (k : Int) := by
  have : pos l i = k := by
    unfold pos
    rw [List.findIdx_eq hk]
    exact ⟨by simpa using h1, fun j hj => by simpa using h2 j hj⟩
  unfold posI
  rw [this, if_pos hk]
theorem pos_not {l : List Int} {i : Int} (h : ∀ j (h : j < l.length), l[j] ≠ i) : posI l i = -1 := by
  unfold posI
  rw [if_neg]
  intro hp
  exact h _ hp (pos_at hp)
set_option maxRecDepth 100000 in
set_option maxHeartbeats 800000 in
theorem sindex_any (A : Option Addr) (l : List Int) (c : Nat) (i : Int) (w : World) (hl : Ins w w.heap.size A l) (hn : l.length ≤ maxLen) :
    Calls Tryz.prog 117 #[.slice A l.length c, .int .i64 i] w (Quiet (.int .i64 (posI l i)) w) := by
  have HY := Lib.hid (fun (k : Nat) (hk : k < l.length) (h1 : l[k] = i) (h2 : ∀ j (h : j < k), (l[j]'(by omega)) ≠ i) => pos_is hk h1 h2)
  have HNO := Lib.hid (fun (h : ∀ j (h : j < l.length), l[j] ≠ i) => pos_not h)
  generalize posI l i = R at *
  have hml : maxLen ≤ 9223372036854775807 := by decide
  obtain ⟨n, hnn⟩ : ∃ n, n = l.length := ⟨_, rfl⟩
  have HN := Lib.hid hnn
  rw [← hnn] at hn ⊢
  clear hnn
  go_enter Tryz.func117, Tryz.ntmps117
  go_wp2_with fail
  go_loopw [8] (fun vk wr => ∃ k : Nat, vk = .int .i64 (k : Int) ∧ k ≤ n ∧ Below w.heap.size w wr ∧ Hid (∀ j (h : j < k) (h2 : j < l.length), l[j] ≠ i)) (fun vk _ => n - (intOf vk).toNat)
  case atStart => exact ⟨0, rfl, by omega, Below.refl _ _, Lib.hid fun j h => by omega⟩
  case round =>
    obtain ⟨k, rfl, hk, hB, HS⟩ := hrel
    by_cases hlt : k < n
    · have k1 : k < l.length := by rw [← HN.out]; exact hlt
      obtain ⟨b, o, e, hb, _, f1⟩ := hl.at_ k1
      subst e
      replace f1 := (hB.cell (p := ⟨b, o + k, none⟩) hb).trans f1
      have i0 : (0 : Int) ≤ (k : Int) := by omega
      have i1 : (k : Int) < (n : Int) := by omega
      have HYk := Lib.hid (fun (h1 : l[k] = i) => HY.out k k1 h1 (fun j hj => HS.out j hj (by omega)))
      have HNX := Lib.hid (fun (h1 : l[k] ≠ i) (j : Nat) (h : j < k + 1) (h2 : j < l.length) => (show l[j] ≠ i from by
        rcases Nat.lt_or_ge j k with h3 | h3
        · exact HS.out j h3 h2
        · obtain rfl : j = k := by omega
          exact h1))
      generalize l[k] = y at *
      clear k1
      by_cases he : y = i
      · have hz : (i == y) = true := by simp [he]
        have HR := Lib.hid (HYk.out he)
        clear he
        go_wp2_with fail
        go_ret
        exact ⟨ret_int HR.out.symm, hB⟩
      · have hz : (i == y) = false := by simpa using fun e => he e.symm
        have HR := Lib.hid (HNX.out he)
        clear he
        go_wp2_with fail
        exact ⟨⟨k + 1, by go_num, hlt, hB, Lib.hid HR.out⟩, by simp [intOf]; omega⟩
    · have HR := Lib.hid (HNO.out fun j hj => HS.out j (by have := HN.out; omega) hj)
      go_wp2_with fail
      go_ret
      exact ⟨ret_int HR.out.symm, hB⟩
theorem posI_geq (l : List Int) (i : Int) : decide (posI l i ≥ 0) = decide (i ∈ l) := by
  unfold posI
  by_cases h : pos l i < l.length
  · rw [if_pos h]
    have := pos_lt.1 h
    simp [this]
  · rw [if_neg h]
    have := mt pos_lt.2 h
    simp [this]
theorem contains_any (A : Option Addr) (l : List Int) (c : Nat) (i : Int) (w : World) (hl : Ins w w.heap.size A l) (hn : l.length ≤ maxLen) :
    Calls Tryz.prog 99 #[.slice A l.length c, .int .i64 i] w (Quiet (.bool (decide (i ∈ l))) w) := by
  have HI := Lib.hid (sindex_any A l c i w hl hn)
  have HP : Hid (decide (posI l i ≥ 0) = decide (i ∈ l)) := Lib.hid (posI_geq l i)
  generalize decide (i ∈ l) = Z at *
  generalize posI l i = R at *
  clear hl hn
  go_enter Tryz.func99, Tryz.ntmps99
  go_wp2_with fail
  refine (HI.out).mono ?_
  rintro e w1 ⟨rfl, hb⟩
  have HB := Lib.hid hb
  clear hb
  go_wp2_with fail
  go_ret
  exact ⟨ret_bool HP.out, HB.out⟩
/-- append of numbers that lie somewhere, one after another. -/
theorem wpList_pushZs {P : Program} {ops : Array Oper} {rest : List Oper} {o : Oper} {a : Act} {Q : Exit → Act → World → Prop} {w0 : World} (hgd : o.guard = none) (s x : Operand) (t : TypeId)
    (ho : o.op = .call { callee := .builtin .append, args := #[s, x], argTypes := #[t, t] })
    (base : Nat) (i : TypeInfo) (ht : P.underlying t = some (.slice 3)) (hi : P.info? 3 = some i) (hz : i.zero = some (.int .i64 0)) (hsize : i.size = 1) (hby : i.bytes = 8)
    (v : Value) (l news : List Int) (b ob n cc : Nat) (hnn : n = news.length) (hs : a.eval s = v) (hown : OwnZ w0 base v l) (hx : a.eval x = .slice (some ⟨b, ob, none⟩) n cc) (hc : ∀ j (h : j < news.length), (-9223372036854775808 ≤ news[j] ∧ news[j] ≤ 9223372036854775807) ∧ w0.cell? ⟨b, ob + j, none⟩ = some (.int .i64 news[j])) (hlen : l.length + n < 1000000) (hbase : base ≤ w0.heap.size)
    (h : ∀ v' w', OwnZ w' base v' (l ++ news) → w0.grownBy w' v.ownBlock → (v'.ownBlock = v.ownBlock ∨ v'.ownBlock = some w0.heap.size) → wpList P ops Q rest (a.put o.dst v') w') : wpList P ops Q (o :: rest) a w0 := by
  subst hnn
  refine wpList_append_own_at _ hgd s x t ho base 3 i (.int .i64 0) 1 8 ht hi hz hsize hby rfl (by decide) v l.length (l.map (Value.int .i64)) hs hown.1 ⟨b, ob, none⟩ news.length cc (news.map (Value.int .i64)) hx (by simp) ?_ ?_ (by unfold maxLen; omega) (by omega) hbase ?_
  · intro j u hj
    have hj2 : j < news.length := by
      have := (List.getElem?_eq_some_iff.1 hj).1
      simpa using this
    rw [List.getElem?_map, List.getElem?_eq_getElem hj2, Option.map_some] at hj
    injection hj with hj
    subst hj
    have ea : (⟨b, ob, none⟩ : Addr).add j = ⟨b, ob + j, none⟩ := by unfold Addr.add; split <;> simp_all
    rw [ea]
    exact (hc j hj2).2
  · intro u hu
    obtain ⟨z, _, rfl⟩ := List.mem_map.1 hu
    rfl
  · intro v' w' ho' hg _ hat
    refine h v' w' ⟨?_, fun x hx => ?_⟩ hg hat
    · rw [List.map_append, List.length_append]
      exact ho'
    · rcases List.mem_append.1 hx with h1 | h1
      · exact hown.2 x h1
      · obtain ⟨j, hj, rfl⟩ := List.mem_iff_getElem.1 h1
        exact (hc j hj).1
theorem OwnZ.one (w : World) (a : Int) (ha : -9223372036854775808 ≤ a ∧ a ≤ 9223372036854775807) : OwnZ (w.alloc (.cells #[.int .i64 a] 3)) w.heap.size (.slice (some ⟨w.heap.size, 0, none⟩) 1 1) [a] :=
  ⟨⟨rfl, .inr ⟨_, 1, _, rfl, Nat.le_refl _, blk_new _ _ _, Nat.le_refl _, by unfold maxLen; omega, rfl, rfl⟩⟩, fun x hx => by rw [List.mem_singleton.1 hx]; exact ha⟩
theorem OwnZ.shape {w : World} {base : Nat} {v : Value} {l : List Int} (h : OwnZ w base v l) : ∃ A c, v = .slice A l.length c := by
  obtain ⟨A, c, e, _⟩ := h.read
  exact ⟨A, c, e⟩
theorem OwnZ.lt {w : World} {base : Nat} {v : Value} {l : List Int} (h : OwnZ w base v l) : ∀ k, v.ownBlock = some k → base ≤ k ∧ k < w.heap.size := World.ownsRow.lt h.1
theorem OwnZ.low {w : World} {base b : Nat} {v : Value} {l : List Int} (h : OwnZ w base v l) (hb : b ≤ base) : OwnZ w b v l := by
  obtain ⟨⟨h1, h2 | ⟨g, cap, cur, h3, h4, h5, h6⟩⟩, hr⟩ := h
  · exact ⟨⟨h1, .inl h2⟩, hr⟩
  · exact ⟨⟨h1, .inr ⟨g, cap, cur, h3, by omega, h5, h6⟩⟩, hr⟩
theorem below_row {w w' : World} {base : Nat} {row : Option Nat} (hg : w.grownBy w' row) (hb : base ≤ w.heap.size) (hr : ∀ k, row = some k → base ≤ k) : Below base w w' :=
  ⟨hg.os, hg.tape, hg.output, hg.size, fun j hj => hg.block j (by omega) (fun e => by have := hr j e.symm; omega)⟩
end
section
open Go.RowKit

set_option maxRecDepth 100000 in
set_option maxHeartbeats 1600000 in
theorem around_any (x : Ld) (A' : Option Addr) (c' lo : Nat) (w : World) (hi : -9223372036854775808 ≤ x.id ∧ x.id ≤ 9223372036854775807) (hl : Lks w w.heap.size A' x.levels) (hlo : lo < x.levels.length) (h17 : x.levels.length ≤ 17) (hc1 : x.levels.length ≤ c') (_hc2 : c' ≤ maxLen) (hY : ∀ y ∈ x.levels, (-9223372036854775808 ≤ y.left ∧ y.left ≤ 9223372036854775807) ∧ (-9223372036854775808 ≤ y.right ∧ y.right ≤ 9223372036854775807)) :
    Calls Tryz.prog 78 #[.agg #[.int .i64 x.id, .slice A' x.levels.length c'], .int .i64 (lo : Int)] w (IdsP (arnV x lo) w) := by
  obtain ⟨b, o, rfl, hb, _⟩ := hl (by intro e; rw [e] at hlo; simp at hlo)
  have HL := Lib.hid (fun (j : Nat) (h : j < x.levels.length) => hl.at_ h)
  have HY := Lib.hid hY
  have HA : Hid (arnV x lo = x.id :: (x.levels.drop lo).flatMap fun y => [y.left, y.right]) := Lib.hid rfl
  generalize arnV x lo = R at *
  obtain ⟨xi, xs⟩ := x
  simp only at *
  obtain ⟨m, hm⟩ : ∃ m, m = xs.length := ⟨_, rfl⟩
  have HM := Lib.hid hm
  rw [← hm] at hlo h17 hc1 ⊢
  have hlo1 : (lo : Int) ≤ (m : Int) := by omega
  have hlo2 : (lo : Int) ≤ (c' : Int) := by omega
  have hlo3 : (m : Int) ≤ (c' : Int) := by omega
  clear hm hl hY
  obtain ⟨ini, hi0, hi1, hi2, hi3⟩ := infoI_parts
  have hX := Has.new w 46 #[.int .i64 xi, .slice (some ⟨b, o, none⟩) m c']
  have hb1 := (Below.refl w.heap.size w).alloc (Nat.le_refl _) (.cells #[.int .i64 xi, .slice (some ⟨b, o, none⟩) m c'] 46)
  have HX := Lib.hid hX
  have HB1 := Lib.hid hb1
  clear hX hb1
  go_enter Tryz.func78, Tryz.ntmps78
  go_upto_region 1 with fail
  generalize w.alloc (.cells #[.int .i64 xi, .slice (some ⟨b, o, none⟩) m c'] 46) = WA at *
  have x0 := HX.out.cell 0
  have hb2 := (Below.refl WA.heap.size WA).alloc (Nat.le_refl _) (.cells #[.int .i64 xi] 3)
  have HO := Lib.hid ((OwnZ.one WA xi hi).low HB1.out.size)
  have HX2 := Lib.hid (HX.out.below hb2)
  have HB2 := Lib.hid (HB1.out.trans (hb2.mono HB1.out.size))
  clear hb2
  go_upto_region 2 with fail
  generalize WA.alloc (.cells #[.int .i64 xi] 3) = WB at *
  have x1 := HX2.out.cell 1
  clear x0
  go_wp2_with fail
  obtain ⟨D, hD⟩ : ∃ D, D = m - lo := ⟨_, rfl⟩
  have HD := Lib.hid hD
  rw [← hD]
  clear hD x1 HX HX2
  have HC : Hid (∀ (t : Nat), t < D → ∃ y : Lk, ((-9223372036854775808 ≤ y.left ∧ y.left ≤ 9223372036854775807) ∧ (-9223372036854775808 ≤ y.right ∧ y.right ≤ 9223372036854775807)) ∧ w.cell? ⟨b, o + lo * 2 + t * 2, none⟩ = some (.int .i64 y.left) ∧ w.cell? ⟨b, o + lo * 2 + t * 2 + 1, none⟩ = some (.int .i64 y.right) ∧ (xs.drop lo).take (t + 1) = (xs.drop lo).take t ++ [y]) := Lib.hid fun t ht => by
    have ht2 : lo + t < xs.length := by rw [← HM.out]; have := HD.out; omega
    obtain ⟨b2, o2, e, _, f1, f2⟩ := HL.out (lo + t) ht2
    injection e with e
    injection e with e1 e2
    subst e1 e2
    refine ⟨xs[lo + t], HY.out _ (List.getElem_mem ht2), ?_, ?_, ?_⟩
    · rw [show o + lo * 2 + t * 2 = o + (lo + t) * 2 by omega]; exact f1
    · rw [show o + lo * 2 + t * 2 + 1 = o + (lo + t) * 2 + 1 by omega]; exact f2
    · have h3 : t < (xs.drop lo).length := by rw [List.length_drop]; omega
      rw [List.take_succ_eq_append_getElem h3, List.getElem_drop]
  have HE : Hid (∀ t, D ≤ t → (xs.drop lo).take t = xs.drop lo) := Lib.hid fun t ht => List.take_of_length_le (by rw [List.length_drop, ← HM.out]; have := HD.out; omega)
  have hD17 : D ≤ 17 := by have := HD.out; omega
  generalize xs.drop lo = ys at *
  clear HL HY HM HD
  go_loopw [5, 16] (fun vo vt wr => ∃ (v1 : Value) (t : Nat) (l1 : List Int), v1 = vo ∧ vt = .int .i64 (t : Int) ∧ t ≤ D ∧ OwnZ wr w.heap.size v1 l1 ∧ Below w.heap.size w wr ∧ Hid (l1 = xi :: (ys.take t).flatMap fun y => [y.left, y.right]) ∧ l1.length ≤ 1 + 2 * t) (fun _ vt _ => D - (intOf vt).toNat)
  case atStart => exact ⟨_, 0, [xi], rfl, rfl, by omega, HO.out, HB2.out, Lib.hid (by simp), by simp⟩
  case round =>
    clear HO HB2 HB1
    obtain ⟨v1, t, l1, rfl, rfl, ht, ho1, hB, HS, hlen⟩ := hrel
    by_cases hlt : t < D
    · obtain ⟨y, hw, f1, f2, hy⟩ := HC.out t hlt
      have HYN := Lib.hid hy
      obtain ⟨yl, yr⟩ := y
      simp only at hw f1 f2
      have F1 := (hB.cell (p := ⟨b, o + lo * 2 + t * 2, none⟩) hb).trans f1
      have F2 := (hB.cell (p := ⟨b, o + lo * 2 + t * 2 + 1, none⟩) hb).trans f2
      have t0 : (0 : Int) ≤ (t : Int) := by omega
      have t1 : (t : Int) < (D : Int) := by omega
      have hbY := (Below.refl wr.heap.size wr).alloc (Nat.le_refl _) (.cells #[.int .i64 yl, .int .i64 yr] 49)
      have HY := Lib.hid (Has.new wr 49 #[.int .i64 yl, .int .i64 yr])
      have HBY := Lib.hid (hB.trans (hbY.mono hB.size))
      have HOY := Lib.hid (ho1.below hbY)
      obtain ⟨A5, c5, hv5⟩ := ho1.shape
      subst hv5
      clear hbY hB ho1 f1 f2 hy
      go_upto_region 5 with fail
      generalize wr.alloc (.cells #[.int .i64 yl, .int .i64 yr] 49) = WY at *
      clear F1 F2
      have y0 := HY.out.cell 0
      have y1 := HY.out.cell 1
      have hbZ := (Below.refl WY.heap.size WY).alloc (Nat.le_refl _) (.cells #[.int .i64 yl, .int .i64 yr] 3)
      have hHZ := Has.new WY 3 #[.int .i64 yl, .int .i64 yr]
      have HOZ := Lib.hid (HOY.out.below hbZ)
      have HBZ := Lib.hid (HBY.out.trans (hbZ.mono HBY.out.size))
      have hcz : ∀ j (h : j < [yl, yr].length), (-9223372036854775808 ≤ [yl, yr][j] ∧ [yl, yr][j] ≤ 9223372036854775807) ∧ (WY.alloc (.cells #[.int .i64 yl, .int .i64 yr] 3)).cell? ⟨WY.heap.size, 0 + j, none⟩ = some (.int .i64 [yl, yr][j]) := fun j h => by
        rw [Nat.zero_add]
        have h2 : j = 0 ∨ j = 1 := by simp at h; omega
        rcases h2 with rfl | rfl
        · exact ⟨hw.1, hHZ.cell 0⟩
        · exact ⟨hw.2, hHZ.cell 1⟩
      have hl1 : l1.length + 2 < 1000000 := by omega
      have hbs := HBZ.out.size
      clear hbZ hHZ
      go_wp2_with (at_builtin; refine wpList_pushZs rfl _ _ 22 rfl w.heap.size ini Tryz.underlying22 hi0 hi1 hi2 hi3 (.slice A5 l1.length c5) l1 [yl, yr] WY.heap.size 0 2 2 rfl rfl HOZ.out rfl hcz hl1 hbs ?_; intro v9 w9 ho9 hg9 hat; have HB9 := Lib.hid (HBZ.out.grown hg9 hbs (fun k e => (HOZ.out.lt k e).1)); obtain ⟨lw, hlw⟩ : ∃ lw, lw = l1 ++ [yl, yr] := ⟨_, rfl⟩; rw [← hlw] at ho9; have hlwn : lw.length = l1.length + 2 := (by rw [hlw]; simp); have HLW := Lib.hid hlw; have HLN := Lib.hid hlwn; have HO9 := Lib.hid ho9; clear hlw hlwn hg9 hat hcz; obtain ⟨A9, c9, hv9⟩ := ho9.shape; subst hv9; clear ho9)
      exact ⟨⟨_, t + 1, lw, rfl, by go_num, hlt, HO9.out, HB9.out, Lib.hid (by rw [HLW.out, HS.out, HYN.out, List.flatMap_append, List.cons_append]; rfl), by have := HLN.out; omega⟩, by simp [intOf]; omega⟩
    · have HR : Hid (l1 = R) := Lib.hid (by rw [HS.out, HA.out, HE.out t (by omega)])
      have HO1 := Lib.hid ho1
      obtain ⟨A5, c5, hv5⟩ := ho1.shape
      subst hv5
      clear ho1
      go_wp2_with fail
      go_ret
      rw [← HR.out]
      exact ⟨_, _, rfl, HO1.out, hB⟩
end
section
open Go.RowKit

/-- Slices, each with its own row of numbers, in blocks of their own. -/
structure Inn (w : World) (base : Nat) (Z : List (Value × List Int)) : Prop where
  own : ∀ p ∈ Z, OwnZ w base p.1 p.2
  dis : Z.Pairwise fun a b => ∀ k, a.1.ownBlock = some k → b.1.ownBlock ≠ some k
/-- A row of values, as it is read; one of the call's own. -/
def RdV (w : World) (B : Nat) (A : Option Addr) (q : List Value) : Prop := q ≠ [] → ∃ b o, A = some ⟨b, o, none⟩ ∧ b < B ∧ ∀ i (h : i < q.length), w.cell? ⟨b, o + i, none⟩ = some q[i]
def OwnV (w : World) (base : Nat) (v : Value) (q : List Value) : Prop := w.ownsRow base 22 1 v q.length q
theorem Inn.below {w w' : World} {base : Nat} {Z : List (Value × List Int)} (h : Inn w base Z) (k : Below w.heap.size w w') : Inn w' base Z := ⟨fun p hp => (h.own p hp).below k, h.dis⟩
theorem RdV.below {w w' : World} {B : Nat} {A : Option Addr} {q : List Value} (h : RdV w B A q) (k : Below B w w') : RdV w' B A q := fun hn => by
  obtain ⟨b, o, e, hb, hc⟩ := h hn
  exact ⟨b, o, e, hb, fun i hi => (World.cell?_of_block (k.block b hb)).trans (hc i hi)⟩
theorem RdV.more {w : World} {B B' : Nat} {A : Option Addr} {q : List Value} (h : RdV w B A q) (hB : B ≤ B') : RdV w B' A q := fun hn => by
  obtain ⟨b, o, e, hb, hc⟩ := h hn
  exact ⟨b, o, e, by omega, hc⟩
theorem RdV.at_ {w : World} {B : Nat} {A : Option Addr} {q : List Value} (h : RdV w B A q) {i : Nat} (hi : i < q.length) : ∃ b o, A = some ⟨b, o, none⟩ ∧ b < B ∧ w.cell? ⟨b, o + i, none⟩ = some q[i] := by
  obtain ⟨b, o, e, hb, hc⟩ := h (by intro e; rw [e] at hi; simp at hi)
  exact ⟨b, o, e, hb, hc i hi⟩
theorem OwnV.nil (w : World) (base : Nat) : OwnV w base (.slice none 0 0) [] := World.ownsRow_nil _ _ _ _
theorem OwnV.shape {w : World} {base : Nat} {v : Value} {q : List Value} (h : OwnV w base v q) : ∃ A c, v = .slice A q.length c := by
  obtain ⟨_, ⟨rfl, h2⟩ | ⟨g, cap, cur, rfl, _⟩⟩ := h
  · exact ⟨none, 0, by rw [h2]⟩
  · exact ⟨_, _, rfl⟩
theorem OwnV.lt {w : World} {base : Nat} {v : Value} {q : List Value} (h : OwnV w base v q) : ∀ k, v.ownBlock = some k → base ≤ k ∧ k < w.heap.size := World.ownsRow.lt h
theorem OwnV.low {w : World} {base b : Nat} {v : Value} {q : List Value} (h : OwnV w base v q) (hb : b ≤ base) : OwnV w b v q := by
  obtain ⟨h1, h2 | ⟨g, cap, cur, h3, h4, h5⟩⟩ := h
  · exact ⟨h1, .inl h2⟩
  · exact ⟨h1, .inr ⟨g, cap, cur, h3, by omega, h5⟩⟩
theorem OwnV.blk {w w' : World} {base : Nat} {v : Value} {q : List Value} (h : OwnV w base v q) (k : ∀ i, base ≤ i → i < w.heap.size → v.ownBlock = some i → w'.heap[i]? = w.heap[i]?) : OwnV w' base v q := by
  obtain ⟨h1, h2 | ⟨g, cap, cur, rfl, h4, h5, h6⟩⟩ := h
  · exact ⟨h1, .inl h2⟩
  · exact ⟨h1, .inr ⟨g, cap, cur, rfl, h4, (k g h4 (Has.lt h5) rfl).trans h5, h6⟩⟩
theorem OwnV.below {w w' : World} {base : Nat} {v : Value} {q : List Value} (h : OwnV w base v q) (k : Below w.heap.size w w') : OwnV w' base v q := h.blk fun i _ hi _ => k.block i hi
theorem OwnV.read {w : World} {base : Nat} {v : Value} {q : List Value} (h : OwnV w base v q) : ∃ A c, v = .slice A q.length c ∧ RdV w w.heap.size A q := by
  have h' := h
  obtain ⟨h1, ⟨rfl, h2⟩ | ⟨g, cap, cur, rfl, h4, h5, h6, h7, h8, h9⟩⟩ := h
  · exact ⟨none, 0, by rw [h2], fun hn => absurd (List.eq_nil_of_length_eq_zero h2) hn⟩
  · refine ⟨_, cap, rfl, fun _ => ⟨g, 0, rfl, Has.lt h5, fun i hi => ?_⟩⟩
    rw [Nat.zero_add, World.ownsRow.cellAt h' i (by omega), List.getElem?_eq_getElem hi]
theorem OwnZ.blk {w w' : World} {base : Nat} {v : Value} {l : List Int} (h : OwnZ w base v l) (k : ∀ i, base ≤ i → i < w.heap.size → v.ownBlock = some i → w'.heap[i]? = w.heap[i]?) : OwnZ w' base v l := by
  obtain ⟨⟨h1, h2 | ⟨g, cap, cur, rfl, h4, h5, h6⟩⟩, hr⟩ := h
  · exact ⟨⟨h1, .inl h2⟩, hr⟩
  · exact ⟨⟨h1, .inr ⟨g, cap, cur, rfl, h4, (k g h4 (Has.lt h5) rfl).trans h5, h6⟩⟩, hr⟩
/-- append of one slice of numbers, which lies in the block that was just made. -/
theorem wpList_pushV {P : Program} {ops : Array Oper} {rest : List Oper} {o : Oper} {a : Act} {Q : Exit → Act → World → Prop} (hgd : o.guard = none) (s x : Operand) (t : TypeId)
    (ho : o.op = .call { callee := .builtin .append, args := #[s, x], argTypes := #[t, t] })
    (base : Nat) (i : TypeInfo) (ht : P.underlying t = some (.slice 22)) (hi : P.info? 22 = some i) (hz : i.zero = some (.slice none 0 0)) (hsize : i.size = 1) (hby : i.bytes = 24)
    (v : Value) (q : List Value) (w0 : World) (u : Value) (hu : u.oneCell' = true) (hs : a.eval s = v) (hown : OwnV w0 base v q) (hx : a.eval x = .slice (some ⟨w0.heap.size, 0, none⟩) 1 1) (hlen : q.length < 1000000) (hbase : base ≤ w0.heap.size)
    (h : ∀ v' w', OwnV w' base v' (q ++ [u]) → Below base w0 w' → (∀ j, j < w0.heap.size → v.ownBlock ≠ some j → w'.heap[j]? = w0.heap[j]?) → (v'.ownBlock = v.ownBlock ∨ ∃ k, w0.heap.size ≤ k ∧ v'.ownBlock = some k) → wpList P ops Q rest (a.put o.dst v') w') : wpList P ops Q (o :: rest) a (w0.alloc (.cells #[u] 22)) := by
  refine wpList_append_own_at _ hgd s x t ho base 22 i (.slice none 0 0) 1 24 ht hi hz hsize hby rfl (by decide) v q.length q hs (hown.below ((Below.refl _ _).alloc (Nat.le_refl _) _)) ⟨w0.heap.size, 0, none⟩ 1 1 [u] hx rfl (cell_one_new _ _ _) (by intro z hz; simp at hz; subst hz; exact hu) (by unfold maxLen; omega) (by omega) (by simp; omega) ?_
  intro v' w' ho' hg _ hat
  refine h v' w' ?_ ?_ (fun j hj hne => ?_) (hat.imp (fun e => e) fun e => ⟨_, by rw [World.size_alloc]; omega, e⟩)
  · unfold OwnV
    rw [List.length_append]
    exact ho'
  · refine ((Below.refl _ _).alloc hbase _).trans (below_row hg (by rw [World.size_alloc]; omega) fun k e => (hown.lt k e).1)
  · exact (hg.block j (by rw [World.size_alloc]; omega) (fun e => hne e.symm)).trans (Below.heap_alloc w0 _ j hj)
def keepZ (ids : List Int) (Z : List (Value × List Int)) : List (Value × List Int) := Z.filter fun p => !tch ids p.2
def joinZ (ids : List Int) (Z : List (Value × List Int)) : List Int := ((Z.filter fun p => tch ids p.2).map Prod.snd).flatten
theorem uni_zip (ids : List Int) (Z : List (Value × List Int)) (u : Value) : (keepZ ids Z ++ [(u, joinZ ids Z)]).map Prod.snd = uniV (Z.map Prod.snd) ids := by
  unfold keepZ joinZ uniV
  rw [List.map_append, List.filter_map, List.filter_map]
  rfl
theorem keep_next {ids : List Int} {Z : List (Value × List Int)} {i : Nat} (h : i < Z.length) : keepZ ids (Z.take (i + 1)) = keepZ ids (Z.take i) ++ (if tch ids Z[i].2 = true then [] else [Z[i]]) := by
  unfold keepZ
  rw [List.take_succ_eq_append_getElem h, List.filter_append]
  by_cases e : tch ids Z[i].2 = true
  · simp [e]
  · simp [e]
theorem join_next {ids : List Int} {Z : List (Value × List Int)} {i : Nat} (h : i < Z.length) : joinZ ids (Z.take (i + 1)) = joinZ ids (Z.take i) ++ (if tch ids Z[i].2 = true then Z[i].2 else []) := by
  unfold joinZ
  rw [List.take_succ_eq_append_getElem h, List.filter_append]
  by_cases e : tch ids Z[i].2 = true
  · simp [e]
  · simp [e]
def UniP (base : Nat) (Z : List (Value × List Int)) (ids : List Int) (w : World) (e : Ending) (w' : World) : Prop :=
  ∃ v u, e = .returned v ∧ OwnV w' w.heap.size v ((keepZ ids Z ++ [(u, joinZ ids Z)]).map Prod.fst) ∧ Inn w' base (keepZ ids Z ++ [(u, joinZ ids Z)]) ∧ (∀ p ∈ keepZ ids Z ++ [(u, joinZ ids Z)], ∀ k, p.1.ownBlock = some k → v.ownBlock ≠ some k) ∧ Below w.heap.size w w'
set_option maxRecDepth 100000 in
set_option maxHeartbeats 3200000 in
theorem unite_any (A A2 : Option Addr) (c c2 base : Nat) (Z : List (Value × List Int)) (ids : List Int) (w : World) (hbs : base ≤ w.heap.size) (hq : RdV w w.heap.size A (Z.map Prod.fst)) (hI : Inn w base Z) (hne : ∀ p ∈ Z, p.2 ≠ []) (h2 : Ins w w.heap.size A2 ids) (hZ : Z.length ≤ 1000) (hp : ∀ p ∈ Z, p.2.length ≤ 900) (hn : ids.length ≤ 1000) :
    Calls Tryz.prog 77 #[.slice A Z.length c, .slice A2 ids.length c2] w (UniP base Z ids w) := by
  have HQ := Lib.hid (fun (i : Nat) (hi : i < Z.length) => (show ∃ b o, A = some ⟨b, o, none⟩ ∧ b < w.heap.size ∧ w.cell? ⟨b, o + i, none⟩ = some Z[i].1 from by
    obtain ⟨b, o, e, hb, hc⟩ := hq.at_ (i := i) (by simpa using hi)
    exact ⟨b, o, e, hb, by rw [hc]; simp⟩))
  have HOZ := Lib.hid (fun (i : Nat) (hi : i < Z.length) => hI.own _ (List.getElem_mem hi))
  have HNE := Lib.hid (fun (i : Nat) (hi : i < Z.length) => hne _ (List.getElem_mem hi))
  have HPL := Lib.hid (fun (i : Nat) (hi : i < Z.length) => hp _ (List.getElem_mem hi))
  have HID := Lib.hid (fun (j : Nat) (hj : j < ids.length) => h2.at_ hj)
  have HKN := Lib.hid (fun (i : Nat) (hi : i < Z.length) => keep_next (ids := ids) hi)
  have HJN := Lib.hid (fun (i : Nat) (hi : i < Z.length) => join_next (ids := ids) hi)
  have HTI : Hid (∀ (s : List Int), (∃ (j : Nat) (hj : j < ids.length), ids[j] ∈ s) → tch ids s = true) := Lib.hid fun s ⟨j, hj, h⟩ => tch_iff.2 ⟨_, List.getElem_mem hj, h⟩
  have HTN : Hid (∀ (s : List Int), (∀ (j : Nat) (hj : j < ids.length), ids[j] ∉ s) → tch ids s = false) := Lib.hid fun s h => by
    cases ht : tch ids s
    · rfl
    · obtain ⟨x, hx, hs⟩ := tch_iff.1 ht
      obtain ⟨j, hj, rfl⟩ := List.mem_iff_getElem.1 hx
      exact absurd hs (h j hj)
  have HEND : Hid (∀ (wr : World) (v u : Value) (qo : List Value), OwnV wr w.heap.size v (qo ++ [u]) → qo = (keepZ ids Z).map Prod.fst → OwnZ wr w.heap.size u (joinZ ids Z) → (∀ k, u.ownBlock = some k → v.ownBlock ≠ some k) → Below w.heap.size w wr → UniP base Z ids w (.returned v) wr) := Lib.hid fun wr v u qo ho e hu hd hB => by
    subst e
    have hold : ∀ p ∈ keepZ ids Z, p ∈ Z := fun p hp => (List.mem_filter.1 hp).1
    have hblk : ∀ p ∈ keepZ ids Z, ∀ k, p.1.ownBlock = some k → k < w.heap.size := fun p hp k hk => ((hI.own p (hold p hp)).lt k hk).2
    refine ⟨v, u, rfl, by rw [List.map_append]; exact ho, ⟨fun p hp => ?_, ?_⟩, fun p hp k hk => ?_, hB⟩
    · rcases List.mem_append.1 hp with h | h
      · exact (hI.own p (hold p h)).below hB
      · rw [List.mem_singleton.1 h]
        exact hu.low hbs
    · refine List.pairwise_append.2 ⟨hI.dis.sublist List.filter_sublist, List.pairwise_singleton _ _, fun a ha b hb k hk => ?_⟩
      rw [List.mem_singleton.1 hb]
      intro e
      have h1 := hblk a ha k hk
      have h2 := (hu.lt k e).1
      omega
    · rcases List.mem_append.1 hp with h | h
      · intro e
        have h1 := hblk p h k hk
        have h2 := (ho.lt k e).1
        omega
      · rw [List.mem_singleton.1 h] at hk
        exact hd k hk
  obtain ⟨ini, hi0, hi1, hi2, hi3⟩ := infoI_parts
  obtain ⟨inz, hz0, hz1, hz2, hz3⟩ := infoZ_parts
  clear hq hI hne h2 hp
  obtain ⟨N, hN⟩ : ∃ N, N = Z.length := ⟨_, rfl⟩
  obtain ⟨n, hnn⟩ : ∃ n, n = ids.length := ⟨_, rfl⟩
  have HN := Lib.hid hN
  have HNN := Lib.hid hnn
  rw [← hN] at hZ ⊢
  rw [← hnn] at hn ⊢
  clear hN hnn
  go_enter Tryz.func77, Tryz.ntmps77
  go_wp2_with fail
  go_step3
  go_wp2_with fail
  go_step3
  go_wp2_with fail
  go_loopw [5, 6, 13] (fun vo vu vi wr => ∃ (v1 v2 : Value) (i : Nat) (qo : List Value) (un : List Int), v1 = vo ∧ v2 = vu ∧ vi = .int .i64 (i : Int) ∧ i ≤ N ∧ OwnV wr w.heap.size v1 qo ∧ OwnZ wr w.heap.size v2 un ∧ (∀ k, v2.ownBlock = some k → v1.ownBlock ≠ some k) ∧ Below w.heap.size w wr ∧ Hid (qo = (keepZ ids (Z.take i)).map Prod.fst) ∧ Hid (un = joinZ ids (Z.take i)) ∧ qo.length ≤ i ∧ un.length ≤ i * 900) (fun _ _ vi _ => N - (intOf vi).toNat)
  case atStart => exact ⟨_, _, 0, [], [], rfl, rfl, rfl, by omega, OwnV.nil _ _, OwnZ.nil _ _, (by intro k e; cases e), Below.refl _ _, Lib.hid (by simp [keepZ]), Lib.hid (by simp [joinZ]), by simp, by simp⟩
  case round =>
    obtain ⟨v1, v2, i, qo, un, rfl, rfl, rfl, hi, ho1, ho2, hd, hB, HK, HJ, hql, hul⟩ := hrel
    by_cases hlt : i < N
    · have i2 : i < Z.length := by rw [← HN.out]; exact hlt
      obtain ⟨b, o, e, hb, f1⟩ := HQ.out i i2
      subst e
      have hoz := HOZ.out i i2
      have hnz := HNE.out i i2
      have hpl := HPL.out i i2
      have hkn := HKN.out i i2
      have hjn := HJN.out i i2
      generalize Z[i] = z at *
      obtain ⟨zv, zs⟩ := z
      simp only at f1 hoz hnz hpl hkn hjn
      have HKX := Lib.hid hkn
      have HJX := Lib.hid hjn
      obtain ⟨Az, cz, hzv, hzr, hzb⟩ := hoz.read
      subst hzv
      have HZR := Lib.hid hzr
      have HZN := Lib.hid hnz
      have F1 := (hB.cell (p := ⟨b, o + i, none⟩) hb).trans f1
      have i0 : (0 : Int) ≤ (i : Int) := by omega
      have i1 : (i : Int) < (N : Int) := by omega
      obtain ⟨p, hp⟩ : ∃ p, p = zs.length := ⟨_, rfl⟩
      have HP := Lib.hid hp
      rw [← hp] at F1 hpl
      obtain ⟨wq, hwq⟩ : ∃ wq, wq = wr := ⟨_, rfl⟩
      subst hwq
      have HO1 := Lib.hid ho1
      have HO2 := Lib.hid ho2
      have HD := Lib.hid hd
      have HB := Lib.hid hB
      obtain ⟨A5, c5, hv5⟩ := ho1.shape
      subst hv5
      obtain ⟨A6, c6, hv6⟩ := ho2.shape
      subst hv6
      clear hoz hnz hkn hjn hzr hzb f1 hp ho1 ho2 hd hB i2
      go_wp2_with fail
      go_loopw [6, 19] (fun vu vj wr => ∃ j : Nat, vu = .slice A6 un.length c6 ∧ vj = .int .i64 (j : Int) ∧ j ≤ n ∧ Below wq.heap.size wq wr ∧ Hid (∀ (t : Nat) (_ : t < j) (ht : t < ids.length), ids[t] ∉ zs)) (fun _ vj _ => n - (intOf vj).toNat)
      case atStart => exact ⟨0, rfl, rfl, by omega, Below.refl _ _, Lib.hid fun t ht => by omega⟩
      case round =>
        obtain ⟨j, rfl, rfl, hj, hBj, HS⟩ := hrel
        by_cases hltj : j < n
        · have j2 : j < ids.length := by rw [← HNN.out]; exact hltj
          obtain ⟨b3, o3, e3, hb3, hwid, g1⟩ := HID.out j j2
          subst e3
          have hBw := HB.out.trans (hBj.mono HB.out.size)
          have G1 := (hBw.cell (p := ⟨b3, o3 + j, none⟩) hb3).trans g1
          have j0 : (0 : Int) ≤ (j : Int) := by omega
          have j1 : (j : Int) < (n : Int) := by omega
          have HRD := Lib.hid (Ins.more (Ins.keep HZR.out hBw.block) hBw.size)
          have HCT := Lib.hid (contains_any Az zs cz ids[j] wr HRD.out (by rw [← HP.out]; unfold maxLen; omega))
          rw [← HP.out] at HCT
          have HTI2 := Lib.hid (fun (h : ids[j] ∈ zs) => HTI.out zs ⟨j, j2, h⟩)
          have HSN := Lib.hid (fun (h : ids[j] ∉ zs) (t : Nat) (h3 : t < j + 1) (ht : t < ids.length) => (show ids[t] ∉ zs from by
            rcases Nat.lt_or_ge t j with h4 | h4
            · exact HS.out t h4 ht
            · obtain rfl : t = j := by omega
              exact h))
          generalize ids[j] = y at *
          have HBW := Lib.hid hBw
          have HBJ := Lib.hid hBj
          clear hBw hBj g1 j2
          by_cases hin : y ∈ zs
          · rw [decide_eq_true hin] at HCT
            have HTT := Lib.hid (HTI2.out hin)
            clear hin HTI2 HSN
            go_wp2_with fail
            refine (HCT.out).mono ?_
            rintro e w5 ⟨rfl, hb5⟩
            have hB5 := HBJ.out.trans (hb5.mono HBJ.out.size)
            have HB5 := Lib.hid hB5
            have ho2 := HO2.out.below hB5
            have HO1' := Lib.hid (HO1.out.below hB5)
            have hbw := HB.out.size
            have hb5s := hB5.size
            obtain ⟨b4, o4, e4, hb4, hc4⟩ := (Ins.keep HRD.out hb5.block) HZN.out
            subst e4
            have hlen : un.length + p < 1000000 := by have : i * 900 ≤ 1000 * 900 := Nat.mul_le_mul_right _ (by omega); omega
            have hbase : w.heap.size ≤ w5.heap.size := by omega
            have HH2 := Lib.hid ho2
            have HHC := Lib.hid hc4
            clear hB5 hb5 ho2 hc4 HCT HRD
            go_wp2_with (at_builtin; refine wpList_pushZs rfl _ _ 22 rfl w.heap.size ini Tryz.underlying22 hi0 hi1 hi2 hi3 (.slice A6 un.length c6) un zs b4 o4 p cz HP.out rfl HH2.out rfl HHC.out hlen hbase ?_; intro v9 w9 ho9 hg9 hat; have HHG := Lib.hid hg9; have HAT := Lib.hid hat; obtain ⟨lw, hlw⟩ : ∃ lw, lw = un ++ zs := ⟨_, rfl⟩; rw [← hlw] at ho9; have hlwn : lw.length = un.length + p := (by rw [hlw, List.length_append, HP.out]); have HLW := Lib.hid hlw; have HLNN := Lib.hid hlwn; have HO9 := Lib.hid ho9; clear hlw hlwn hg9 hat; obtain ⟨A9, c9, hv9⟩ := ho9.shape; subst hv9; clear ho9)
            refine ⟨⟨_, _, i + 1, qo, lw, rfl, rfl, by go_num, hlt, HO1'.out.blk (fun kk _ h5 h6 => HHG.out.block kk h5 (fun e => HD.out kk e.symm h6)), HO9.out, ?_, HB.out.trans ((HB5.out.mono HB.out.size).grown HHG.out (by omega) (fun kk e => (HH2.out.lt kk e).1)), Lib.hid ?_, Lib.hid ?_, by omega, ?_⟩, by simp [intOf]; omega⟩
            · intro kk e
              rcases HAT.out with h6 | h6
              · exact HD.out kk (h6 ▸ e)
              · rw [h6] at e
                intro e2
                have h7 := (HO1.out.lt kk e2).2
                have := Option.some.inj e
                omega
            · rw [HKX.out, HTT.out, if_pos rfl, List.append_nil]
              exact HK.out
            · rw [HJX.out, HTT.out, if_pos rfl, HLW.out, HJ.out]
            · have := HLNN.out
              omega
          · rw [decide_eq_false hin] at HCT
            have HSX := Lib.hid (HSN.out hin)
            clear hin HTI2 HSN
            go_wp2_with fail
            refine (HCT.out).mono ?_
            rintro e w5 ⟨rfl, hb5⟩
            have HB5 := Lib.hid (HBJ.out.trans (hb5.mono HBJ.out.size))
            clear hb5 HCT HRD
            go_wp2_with fail
            exact ⟨⟨j + 1, rfl, by go_num, hltj, HB5.out, Lib.hid HSX.out⟩, by simp [intOf]; omega⟩
        · have HTF := Lib.hid (HTN.out zs fun t ht => HS.out t (by have := HNN.out; omega) ht)
          have HBJ := Lib.hid hBj
          have HO1' := Lib.hid (HO1.out.below hBj)
          have HO2' := Lib.hid (HO2.out.below hBj)
          have hlq : qo.length < 1000000 := by omega
          have hbs2 : w.heap.size ≤ wr.heap.size := by have := HB.out.size; have := hBj.size; omega
          clear hBj
          go_wp2_with (at_builtin; refine wpList_pushV rfl _ _ 54 rfl w.heap.size inz Tryz.underlying54 hz0 hz1 hz2 hz3 (.slice A5 qo.length c5) qo wr (.slice Az p cz) rfl rfl HO1'.out rfl hlq hbs2 ?_; intro v9 w9 ho9 hb9 hkp hat; have HHB := Lib.hid hb9; have HKP := Lib.hid hkp; have HAT := Lib.hid hat; obtain ⟨lw, hlw⟩ : ∃ lw, lw = qo ++ [(.slice Az p cz : Value)] := ⟨_, rfl⟩; rw [← hlw] at ho9; have hlwn : lw.length = qo.length + 1 := (by rw [hlw]; simp); have HLW := Lib.hid hlw; have HLNN := Lib.hid hlwn; have HO9 := Lib.hid ho9; clear hlw hlwn hb9 hkp hat; obtain ⟨A9, c9, hv9⟩ := ho9.shape; subst hv9; clear ho9)
          refine ⟨⟨_, _, i + 1, lw, un, rfl, rfl, by go_num, hlt, HO9.out, HO2'.out.blk (fun kk _ h5 h6 => HKP.out kk h5 (fun e => HD.out kk h6 e)), ?_, (HB.out.trans (HBJ.out.mono HB.out.size)).trans HHB.out, Lib.hid ?_, Lib.hid ?_, ?_, by omega⟩, by simp [intOf]; omega⟩
          · intro kk e
            rcases HAT.out with h6 | ⟨k7, h7, h8⟩
            · rw [h6]; exact HD.out kk e
            · rw [h8]
              intro e2
              have h9 := (HO2'.out.lt kk e).2
              have := Option.some.inj e2
              omega
          · rw [HKX.out, HTF.out, HLW.out, HK.out, HP.out]
            simp
          · rw [HJX.out, HTF.out]
            simp only [Bool.false_eq_true, if_false, List.append_nil]
            exact HJ.out
          · have := HLNN.out
            omega
    · have hZe : Z.take i = Z := List.take_of_length_le (by have := HN.out; omega)
      rw [hZe] at HK HJ
      have HO1 := Lib.hid ho1
      have HO2 := Lib.hid ho2
      have HD := Lib.hid hd
      have HB := Lib.hid hB
      obtain ⟨A5, c5, hv5⟩ := ho1.shape
      subst hv5
      obtain ⟨A6, c6, hv6⟩ := ho2.shape
      subst hv6
      have hlq : qo.length < 1000000 := by omega
      have hbs2 : w.heap.size ≤ wr.heap.size := hB.size
      clear ho1 ho2 hd hB hZe
      go_wp2_with (at_builtin; refine wpList_pushV rfl _ _ 54 rfl w.heap.size inz Tryz.underlying54 hz0 hz1 hz2 hz3 (.slice A5 qo.length c5) qo wr (.slice A6 un.length c6) rfl rfl HO1.out rfl hlq hbs2 ?_; intro v9 w9 ho9 hb9 hkp hat; have HHB := Lib.hid hb9; have HKP := Lib.hid hkp; have HAT := Lib.hid hat; have HO9 := Lib.hid ho9; clear hb9 hkp hat ho9)
      rw [Exit.noGoto_ret]
      go_ret
      exact HEND.out w9 v9 (.slice A6 un.length c6) qo HO9.out HK.out (by rw [← HJ.out]; exact HO2.out.blk (fun kk _ h5 h6 => HKP.out kk h5 (fun e => HD.out kk h6 e))) (fun kk e => by
        rcases HAT.out with h6 | ⟨k7, h7, h8⟩
        · rw [h6]; exact HD.out kk e
        · rw [h8]
          intro e2
          have h9 := (HO2.out.lt kk e).2
          have := Option.some.inj e2
          omega) (HB.out.trans HHB.out)
end
end Go.Proofs.YteepijefbdbhoaaGreatDoor
