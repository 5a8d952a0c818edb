/-
  Sort of the reference of chapter 5: what it gives. Condition: the nodes can be read.
  Sort of the reference of chapter 5: the walk. Condition: the nodes can be read.
-/
import Derived.Test.YtjokbdhineilcaaGreatDoorLhE
import Derived.Laws.CopyRow
import Derived.Deep.RegionLaw
import Derived.BigQuiet
import Derived.Test.YtjokbdhineilcaaGreatDoorLgG
import Derived.Deep.DeepCutAuto
import Derived.Deep.CutBlock
import Derived.Deep.RegionHeld3
namespace Go.Proofs.YtjokbdhineilcaaGreatDoor
section
open Go.RowKit

section
variable {P : Program}
theorem run_copyN (w : World) (dT sT ty elem : TypeId) (k g o dLen dCap : Nat) (a : Addr) (sLen sCap : Nat) (cur : Array Value) (t : TypeId) (n : Nat) (cs : List Value)
    (hu : P.underlying dT = some (.slice elem)) (hs : (P.info? elem).map (·.size) = some k)
    (hg : w.heap[g]? = some (.cells cur t (0, 0))) (hn : n = Nat.min sLen dLen) (hcs : cs.length = n * k)
    (hsrc : ∀ j v, cs[j]? = some v → w.cell? (a.add j) = some v) (hfit : o + cs.length ≤ cur.size) (h1 : ∀ v ∈ cs, v.oneCell' = true) :
    (Builtin.copy_ #[dT, sT] ty #[.slice (some ⟨g, o, none⟩) dLen dCap, .slice (some a) sLen sCap]).run P w =
      .ok (goInt n) (w.setRow g (cur.toList.take o ++ cs ++ cur.toList.drop (o + cs.length)).toArray) := by
  have hl := run_loadCells_list (P := P) w a cs hsrc
  have hst := run_storeCells_at P g o t cs 0 cur w hg (by simpa using hfit) h1
  cases hq : P.info? elem with
  | none => simp [hq] at hs
  | some i =>
    have hi : i.size = k := by simpa [hq] using hs
    rw [hcs] at hl
    simp [Builtin.copy_, run_underlying hu, Builtin.lenOf, Builtin.firstCells, sizeOf, typeInfo, hq, hi, ← hn, hl, hst]
theorem run_copyN_none (w : World) (dT sT ty elem : TypeId) (k : Nat) (d a : Option Addr) (dLen dCap sLen sCap : Nat) (hu : P.underlying dT = some (.slice elem)) (hs : (P.info? elem).map (·.size) = some k) (hn : Nat.min sLen dLen = 0) :
    (Builtin.copy_ #[dT, sT] ty #[.slice d dLen dCap, .slice a sLen sCap]).run P w = .ok (goInt 0) w := by
  cases hq : P.info? elem with
  | none => simp [hq] at hs
  | some i =>
    have hl : ∀ (x : Addr), (loadCells x 0).run P w = .ok #[] w := fun x => by simpa using run_loadCells_list (P := P) w x [] (by simp)
    cases d <;> cases a <;> simp [Builtin.copy_, run_underlying hu, Builtin.lenOf, Builtin.firstCells, sizeOf, typeInfo, hq, hn, storeCells, hl]
theorem step_copyN {ops : Array Oper} {o : Oper} {a : Act} {w : World} {K : Act → World → Prop} {Q : Exit → Act → World → Prop} {E : Prop} (hgd : o.guard = none) (d s : Operand) (dT sT : TypeId)
    (ho : o.op = .call { callee := .builtin .copy, args := #[d, s], argTypes := #[dT, sT] }) (elem : TypeId) (k : Nat) (hu : P.underlying dT = some (.slice elem)) (hsz : (P.info? elem).map (·.size) = some k)
    (g off dLen dCap : Nat) (ad : Addr) (sLen sCap : Nat) (hd : a.eval d = .slice (some ⟨g, off, none⟩) dLen dCap) (hs : a.eval s = .slice (some ad) sLen sCap)
    (cur : Array Value) (t : TypeId) (hg : w.heap[g]? = some (.cells cur t (0, 0))) (n : Nat) (cs : List Value) (hn : n = Nat.min sLen dLen) (hcs : cs.length = n * k)
    (hsrc : ∀ j v, cs[j]? = some v → w.cell? (ad.add j) = some v) (hfit : off + cs.length ≤ cur.size) (h1 : ∀ v ∈ cs, v.oneCell' = true)
    (h : ∀ w', w'.heap[g]? = some (.cells (cur.toList.take off ++ cs ++ cur.toList.drop (off + cs.length)).toArray t (0, 0)) → w.grownBy w' (some g) → K (a.put o.dst (goInt n)) w') :
    if Region.wanted o (yielded ops a.tmps) = true then Oper.wp P o a w K Q else E := by
  have hw : Region.wanted o (yielded ops a.tmps) = true := by simp [Region.wanted, hgd]
  rw [if_pos hw]
  have hrun := run_copyN (P := P) w dT sT o.type elem k g off dLen dCap ad sLen sCap cur t n cs hu hsz hg hn hcs hsrc hfit h1
  unfold Oper.wp
  simp [execOp, ho, resolve, invoke, builtin, hd, hs, hrun, Result.andThen]
  refine h _ (by simpa using setRow_heap w g _ _ t _ hg) ⟨rfl, rfl, rfl, by simp [World.setRow], fun i hi hne => setRow_other w g i _ (fun e => hne (by rw [e]))⟩
theorem step_copyN_none {ops : Array Oper} {o : Oper} {a : Act} {w : World} {K : Act → World → Prop} {Q : Exit → Act → World → Prop} {E : Prop} (hgd : o.guard = none) (d s : Operand) (dT sT : TypeId)
    (ho : o.op = .call { callee := .builtin .copy, args := #[d, s], argTypes := #[dT, sT] }) (elem : TypeId) (k : Nat) (hu : P.underlying dT = some (.slice elem)) (hsz : (P.info? elem).map (·.size) = some k)
    (dp sp : Option Addr) (dLen dCap sLen sCap : Nat) (hd : a.eval d = .slice dp dLen dCap) (hs : a.eval s = .slice sp sLen sCap) (hn : Nat.min sLen dLen = 0)
    (h : K (a.put o.dst (goInt 0)) w) :
    if Region.wanted o (yielded ops a.tmps) = true then Oper.wp P o a w K Q else E := by
  have hw : Region.wanted o (yielded ops a.tmps) = true := by simp [Region.wanted, hgd]
  rw [if_pos hw]
  have hrun := run_copyN_none (P := P) w dT sT o.type elem k dp sp dLen dCap sLen sCap hu hsz hn
  unfold Oper.wp
  simp [execOp, ho, resolve, invoke, builtin, hd, hs, hrun, Result.andThen]
  exact h
end
theorem flatN_take (l : List Nd) (pad : List Value) {k : Nat} (h : k ≤ l.length) : (flatN l ++ pad).take (k * 3) = flatN (l.take k) := by
  have e : flatN l = flatN (l.take k) ++ flatN (l.drop k) := by rw [← flatN_append, List.take_append_drop]
  have hl : (flatN (l.take k)).length = k * 3 := by rw [flatN_len, List.length_take, Nat.min_eq_left h]
  rw [e, List.append_assoc, List.take_append_of_le_length (by omega), List.take_of_length_le (by omega)]
/-- What lies in the row behind the copy. -/
theorem shiftN {m : List Nd} {z : Nd} {pad : List Value} {a : Nat} (ha : a ≤ m.length) :
    (flatN (m ++ [z]) ++ pad).take ((a + 1) * 3) ++ flatN (m.drop a) ++ (flatN (m ++ [z]) ++ pad).drop ((a + 1) * 3 + (flatN (m.drop a)).length) = flatN ((m ++ [z]).take (a + 1) ++ m.drop a) ++ pad := by
  have h1 : (a + 1) * 3 + (flatN (m.drop a)).length = (flatN (m ++ [z])).length := by
    rw [flatN_len, flatN_len, List.length_drop, List.length_append, List.length_singleton]; omega
  rw [flatN_take _ _ (by simp; omega), h1, List.drop_left, flatN_append]
theorem set_shift {m : List Nd} {z : Nd} {a : Nat} (ha : a ≤ m.length) (x : Nd) : ((m ++ [z]).take (a + 1) ++ m.drop a).set a x = m.take a ++ [x] ++ m.drop a := by
  rcases Nat.lt_or_ge a m.length with h | h
  · rw [List.take_append_of_le_length (by omega), List.take_succ_eq_append_getElem h, List.append_assoc, List.set_append_right _ _ (by rw [List.length_take]; omega)]
    rw [List.length_take, Nat.min_eq_left ha, Nat.sub_self, List.append_assoc]
    rfl
  · have e : a = m.length := by omega
    subst e
    rw [List.take_of_length_le (by simp), List.drop_length, List.append_nil, List.append_nil, List.set_append_right _ _ (Nat.le_refl _), Nat.sub_self, List.take_length]
    rfl
theorem len_shift {m : List Nd} {z : Nd} {a : Nat} (ha : a ≤ m.length) : ((m ++ [z]).take (a + 1) ++ m.drop a).length = m.length + 1 := by
  rw [List.length_append, List.length_take, List.length_drop, List.length_append, List.length_singleton]; omega
theorem shift_last (m : List Nd) (z : Nd) : (m ++ [z]).take (m.length + 1) ++ m.drop m.length = m ++ [z] := by
  rw [List.take_of_length_le (by simp), List.drop_length, List.append_nil]
/-- The first i nodes of l, sorted so that equal nodes keep their order. -/
def SIn (l : List Nd) (i : Nat) (m : List Nd) : Prop := ∃ L : List Nat, m = L.map (nth l) ∧ L.Pairwise (Lx (nth l)) ∧ ∀ t, t ∈ L ↔ t < i
theorem sin_nil (l : List Nd) : SIn l 0 [] := ⟨[], rfl, List.Pairwise.nil, fun t => by simp⟩
theorem sin_end {l m : List Nd} (h : SIn l l.length m) : StbS l m := h
theorem sin_put {l m : List Nd} {i a : Nat} (h : SIn l i m) (hi : i < l.length) (ha : a ≤ m.length)
    (h1 : 0 < a → ∀ (k : a - 1 < m.length), nlt l[i] m[a - 1] = false) (h2 : ∀ j (hj : j < m.length), a ≤ j → nlt l[i] m[j] = true) : SIn l (i + 1) (m.take a ++ [l[i]] ++ m.drop a) := by
  obtain ⟨L, rfl, hp, hm⟩ := h
  have hx : l[i] = nth l i := by simp [nth, List.getElem?_eq_getElem hi]
  rw [hx] at h1 h2 ⊢
  have hl : (L.map (nth l)).length = L.length := by simp
  rw [hl] at ha
  have hlt : ∀ j (hj : j < L.length), L[j] < i := fun j hj => (hm _).1 (List.getElem_mem hj)
  have hpi := List.pairwise_iff_getElem.1 hp
  refine ⟨L.take a ++ [i] ++ L.drop a, by simp [List.map_take, List.map_drop], ?_, fun t => ?_⟩
  · rw [List.append_assoc]
    show List.Pairwise _ (L.take a ++ (i :: L.drop a))
    have up : ∀ j (hj : j < L.length), a ≤ j → Lx (nth l) i L[j] := fun j hj haj => by
      have := h2 j (by simpa using hj) haj
      rw [List.getElem_map] at this
      exact (lx_up (hlt j hj)).2 this
    have dn : ∀ j (hj : j < L.length), j < a → Lx (nth l) L[j] i := fun j hj hja => by
      have h3 : a - 1 < L.length := by omega
      have := h1 (by omega) (by simpa using h3)
      rw [List.getElem_map] at this
      have h4 := (lx_dn (F := nth l) (hlt (a - 1) h3)).2 this
      rcases Nat.lt_or_ge j (a - 1) with h5 | h5
      · exact lx_trans (hpi j (a - 1) hj h3 h5) h4
      · have : j = a - 1 := by omega
        subst this; exact h4
    refine List.pairwise_append.2 ⟨hp.sublist (List.take_sublist _ _), List.pairwise_cons.2 ⟨fun y hy => ?_, hp.sublist (List.drop_sublist _ _)⟩, fun y hy u hu => ?_⟩
    · obtain ⟨j, hj, rfl⟩ := List.mem_iff_getElem.1 hy
      rw [List.length_drop] at hj
      rw [List.getElem_drop]
      exact up (a + j) (by omega) (by omega)
    · obtain ⟨j, hj, rfl⟩ := List.mem_iff_getElem.1 hy
      rw [List.length_take] at hj
      rw [List.getElem_take]
      rcases List.mem_cons.1 hu with rfl | hu
      · exact dn j (by omega) (by omega)
      · obtain ⟨k, hk, rfl⟩ := List.mem_iff_getElem.1 hu
        rw [List.length_drop] at hk
        rw [List.getElem_drop]
        exact hpi j (a + k) (by omega) (by omega) (by omega)
  · have e : t ∈ L.take a ++ [i] ++ L.drop a ↔ t = i ∨ t ∈ L := by
      have h6 : t ∈ L ↔ t ∈ L.take a ∨ t ∈ L.drop a := by
        conv => lhs; rw [← List.take_append_drop a L]
        exact List.mem_append
      rw [List.mem_append, List.mem_append, List.mem_singleton, h6]
      constructor
      · rintro ((h | h) | h)
        · exact .inr (.inl h)
        · exact .inl h
        · exact .inr (.inr h)
      · rintro (h | h | h)
        · exact .inl (.inr h)
        · exact .inl (.inl h)
        · exact .inr h
    rw [e, hm]
    omega
theorem sin_len {l m : List Nd} {i : Nat} (h : SIn l i m) : m.length = i := by
  obtain ⟨L, rfl, hp, hm⟩ := h
  have hn : L.Nodup := hp.imp fun {a b} h e => by subst e; exact lx_irr _ h
  have := ((List.perm_ext_iff_of_nodup hn List.nodup_range (l₂ := List.range i)).2 fun a => by rw [hm, List.mem_range]).length_eq
  simpa using this
theorem hsz3 : (Tryz.prog.info? 25).map (·.size) = some 3 := by kernel_rfl
end
section
open Go.RowKit

set_option maxRecDepth 100000 in
set_option maxHeartbeats 3200000 in
theorem rsort_any (A : Option Addr) (l : List Nd) (c : Nat) (w : World) (hl : Nds w w.heap.size A l) (hn : l.length ≤ 100000) :
    Calls Tryz.prog 50 #[.slice A l.length c] w (StsP l w) := by
  obtain ⟨inf, hif, hif1, hif2, hif3⟩ := infoN_parts
  go_enter Tryz.func50, Tryz.ntmps50
  go_wp2_with fail
  go_loopw [3, 4] (fun out i wr => ∃ (v1 : Value) (k : Nat) (m : List Nd) (wq : World), wq = wr ∧ v1 = out ∧ k ≤ l.length ∧ i = .int .i64 (k : Int) ∧ OwnN wq w.heap.size v1 m ∧ Below w.heap.size w wq ∧ m.length = k ∧ Hid (SIn l k m)) (fun _ i _ => l.length - (intOf i).toNat)
  case atStart => exact ⟨_, 0, [], _, rfl, rfl, Nat.zero_le _, rfl, OwnN.nil _ _, Below.refl _ _, rfl, Lib.hid (sin_nil l)⟩
  case round =>
    obtain ⟨v1, k, m, wq, rfl, rfl, hk, rfl, hown, hB, hmk, HI⟩ := hrel
    by_cases hlt : k < l.length
    · obtain ⟨b, o, hA, hb, f1, f2, f3⟩ := hl.at_ hlt
      subst hA
      have HX := Lib.hid (fun (w1 : World) (h : Below w.heap.size w w1) => (⟨(h.cell (p := ⟨b, o + k * 3, none⟩) hb).trans f1, (h.cell (p := ⟨b, o + k * 3 + 1, none⟩) hb).trans f2, (h.cell (p := ⟨b, o + k * 3 + 2, none⟩) hb).trans f3⟩ : w1.cell? ⟨b, o + k * 3, none⟩ = some (.int .i64 l[k].id) ∧ w1.cell? ⟨b, o + k * 3 + 1, none⟩ = some (.string l[k].key) ∧ w1.cell? ⟨b, o + k * 3 + 2, none⟩ = some (.int .u32 (l[k].word : Int))))
      have H2 := Lib.hid (fun (a : Nat) => sin_put (a := a) HI.out hlt)
      clear f1 f2 f3
      generalize l[k] = x at *
      obtain ⟨xi, xk, xw⟩ := x
      have i0' : (0 : Int) ≤ (k : Int) := by omega
      have i1 : (k : Int) < (l.length : Int) := by omega
      obtain ⟨A1, c1, rfl, hR⟩ := hown.read
      have HM := Lib.hid hmk.symm
      rw [hmk]
      have hm1 : k ≤ 100000 := by omega
      clear hmk
      go_upto_block 2 with fail
      go_cut [5] (fun s5 wx => ∃ a : Nat, s5 = .int .i64 (a : Int) ∧ a ≤ k ∧ Below wq.heap.size wq wx ∧ Hid ((0 < a → ∀ (k : a - 1 < m.length), nlt ⟨xi, xk, xw⟩ m[a - 1] = false) ∧ (∀ j (hj : j < m.length), a ≤ j → nlt ⟨xi, xk, xw⟩ m[j] = true)))
      case first =>
        go_wp2_with fail
        go_loopw [5] (fun i wz => ∃ a : Nat, i = .int .i64 (a : Int) ∧ a ≤ k ∧ Below wq.heap.size wq wz ∧ Hid (∀ j (hj : j < m.length), a ≤ j → nlt ⟨xi, xk, xw⟩ m[j] = true)) (fun i _ => (intOf i).toNat)
        case atStart => exact ⟨k, rfl, Nat.le_refl _, Below.refl _ _, Lib.hid (fun j h1 h2 => by rw [HM.out] at h2; omega)⟩
        case round =>
          obtain ⟨a, rfl, ham, hBz, HJ⟩ := hrel
          by_cases ha0 : 0 < a
          · obtain ⟨a', rfl⟩ : ∃ a', a = a' + 1 := ⟨a - 1, by omega⟩
            have hal : a' < m.length := by rw [← HM.out]; omega
            obtain ⟨b2, o2, hA1, hb2, y1, y2, _⟩ := hR.at_ hal
            subst hA1
            have HCW := Lib.hid (fun (h : a' < m.length) => (rfl : m[a'] = m[a']))
            obtain ⟨y, hy⟩ : ∃ y, y = m[a'] := ⟨_, rfl⟩
            rw [← hy] at y1 y2
            have HY := Lib.hid hy
            obtain ⟨yi, yk, yw⟩ := y
            replace y1 := (hBz.cell (p := ⟨b2, o2 + a' * 3, none⟩) hb2).trans y1
            replace y2 := (hBz.cell (p := ⟨b2, o2 + a' * 3 + 1, none⟩) hb2).trans y2
            obtain ⟨x1, x2, _⟩ := HX.out _ (hB.trans (hBz.mono hB.size))
            have i2 : (0 : Int) ≤ (a' : Int) := by omega
            have i3 : (a' : Int) < (k : Int) := by omega
            have i4 : (0 : Int) < (a' : Int) + 1 := by omega
            have e1 : IntKind.i64.wrap ((a' : Int) + 1 - 1) = (a' : Int) := by rw [Int.add_sub_cancel]; exact IntWalk.i64_in _ (by omega)
            have e2 : IntKind.i64.wrap ((a' : Int) + 1 + -1) = (a' : Int) := by rw [show (a' : Int) + 1 + -1 = a' by omega]; exact IntWalk.i64_in _ (by omega)
            have e5 : IntKind.i64.wrap (a' : Int) = (a' : Int) := IntWalk.i64_in _ (by omega)
            rw [show ((a' + 1 : Nat) : Int) = (a' : Int) + 1 from by omega]
            clear hy
            cases hk1 : kl xk yk
            · cases hk2 : kl yk xk
              · obtain rfl := kl_tri hk1 hk2
                have t1 : (!Op.bytesLess xk.toList xk.toList && !xk.toList == xk.toList) = false := by simp
                have t2 : (xk.toList == xk.toList) = true := by simp
                clear hk1 hk2
                by_cases hid : xi < yi
                · have HV : Hid (nlt ⟨xi, xk, xw⟩ ⟨yi, xk, yw⟩ = true) := Lib.hid ((nlt_true _ _).2 (.inr ⟨rfl, hid⟩))
                  go_wp2_with fail
                  go_quiet (fail)
                  go_wp2_with fail
                  go_roundw
                  case rel => exact ⟨a', by go_num, by omega, ⟨hBz.os, hBz.tape, hBz.output, hBz.size, hBz.block⟩, Lib.hid (fun j h1 h2 => by
                    rcases Nat.lt_or_ge a' j with h3 | h3
                    · exact HJ.out j h1 h3
                    · have h4 : j = a' := by omega
                      subst h4
                      rw [← HY.out]
                      exact HV.out)⟩
                  case measure => simp [intOf]
                · have HV : Hid (nlt ⟨xi, xk, xw⟩ ⟨yi, xk, yw⟩ = false) := Lib.hid ((nlt_false _ _).2 (.inr ⟨rfl, by show yi ≤ xi; omega⟩))
                  go_wp2_with fail
                  go_quiet (fail)
                  go_wp2_with fail
                  go_meet
                  exact ⟨a' + 1, by go_num, ham, ⟨hBz.os, hBz.tape, hBz.output, hBz.size, hBz.block⟩, Lib.hid ⟨fun _ h1 => by
                    show nlt ⟨xi, xk, xw⟩ m[a'] = false
                    rw [← HY.out]
                    exact HV.out, HJ.out⟩⟩
              · have HV : Hid (nlt ⟨xi, xk, xw⟩ ⟨yi, yk, yw⟩ = false) := Lib.hid ((nlt_false _ _).2 (.inl hk2))
                have t1 : Op.bytesLess yk.toList xk.toList = true := hk2
                have t2 : (yk.toList == xk.toList) = false := by
                  rw [beq_eq_false_iff_ne]
                  intro e
                  rw [toList_inj e, kl_irrefl] at hk2
                  cases hk2
                clear hk1 hk2
                go_wp2_with fail
                go_quiet (fail)
                go_wp2_with fail
                go_meet
                exact ⟨a' + 1, by go_num, ham, ⟨hBz.os, hBz.tape, hBz.output, hBz.size, hBz.block⟩, Lib.hid ⟨fun _ h1 => by
                  show nlt ⟨xi, xk, xw⟩ m[a'] = false
                  rw [← HY.out]
                  exact HV.out, HJ.out⟩⟩
            · have HV : Hid (nlt ⟨xi, xk, xw⟩ ⟨yi, yk, yw⟩ = true) := Lib.hid ((nlt_true _ _).2 (.inl hk1))
              have t1 : (!Op.bytesLess yk.toList xk.toList && !yk.toList == xk.toList) = true := by rw [gt_kl, hk1]
              clear hk1
              go_wp2_with fail
              go_quiet (fail)
              go_wp2_with fail
              go_roundw
              case rel => exact ⟨a', by go_num, by omega, ⟨hBz.os, hBz.tape, hBz.output, hBz.size, hBz.block⟩, Lib.hid (fun j h1 h2 => by
                rcases Nat.lt_or_ge a' j with h3 | h3
                · exact HJ.out j h1 h3
                · have h4 : j = a' := by omega
                  subst h4
                  rw [← HY.out]
                  exact HV.out)⟩
              case measure => simp [intOf]
          · have ha1 : a = 0 := by omega
            subst ha1
            go_wp2_with fail
            go_quiet (fail)
            go_wp2_with fail
            go_meet
            exact ⟨0, rfl, Nat.zero_le _, ⟨hBz.os, hBz.tape, hBz.output, hBz.size, hBz.block⟩, Lib.hid ⟨fun h => by omega, HJ.out⟩⟩
      case rest =>
        obtain ⟨a, rfl, ham, hBc, HJ⟩ := hcut
        have hown2 := hown.below hBc
        rw [← HM.out] at hown2
        have hBw := hB.trans (hBc.mono hB.size)
        have hml : m.length < 1000000 := by rw [← HM.out]; omega
        clear hown hR hBc hB
        go_wp2_with (at_builtin; refine wpList_pushN rfl _ _ 28 rfl w.heap.size inf Tryz.underlying28 hif hif1 hif2 hif3 (.slice A1 k c1) m wc ⟨0, ⟨#[]⟩, 0⟩ rfl hown2 rfl hml hBw.size ?_; intro v2 w2 hown3 hb2)
        obtain ⟨G, cap, rfl, hG, hGl, hlcap, hcapm, hR3⟩ := hown3.open_ (by simp)
        obtain ⟨G2, cap2, pad, eG, _, hHas, hback⟩ := hown3.row (by simp)
        injection eG with eG1 _ eG2
        injection eG1 with eG1
        injection eG1 with eG1 _
        subst eG1 eG2
        have hn1 : (m ++ [(⟨0, ⟨#[]⟩, 0⟩ : Nd)]).length = k + 1 := by rw [List.length_append, ← HM.out]; rfl
        rw [hn1] at hlcap ⊢
        have hB2 := hBw.trans (hb2.mono (Nat.le_refl _))
        have HBK := Lib.hid hback
        have hHas := Lib.hid hHas
        have HR3 := Lib.hid hR3
        unfold maxLen at hcapm
        clear hback hown3 hown2 hb2 hBw hn1 hR3
        have c0 : (0 : Int) ≤ (a : Int) := by omega
        have c2 : (a : Int) ≤ (k : Int) + 1 := by omega
        have c3 : (a : Int) + 1 ≤ (k : Int) + 1 := by omega
        have c4 : (k : Int) + 1 ≤ (cap : Int) := by omega
        have c5 : (a : Int) ≤ (cap : Int) := by omega
        have c6 : (a : Int) + 1 ≤ (cap : Int) := by omega
        have c7 : (a : Int) < (k : Int) + 1 := by omega
        have d2 : ¬ cap = a := by omega
        have ham2 : a ≤ m.length := by rw [← HM.out]; exact ham
        obtain ⟨q, hq⟩ : ∃ q, q = (m ++ [(⟨0, ⟨#[]⟩, 0⟩ : Nd)]).take (a + 1) ++ m.drop a := ⟨_, rfl⟩
        have HQ : Hid (q.set a ⟨xi, xk, xw⟩ = m.take a ++ [⟨xi, xk, xw⟩] ++ m.drop a) := Lib.hid (by rw [hq]; exact set_shift ham2 _)
        have HQL : Hid (q.length = k + 1) := Lib.hid (by rw [hq, len_shift ham2, ← HM.out])
        have HQF := Lib.hid hq
        clear hq ham2
        go_wp2_with fail
        by_cases hac : a = k
        · have HQE : Hid (q = m ++ [⟨0, ⟨#[]⟩, 0⟩]) := Lib.hid (by rw [HQF.out, hac, HM.out]; exact shift_last m _)
          by_cases hcap : cap = a + 1
          · subst hcap
            have q1 := Lib.hid (show Nat.min (k + 1 - a) 0 = 0 by (show min _ _ = 0); omega)
            clear hac
            have d9 : (a : Int) ≤ (a : Int) + 1 := by omega
            have e2 : (0 : Int) ≤ (a : Int) + 1 := by omega
            have e3 : ((a : Int) + 1).toNat = a + 1 := by omega
            have e1 : IntKind.i64.wrap ((a : Int) + 1) = (a : Int) + 1 := IntWalk.i64_in _ (by omega)
            go_region_law ((refine step_copyN_none rfl (.tmp 67) (.tmp 70) 28 28 (by rfl) 25 3 Tryz.underlying28 hsz3 (some ⟨G, 0, none⟩) (some ⟨G, a * 3, none⟩) 0 0 (k + 1 - a) 1 (by simp [Act.eval, Act.put]) (by simp [Act.eval, Act.put]) q1.out ?_))
            clear e1 e2 e3 d9
            have hB3 := hB2.drew
            have hH3 : Has w2.drew G 25 (flatN q ++ pad).toArray := by rw [HQE.out]; exact hHas.out
            generalize w2.drew = w3 at *
            have hfz := hH3.frozen
            have hz := flatN_at q a (by rw [HQL.out]; omega)
            have hzz : ∀ j u, (flatN q)[j]? = some u → w3.cell? ⟨G, j, none⟩ = some u := fun j u hj => by
              have hjl : j < (flatN q).length := by
                rcases Nat.lt_or_ge j (flatN q).length with h3 | h3
                · exact h3
                · rw [List.getElem?_eq_none h3] at hj; cases hj
              rw [hH3.cell, List.getElem?_toArray, List.getElem?_append_left hjl]
              exact hj
            have z1 := hzz _ _ hz.1
            have z2 := hzz _ _ hz.2.1
            have z3 := hzz _ _ hz.2.2
            obtain ⟨x1, x2, x3⟩ := HX.out _ hB3
            have hH4 := ((hH3.set_ (a * 3) (.int .i64 xi)).set_ (a * 3 + 1) (.string xk)).set_ (a * 3 + 2) (.int .u32 (xw : Int))
            simp only [List.setIfInBounds_toArray] at hH4
            rw [flatN_put q pad a (by rw [HQL.out]; omega) ⟨xi, xk, xw⟩, HQ.out] at hH4
            have hlen : (m.take a ++ [(⟨xi, xk, xw⟩ : Nd)] ++ m.drop a).length = (m ++ [(⟨0, ⟨#[]⟩, 0⟩ : Nd)]).length := by rw [← HQ.out, List.length_set, HQL.out, List.length_append, ← HM.out]; rfl
            have hO4 := HBK.out _ _ hlen hH4
            rw [hlen, List.length_append, ← HM.out] at hO4
            have hB4 := ((hB3.setCell (p := ⟨G, a * 3, none⟩) hG (.int .i64 xi)).setCell (p := ⟨G, a * 3 + 1, none⟩) hG (.string xk)).setCell (p := ⟨G, a * 3 + 2, none⟩) hG (.int .u32 (xw : Int))
            have HO4 := Lib.hid hO4
            have HB4 := Lib.hid hB4
            have HL4 : Hid ((m.take a ++ [(⟨xi, xk, xw⟩ : Nd)] ++ m.drop a).length = k + 1) := Lib.hid (by rw [hlen, List.length_append, ← HM.out]; rfl)
            clear hzz hz hH4 hO4 hB4 hlen hB3 hH3
            go_wp2_with fail
            exact ⟨⟨.slice (some ⟨G, 0, none⟩) (k + 1) (a + 1), k + 1, m.take a ++ [⟨xi, xk, xw⟩] ++ m.drop a, _, rfl, rfl, hlt, by go_num, HO4.out, HB4.out, HL4.out, Lib.hid (H2.out a (by rw [← HM.out]; exact ham) HJ.out.1 HJ.out.2)⟩, by simp [intOf]; omega⟩
          · have q1 := Lib.hid (show Nat.min (k + 1 - a) (k - a) = 0 by (show min _ _ = 0); omega)
            clear hac
            have d1 : ¬ cap = a + 1 := hcap
            have d9 : (a : Int) ≤ (a : Int) + 1 := by omega
            have e2 : (0 : Int) ≤ (a : Int) + 1 := by omega
            have e3 : ((a : Int) + 1).toNat = a + 1 := by omega
            have e1 : IntKind.i64.wrap ((a : Int) + 1) = (a : Int) + 1 := IntWalk.i64_in _ (by omega)
            go_region_law ((refine step_copyN_none rfl (.tmp 67) (.tmp 70) 28 28 (by rfl) 25 3 Tryz.underlying28 hsz3 (some ⟨G, (a + 1) * 3, none⟩) (some ⟨G, a * 3, none⟩) (k - a) (cap - (a + 1)) (k + 1 - a) (cap - a) (by simp [Act.eval, Act.put]) (by simp [Act.eval, Act.put]) q1.out ?_))
            clear e1 e2 e3 d9
            have hB3 := hB2.drew
            have hH3 : Has w2.drew G 25 (flatN q ++ pad).toArray := by rw [HQE.out]; exact hHas.out
            generalize w2.drew = w3 at *
            have hfz := hH3.frozen
            have hz := flatN_at q a (by rw [HQL.out]; omega)
            have hzz : ∀ j u, (flatN q)[j]? = some u → w3.cell? ⟨G, j, none⟩ = some u := fun j u hj => by
              have hjl : j < (flatN q).length := by
                rcases Nat.lt_or_ge j (flatN q).length with h3 | h3
                · exact h3
                · rw [List.getElem?_eq_none h3] at hj; cases hj
              rw [hH3.cell, List.getElem?_toArray, List.getElem?_append_left hjl]
              exact hj
            have z1 := hzz _ _ hz.1
            have z2 := hzz _ _ hz.2.1
            have z3 := hzz _ _ hz.2.2
            obtain ⟨x1, x2, x3⟩ := HX.out _ hB3
            have hH4 := ((hH3.set_ (a * 3) (.int .i64 xi)).set_ (a * 3 + 1) (.string xk)).set_ (a * 3 + 2) (.int .u32 (xw : Int))
            simp only [List.setIfInBounds_toArray] at hH4
            rw [flatN_put q pad a (by rw [HQL.out]; omega) ⟨xi, xk, xw⟩, HQ.out] at hH4
            have hlen : (m.take a ++ [(⟨xi, xk, xw⟩ : Nd)] ++ m.drop a).length = (m ++ [(⟨0, ⟨#[]⟩, 0⟩ : Nd)]).length := by rw [← HQ.out, List.length_set, HQL.out, List.length_append, ← HM.out]; rfl
            have hO4 := HBK.out _ _ hlen hH4
            rw [hlen, List.length_append, ← HM.out] at hO4
            have hB4 := ((hB3.setCell (p := ⟨G, a * 3, none⟩) hG (.int .i64 xi)).setCell (p := ⟨G, a * 3 + 1, none⟩) hG (.string xk)).setCell (p := ⟨G, a * 3 + 2, none⟩) hG (.int .u32 (xw : Int))
            have HO4 := Lib.hid hO4
            have HB4 := Lib.hid hB4
            have HL4 : Hid ((m.take a ++ [(⟨xi, xk, xw⟩ : Nd)] ++ m.drop a).length = k + 1) := Lib.hid (by rw [hlen, List.length_append, ← HM.out]; rfl)
            clear hzz hz hH4 hO4 hB4 hlen hB3 hH3
            go_wp2_with fail
            exact ⟨⟨.slice (some ⟨G, 0, none⟩) (k + 1) cap, k + 1, m.take a ++ [⟨xi, xk, xw⟩] ++ m.drop a, _, rfl, rfl, hlt, by go_num, HO4.out, HB4.out, HL4.out, Lib.hid (H2.out a (by rw [← HM.out]; exact ham) HJ.out.1 HJ.out.2)⟩, by simp [intOf]; omega⟩
        · have q0 : a < k := by omega
          have d1 : ¬ cap = a + 1 := by omega
          have q1 := Lib.hid (show k - a = Nat.min (k + 1 - a) (k + 1 - (a + 1)) by (show _ = min _ _); omega)
          have q2 : (flatN (m.drop a)).length = (k - a) * 3 := by rw [flatN_len, List.length_drop, ← HM.out]
          have q3 : (a + 1) * 3 + (flatN (m.drop a)).length ≤ (flatN (m ++ [(⟨0, ⟨#[]⟩, 0⟩ : Nd)]) ++ pad).toArray.size := by
            rw [q2, List.size_toArray, List.length_append, flatN_len, List.length_append, ← HM.out, List.length_singleton]
            omega
          have q4 : ∀ j v, (flatN (m.drop a))[j]? = some v → (World.drew w2).cell? ((⟨G, a * 3, none⟩ : Addr).add j) = some v := fun j v hv => by
            have h7 := (HR3.out.cut a).news rfl j v
            rw [List.drop_append_of_le_length (by rw [← HM.out]; omega), flatN_append, List.getElem?_append_left (by
              rcases Nat.lt_or_ge j (flatN (m.drop a)).length with h3 | h3
              · exact h3
              · rw [List.getElem?_eq_none h3] at hv; cases hv)] at h7
            exact h7 hv
          have HSH := Lib.hid (shiftN (m := m) (z := ⟨0, ⟨#[]⟩, 0⟩) (pad := pad) (a := a) (by rw [← HM.out]; omega))
          have Q2 := Lib.hid q2
          clear hac q2
          have e2 : (0 : Int) ≤ (a : Int) + 1 := by omega
          have e3 : ((a : Int) + 1).toNat = a + 1 := by omega
          have e1 : IntKind.i64.wrap ((a : Int) + 1) = (a : Int) + 1 := IntWalk.i64_in _ (by omega)
          go_region_law ((refine step_copyN rfl (.tmp 67) (.tmp 70) 28 28 (by rfl) 25 3 Tryz.underlying28 hsz3 G ((a + 1) * 3) (k + 1 - (a + 1)) (cap - (a + 1)) ⟨G, a * 3, none⟩ (k + 1 - a) (cap - a) (by simp [Act.eval, Act.put]) (by simp [Act.eval, Act.put]) (flatN (m ++ [(⟨0, ⟨#[]⟩, 0⟩ : Nd)]) ++ pad).toArray 25 hHas.out (k - a) (flatN (m.drop a)) q1.out Q2.out q4 q3 (flatN_ones _) ?_; intro w3 hH3 hgr3))
          clear e1 e2 e3 q4 q3
          have hB3 : Below w.heap.size w w3 := hB2.drew.grown hgr3 hB2.size (fun i hi => by cases hi; exact hG)
          replace hH3 : Has w3 G 25 (flatN q ++ pad).toArray := by
            rw [HQF.out, ← HSH.out]
            exact hH3
          clear hgr3
          have hfz := hH3.frozen
          have hz := flatN_at q a (by rw [HQL.out]; omega)
          have hzz : ∀ j u, (flatN q)[j]? = some u → w3.cell? ⟨G, j, none⟩ = some u := fun j u hj => by
            have hjl : j < (flatN q).length := by
              rcases Nat.lt_or_ge j (flatN q).length with h3 | h3
              · exact h3
              · rw [List.getElem?_eq_none h3] at hj; cases hj
            rw [hH3.cell, List.getElem?_toArray, List.getElem?_append_left hjl]
            exact hj
          have z1 := hzz _ _ hz.1
          have z2 := hzz _ _ hz.2.1
          have z3 := hzz _ _ hz.2.2
          obtain ⟨x1, x2, x3⟩ := HX.out _ hB3
          have hH4 := ((hH3.set_ (a * 3) (.int .i64 xi)).set_ (a * 3 + 1) (.string xk)).set_ (a * 3 + 2) (.int .u32 (xw : Int))
          simp only [List.setIfInBounds_toArray] at hH4
          rw [flatN_put q pad a (by rw [HQL.out]; omega) ⟨xi, xk, xw⟩, HQ.out] at hH4
          have hlen : (m.take a ++ [(⟨xi, xk, xw⟩ : Nd)] ++ m.drop a).length = (m ++ [(⟨0, ⟨#[]⟩, 0⟩ : Nd)]).length := by rw [← HQ.out, List.length_set, HQL.out, List.length_append, ← HM.out]; rfl
          have hO4 := HBK.out _ _ hlen hH4
          rw [hlen, List.length_append, ← HM.out] at hO4
          have hB4 := ((hB3.setCell (p := ⟨G, a * 3, none⟩) hG (.int .i64 xi)).setCell (p := ⟨G, a * 3 + 1, none⟩) hG (.string xk)).setCell (p := ⟨G, a * 3 + 2, none⟩) hG (.int .u32 (xw : Int))
          have HO4 := Lib.hid hO4
          have HB4 := Lib.hid hB4
          have HL4 : Hid ((m.take a ++ [(⟨xi, xk, xw⟩ : Nd)] ++ m.drop a).length = k + 1) := Lib.hid (by rw [hlen, List.length_append, ← HM.out]; rfl)
          clear hzz hz hH4 hO4 hB4 hlen hB3 hH3
          go_wp2_with fail
          exact ⟨⟨.slice (some ⟨G, 0, none⟩) (k + 1) cap, k + 1, m.take a ++ [⟨xi, xk, xw⟩] ++ m.drop a, _, rfl, rfl, hlt, by go_num, HO4.out, HB4.out, HL4.out, Lib.hid (H2.out a (by rw [← HM.out]; exact ham) HJ.out.1 HJ.out.2)⟩, by simp [intOf]; omega⟩
    · have hkl : k = l.length := by omega
      obtain ⟨A1, c1, rfl, hR⟩ := hown.read
      have HS : Hid (StbS l m) := Lib.hid (sin_end (by rw [← hkl]; exact HI.out))
      have HO := Lib.hid hown
      have hz : ¬ (k : Int) < (l.length : Int) := by omega
      clear hown hkl HI
      go_wp2_with fail
      go_ret
      exact ⟨m, HS.out, A1, c1, by rw [hmk]; rfl, HO.out, hB⟩
end
end Go.Proofs.YtjokbdhineilcaaGreatDoor
