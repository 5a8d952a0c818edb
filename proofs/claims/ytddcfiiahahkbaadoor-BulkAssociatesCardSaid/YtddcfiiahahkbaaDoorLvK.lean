/-
  The reference of chapter 9: Parts, Count, Load, Merge, Cut. Conditions: what is read can be read.
  Load, Merge and Cut of the reference of chapter 9. Conditions: what is read can be read.
  The example of chapter 9: what Load, Cut and Merge answer. No condition.
-/
import Derived.Test.YtddcfiiahahkbaaDoorLvH
import Derived.Test.YtddcfiiahahkbaaDoorLqF
import Derived.Test.YtddcfiiahahkbaaDoorKdK
import Derived.Test.YtddcfiiahahkbaaDoorKsC
import Derived.Deep.DeepCutAuto
import Derived.Deep.CutBlock
import Derived.BigQuiet
import Derived.Deep.RegionHeld3
namespace Go.Proofs.YtddcfiiahahkbaaDoor
section
open Go.RowKit Go.Maps

/-- Two rows do not lie in one block. -/
def Dis (a b : Value) : Prop := a.ownBlock = none ∨ a.ownBlock ≠ b.ownBlock
theorem Dis.symm {a b : Value} (h : Dis a b) : Dis b a := by
  unfold Dis at *
  rcases h with h | h
  · cases hb : b.ownBlock with
    | none => exact .inl rfl
    | some k => exact .inr (by rw [h]; exact fun e => by cases e)
  · exact .inr (Ne.symm h)
theorem Dis.nil (b : Value) : Dis (.slice none 0 0) b := .inl rfl
/-- A row that stays, beside one that was appended to. -/
theorem Dis.grow {w : World} {base : Nat} {l : List Nd} {v v' u : Value} (h : Dis u v) (hu : OwnN w base u l) (hat : v'.ownBlock = v.ownBlock ∨ ∃ k, w.heap.size ≤ k ∧ v'.ownBlock = some k) : Dis u v' := by
  unfold Dis at *
  rcases hat with e | ⟨k, hk, e⟩
  · rw [e]; exact h
  · cases hb : u.ownBlock with
    | none => exact .inl rfl
    | some r =>
      refine .inr fun e2 => ?_
      have := (hu.lt r hb).2
      rw [e] at e2
      have := Option.some.inj e2
      omega
/-- append of one node: what has turned, and where the row lies. -/
theorem wpList_pushN2 {P : Program} {ops : Array Oper} {rest : List Oper} {o : Oper} {a : Act} {Q : Exit → Act → World → Prop} (hgd : o.guard = none) (s x : Operand) (t : TypeId)
    (ho : o.op = .call { callee := .builtin .append, args := #[s, x], argTypes := #[t, t] })
    (base : Nat) (i : TypeInfo) (ht : P.underlying t = some (.slice 39)) (hi : P.info? 39 = some i) (hz : i.zero = some (.agg #[.int .i64 0, .string ⟨#[]⟩, .int .u32 0])) (hsize : i.size = 3) (hby : i.bytes = 32)
    (v : Value) (l : List Nd) (w0 : World) (f : Nd) (hs : a.eval s = v) (hown : OwnN w0 base v l) (hx : a.eval x = .slice (some ⟨w0.heap.size, 0, none⟩) 1 1) (hlen : l.length < 1000000) (hbase : base ≤ w0.heap.size)
    (h : ∀ v' w', OwnN w' base v' (l ++ [f]) → w0.grownBy w' v.ownBlock → (v'.ownBlock = v.ownBlock ∨ ∃ k, w0.heap.size ≤ k ∧ v'.ownBlock = some k) → wpList P ops Q rest (a.put o.dst v') w') : wpList P ops Q (o :: rest) a (w0.alloc (.cells #[.int .i64 f.id, .string f.key, .int .u32 (f.word : Int)] 39)) := by
  refine wpList_append_own_at _ hgd s x t ho base 39 i (.agg #[.int .i64 0, .string ⟨#[]⟩, .int .u32 0]) 3 32 ht hi hz hsize hby rfl (by decide) v l.length (flatN l) hs (OwnN.below hown ((Below.refl _ _).alloc (Nat.le_refl _) _)) ⟨w0.heap.size, 0, none⟩ 1 1 [.int .i64 f.id, .string f.key, .int .u32 (f.word : Int)] hx rfl ?_ (ones_nd f) (by unfold maxLen; omega) (by omega) (by simp; omega) ?_
  · intro j u hj
    rw [add_at, Nat.zero_add, (Has.new w0 39 #[.int .i64 f.id, .string f.key, .int .u32 (f.word : Int)]).cell, ← Array.getElem?_toList]
    exact hj
  · intro v' w' ho' hg _ hat
    refine h v' w' ?_ ((World.grownBy_alloc w0 _ _).trans hg) (hat.imp id fun e => ⟨w0.heap.size + 1, by omega, by rw [e, World.size_alloc]⟩)
    unfold OwnN
    rw [flatN_snoc, List.length_append]
    exact ho'
theorem grownBy_belowN {w w' : World} {base B : Nat} {v : Value} {l : List Nd} (hg : w.grownBy w' v.ownBlock) (hv : OwnN w base v l) (hB : B ≤ base) (hs : B ≤ w.heap.size) : Below B w w' :=
  ⟨hg.os, hg.tape, hg.output, hg.size, fun j hj => hg.block j (by omega) (fun e => by have := (hv.lt j e.symm).1; omega)⟩
theorem low_snoc {l : List Nd} {q : ByteArray} {k : Nat} (h : k < l.length) : lowL (l.take (k + 1)) q = (if kl l[k].key q = true then lowL (l.take k) q ++ [l[k]] else lowL (l.take k) q) ∧ hghL (l.take (k + 1)) q = (if kl l[k].key q = true then hghL (l.take k) q else hghL (l.take k) q ++ [l[k]]) := by
  unfold lowL hghL
  rw [List.take_succ_eq_append_getElem h, List.filter_append, List.filter_append]
  cases hk : kl l[k].key q <;> simp [hk]
theorem hgh_le (l : List Nd) (q : ByteArray) : (hghL l q).length ≤ l.length := List.length_filter_le _ _
/-- What Parts answers. -/
def PrtP (l : List Nd) (q : ByteArray) (w : World) (e : Ending) (w' : World) : Prop := ∃ v1 v2, e = .returned (.tuple #[v1, v2]) ∧ OwnN w' w.heap.size v1 (lowL l q) ∧ OwnN w' w.heap.size v2 (hghL l q) ∧ Dis v1 v2 ∧ Below w.heap.size w w'
set_option maxRecDepth 100000 in
set_option maxHeartbeats 1600000 in
theorem parts9_any (A : Option Addr) (l : List Nd) (c : Nat) (q : ByteArray) (w : World) (hl : Nds w w.heap.size A l) (hn : l.length ≤ 1000) :
    Calls Tryd.prog 17 #[.slice A l.length c, .string q] w (PrtP l q w) := by
  have HL := Lib.hid hl
  have HSN := Lib.hid (fun (k : Nat) (h : k < l.length) => low_snoc (q := q) h)
  have HLE := Lib.hid (fun (k : Nat) => (⟨Nat.le_trans (low_le _ _) (List.length_take_le' _ _), Nat.le_trans (hgh_le _ _) (List.length_take_le' _ _)⟩ : (lowL (l.take k) q).length ≤ l.length ∧ (hghL (l.take k) q).length ≤ l.length))
  have HF : Hid (lowL (l.take l.length) q = lowL l q ∧ hghL (l.take l.length) q = hghL l q) := Lib.hid (by rw [List.take_length]; exact ⟨rfl, rfl⟩)
  have H0 : Hid (lowL (l.take 0) q = [] ∧ hghL (l.take 0) q = []) := Lib.hid ⟨rfl, rfl⟩
  obtain ⟨inf, hif, hif1, hif2, hif3⟩ := infoN_parts
  obtain ⟨N, hN⟩ : ∃ N, N = l.length := ⟨_, rfl⟩
  have HN := Lib.hid hN
  rw [← hN] at hn HLE ⊢
  clear hl hN
  go_enter Tryd.func17, Tryd.ntmps17
  go_wp2_with fail
  go_loopw [6, 7, 8] (fun va vb vi wr => ∃ (i : Nat) (v1 v2 : Value), vi = .int .i64 (i : Int) ∧ v1 = va ∧ v2 = vb ∧ i ≤ N ∧ OwnN wr w.heap.size v1 (lowL (l.take i) q) ∧ OwnN wr w.heap.size v2 (hghL (l.take i) q) ∧ Dis v1 v2 ∧ Below w.heap.size w wr) (fun _ _ vi _ => N - (intOf vi).toNat)
  case atStart => exact ⟨0, _, _, rfl, rfl, rfl, by omega, by rw [H0.out.1]; exact OwnN.nil _ _, by rw [H0.out.2]; exact OwnN.nil _ _, Dis.nil _, Below.refl _ _⟩
  case round =>
    obtain ⟨i, v1, v2, rfl, rfl, rfl, hi, ho1, ho2, hd, hB⟩ := hrel
    by_cases hlt : i < N
    · have k1 : i < l.length := by rw [← HN.out]; exact hlt
      obtain ⟨b, o, eA, hb, f1, f2, f3⟩ := HL.out.at_ k1
      replace f1 := (hB.cell (p := ⟨b, o + i * 3, none⟩) hb).trans f1
      replace f2 := (hB.cell (p := ⟨b, o + i * 3 + 1, none⟩) hb).trans f2
      replace f3 := (hB.cell (p := ⟨b, o + i * 3 + 2, none⟩) hb).trans f3
      have HSS := Lib.hid (HSN.out i k1)
      have hle := HLE.out i
      subst eA
      generalize l[i] = x at *
      obtain ⟨xi, xk, xw⟩ := x
      simp only at f1 f2 f3 HSS
      have i0 : (0 : Int) ≤ (i : Int) := by omega
      have i1 : (i : Int) < (N : Int) := by omega
      have HO1 := Lib.hid ho1
      have HO2 := Lib.hid ho2
      have HBB := Lib.hid hB
      have HDD := Lib.hid hd
      have hl1 : (lowL (l.take i) q).length < 1000000 := by omega
      have hl2 : (hghL (l.take i) q).length < 1000000 := by omega
      clear ho1 ho2 hB hd hle
      cases hkk : kl xk q with
      | true =>
        have hbl : Op.bytesLess xk.toList q.toList = true := hkk
        rw [hkk] at HSS
        simp only [if_true] at HSS
        clear hkk
        go_wp2_with (at_builtin; refine wpList_pushN2 rfl _ _ 23 rfl w.heap.size inf Tryd.underlying23 hif hif1 hif2 hif3 v1 (lowL (l.take i) q) wr ⟨xi, xk, xw⟩ rfl HO1.out rfl hl1 HBB.out.size ?_; intro v3 w3 ho3 hg3 hat3; have HO3 := Lib.hid ho3; have HO4 := Lib.hid (HO2.out.kept hg3 HDD.out.symm); have HD3 := Lib.hid (HDD.out.symm.grow HO2.out hat3).symm; have HB3 := Lib.hid (HBB.out.trans (grownBy_belowN hg3 HO1.out (Nat.le_refl _) HBB.out.size)); clear ho3 hg3 hat3)
        exact ⟨⟨i + 1, v3, v2, by go_num, rfl, rfl, hlt, by rw [HSS.out.1]; exact HO3.out, by rw [HSS.out.2]; exact HO4.out, HD3.out, HB3.out⟩, by simp [intOf]; omega⟩
      | false =>
        have hbl : Op.bytesLess xk.toList q.toList = false := hkk
        rw [hkk] at HSS
        simp only [Bool.false_eq_true, if_false] at HSS
        clear hkk
        go_wp2_with (at_builtin; refine wpList_pushN2 rfl _ _ 23 rfl w.heap.size inf Tryd.underlying23 hif hif1 hif2 hif3 v2 (hghL (l.take i) q) wr ⟨xi, xk, xw⟩ rfl HO2.out rfl hl2 HBB.out.size ?_; intro v3 w3 ho3 hg3 hat3; have HO3 := Lib.hid ho3; have HO4 := Lib.hid (HO1.out.kept hg3 HDD.out); have HD3 := Lib.hid (HDD.out.grow HO1.out hat3); have HB3 := Lib.hid (HBB.out.trans (grownBy_belowN hg3 HO2.out (Nat.le_refl _) HBB.out.size)); clear ho3 hg3 hat3)
        exact ⟨⟨i + 1, v1, v3, by go_num, rfl, rfl, hlt, by rw [HSS.out.1]; exact HO4.out, by rw [HSS.out.2]; exact HO3.out, HD3.out, HB3.out⟩, by simp [intOf]; omega⟩
    · have ei : i = l.length := by rw [← HN.out]; omega
      have HO1 := Lib.hid ho1
      have HO2 := Lib.hid ho2
      rw [ei, HF.out.1] at HO1
      rw [ei, HF.out.2] at HO2
      have HBB := Lib.hid hB
      have HDD := Lib.hid hd
      clear ho1 ho2 hB hd ei
      go_wp2_with fail
      go_ret2
      exact ⟨v1, v2, rfl, HO1.out, HO2.out, HDD.out, HBB.out⟩
theorem nzK_le (y : Lk) : nzK y ≤ 2 := by
  unfold nzK
  split <;> split <;> omega
theorem sumK_le : ∀ (lv : List Lk), (lv.map nzK).sum ≤ 2 * lv.length
  | [] => by simp
  | y :: lv => by
    have h1 := sumK_le lv
    have h2 := nzK_le y
    simp only [List.map_cons, List.sum_cons, List.length_cons]
    omega
theorem nzL_le {M : Nat} : ∀ {ls : List Ld}, (∀ x ∈ ls, x.levels.length ≤ M) → nzL ls ≤ ls.length * (2 * M)
  | [], _ => by simp [nzL]
  | x :: ls, h => by
    have h1 := nzL_le (ls := ls) fun y hy => h y (List.mem_cons_of_mem _ hy)
    have h2 := sumK_le x.levels
    have h3 := h x List.mem_cons_self
    have h4 : nzL (x :: ls) = (x.levels.map nzK).sum + nzL ls := rfl
    rw [h4, List.length_cons, Nat.add_mul, Nat.one_mul]
    omega
theorem nzL_next {ls : List Ld} {i : Nat} (h : i < ls.length) : nzL (ls.take (i + 1)) = nzL (ls.take i) + (ls[i].levels.map nzK).sum := by
  unfold nzL
  rw [List.take_succ_eq_append_getElem h, List.map_append, List.sum_append]
  simp [nzE]
theorem sumK_next {lv : List Lk} {t : Nat} (h : t < lv.length) : ((lv.take (t + 1)).map nzK).sum = ((lv.take t).map nzK).sum + nzK lv[t] := by
  rw [List.take_succ_eq_append_getElem h, List.map_append, List.sum_append]
  simp
set_option maxRecDepth 100000 in
set_option maxHeartbeats 1600000 in
theorem rcount_any (A : Option Addr) (ls : List Ld) (c : Nat) (w : World) (hl : Lds w w.heap.size A ls) (hn : ls.length ≤ 1000) (hM : ∀ x ∈ ls, x.levels.length ≤ 1000) :
    Calls Tryd.prog 70 #[.slice A ls.length c] w fun e w' => e = .returned (.int .i64 (nzL ls : Int)) ∧ w = w' := by
  have HL := Lib.hid hl
  have HM := Lib.hid hM
  have HNX := Lib.hid (fun (i : Nat) (h : i < ls.length) => nzL_next h)
  have HF : Hid (nzL (ls.take ls.length) = nzL ls) := Lib.hid (by rw [List.take_length])
  have HB := Lib.hid (fun (i : Nat) => Nat.le_trans (nzL_le (ls := ls.take i) (M := 1000) fun x hx => hM x (List.mem_of_mem_take hx)) (Nat.mul_le_mul_right _ (by rw [List.length_take]; omega : (ls.take i).length ≤ 1000)))
  generalize hR : nzL ls = R at *
  obtain ⟨N, hN⟩ : ∃ N, N = ls.length := ⟨_, rfl⟩
  have HN := Lib.hid hN
  rw [← hN] at hn ⊢
  clear hl hM hN hR
  go_enter Tryd.func70, Tryd.ntmps70
  go_wp2_with fail
  go_loopw [3, 4] (fun vn vi wr => ∃ i n : Nat, vi = .int .i64 (i : Int) ∧ vn = .int .i64 (n : Int) ∧ i ≤ N ∧ Hid (n = nzL (ls.take i)) ∧ w = wr) (fun _ vi _ => N - (intOf vi).toNat)
  case atStart => exact ⟨0, 0, rfl, rfl, by omega, Lib.hid rfl, rfl⟩
  case round =>
    obtain ⟨i, n, rfl, rfl, hi, HI, rfl⟩ := hrel
    by_cases hlt : i < N
    · have k1 : i < ls.length := by rw [← HN.out]; exact hlt
      obtain ⟨b, o, eA, hb, f1, A', c', f2, hc1, hc2, hlk⟩ := HL.out.at_ k1
      have hlv := HM.out _ (List.getElem_mem k1)
      have HXX := Lib.hid (HNX.out i k1)
      have hnb := HB.out i
      rw [← HI.out] at hnb
      subst eA
      generalize ls[i].levels = lv at *
      have HSN := Lib.hid (fun (t : Nat) (h : t < lv.length) => sumK_next h)
      have HSB := Lib.hid (fun (t : Nat) => Nat.le_trans (sumK_le (lv.take t)) (Nat.mul_le_mul_left 2 (List.length_take_le' t lv)))
      have HSF : Hid (((lv.take lv.length).map nzK).sum = (lv.map nzK).sum) := Lib.hid (by rw [List.take_length])
      have HS0 : Hid (((lv.take 0).map nzK).sum = 0) := Lib.hid rfl
      have HLK := Lib.hid hlk
      obtain ⟨LN, hLN⟩ : ∃ n, n = lv.length := ⟨_, rfl⟩
      have HLN := Lib.hid hLN
      rw [← hLN] at f2 hlv hc1 HSB
      have i0 : (0 : Int) ≤ (i : Int) := by omega
      have i1 : (i : Int) < (N : Int) := by omega
      clear hlk hLN
      go_wp2_with fail
      go_loopw [3, 5] (fun vn vt wz => ∃ t n2 : Nat, vt = .int .i64 (t : Int) ∧ vn = .int .i64 (n2 : Int) ∧ t ≤ LN ∧ Hid (n2 = n + ((lv.take t).map nzK).sum) ∧ w = wz) (fun _ vt _ => LN - (intOf vt).toNat)
      case atStart => exact ⟨0, n, rfl, rfl, by omega, Lib.hid (by rw [HS0.out]; rfl), rfl⟩
      case round =>
        obtain ⟨t, n2, rfl, rfl, ht, HT, rfl⟩ := hrel
        by_cases hltt : t < LN
        · have t1 : t < lv.length := by rw [← HLN.out]; exact hltt
          obtain ⟨b2, o2, eB, hb2, g1, g2⟩ := HLK.out.at_ t1
          have hs := HSB.out t
          have hn2 : n2 ≤ 3000000 := by have := HT.out; omega
          have HXT := Lib.hid (HSN.out t t1)
          subst eB
          generalize lv[t] = y at *
          obtain ⟨yl, yr⟩ := y
          simp only at g1 g2
          have t0 : (0 : Int) ≤ (t : Int) := by omega
          have t2 : (t : Int) < (LN : Int) := by omega
          have hw1 : IntKind.i64.wrap ((n2 : Int) + 1) = (n2 : Int) + 1 := IntWalk.i64_in _ (by omega)
          have hw2 : IntKind.i64.wrap ((n2 : Int) + 1 + 1) = (n2 : Int) + 1 + 1 := IntWalk.i64_in _ (by omega)
          clear hs
          by_cases hl0 : yl = 0
          · have hz1 : (yl != 0) = false := by simp [hl0]
            by_cases hr0 : yr = 0
            · have hz2 : (yr != 0) = false := by simp [hr0]
              have HE : Hid (nzK ⟨yl, yr⟩ = 0) := Lib.hid (by simp [nzK, hl0, hr0])
              clear hl0 hr0
              go_wp2_with fail
              exact ⟨⟨t + 1, n2, by go_num, rfl, hltt, Lib.hid (by rw [HT.out, HXT.out, HE.out]; omega), trivial⟩, by simp [intOf]; omega⟩
            · have hz2 : (yr != 0) = true := by simp [hr0]
              have HE : Hid (nzK ⟨yl, yr⟩ = 1) := Lib.hid (by simp [nzK, hl0, hr0])
              clear hl0 hr0
              go_wp2_with fail
              exact ⟨⟨t + 1, n2 + 1, by go_num, by simp, hltt, Lib.hid (by rw [HT.out, HXT.out, HE.out]; omega), trivial⟩, by simp [intOf]; omega⟩
          · have hz1 : (yl != 0) = true := by simp [hl0]
            by_cases hr0 : yr = 0
            · have hz2 : (yr != 0) = false := by simp [hr0]
              have HE : Hid (nzK ⟨yl, yr⟩ = 1) := Lib.hid (by simp [nzK, hl0, hr0])
              clear hl0 hr0
              go_wp2_with fail
              exact ⟨⟨t + 1, n2 + 1, by go_num, by simp, hltt, Lib.hid (by rw [HT.out, HXT.out, HE.out]; omega), trivial⟩, by simp [intOf]; omega⟩
            · have hz2 : (yr != 0) = true := by simp [hr0]
              have HE : Hid (nzK ⟨yl, yr⟩ = 2) := Lib.hid (by simp [nzK, hl0, hr0])
              clear hl0 hr0
              go_wp2_with fail
              exact ⟨⟨t + 1, n2 + 2, by go_num, by simp; omega, hltt, Lib.hid (by rw [HT.out, HXT.out, HE.out]; omega), trivial⟩, by simp [intOf]; omega⟩
        · have et : t = lv.length := by rw [← HLN.out]; omega
          have HZ : Hid (n2 = nzL (ls.take (i + 1))) := Lib.hid (by rw [HXX.out, ← HI.out, HT.out, et, HSF.out])
          clear et
          go_wp2_with fail
          exact ⟨⟨i + 1, n2, by go_num, rfl, hlt, Lib.hid HZ.out, trivial⟩, by simp [intOf]; omega⟩
    · have ei : i = ls.length := by rw [← HN.out]; omega
      have HZ : Hid (n = R) := Lib.hid (by rw [HI.out, ei, HF.out])
      clear ei
      go_wp2_with fail
      go_ret
      exact ⟨by rw [← HZ.out]; rfl, rfl⟩
end
section
open Go.RowKit Go.Maps

set_option maxRecDepth 100000 in
set_option maxHeartbeats 3200000 in
theorem rload_ok (A : Option Addr) (l : List Nd) (c m : Nat) (w : World) (hl : Nds w w.heap.size A l) (hchk : chkV l = 0) (hm : m ≤ 16) :
    Calls Tryd.prog 39 #[.slice A l.length c, .int .i64 (m : Int)] w (LoadP l (m : Int) w) := by
  have hlv : lvB (m : Int) = true := by simp [lvB]; omega
  have HI := Lib.hid (fun (W : World) => (rLevel_any (m : Int) W).mono fun e w' h => (⟨by rw [h.1, hlv], h.2⟩ : e = .returned (.bool true) ∧ W = w'))
  have HC := Lib.hid ((ris_any A l c w hl (fun x hx => (wide_of hchk x hx).2)).mono fun e w' h => (⟨by rw [h.1, hchk]; rfl, h.2⟩ : e = .returned (.bool true) ∧ Below w.heap.size w w'))
  have HBD := Lib.hid (fun (W : World) (j : Below w.heap.size w W) => rbuild_ok A l c m W ((hl.below j).more j.size) hchk hm)
  have HCT := Lib.hid (fun (W : World) (A' : Option Addr) (c' : Nat) (h : Lds W W.heap.size A' (bldV l (m + 1))) => rcount_any A' (bldV l (m + 1)) c' W h (by rw [bld_len]; have := (chkV_zero.1 hchk).1; omega) (fun x hx => by rw [bld_lev l _ x hx]; omega))
  have HE8 : Hid (ordB l = false → ldE l (m : Int) = 8) := Lib.hid fun h => by unfold ldE; simp [hlv, hchk, h]
  have HE0 : Hid (ordB l = true → ldE l (m : Int) = 0) := Lib.hid fun h => by unfold ldE; simp [hlv, hchk, h]
  have HMM : Hid (((m : Int) + 1).toNat = m + 1) := Lib.hid (by omega)
  have hsl := (chkV_zero.1 hchk).1
  have HOY : Hid ((∀ j, j + 1 < l.length → kl (kyAt l (j + 1)) (kyAt l j) = false) → ordB l = true) := Lib.hid fun h => ordB_true.2 h
  have HON : Hid (∀ i, i + 1 < l.length → kl (kyAt l (i + 1)) (kyAt l i) = true → ordB l = false) := Lib.hid fun i hi h => ordB_false hi h
  have HKY : Hid (∀ i (h : i < l.length), kyAt l i = l[i].key) := Lib.hid fun i h => kyAt_lt h
  have HL := Lib.hid hl
  obtain ⟨N, hN⟩ : ∃ N, N = l.length := ⟨_, rfl⟩
  have HN := Lib.hid hN
  rw [← hN] at HC HBD hsl ⊢
  clear hl hchk hlv hN
  go_enter Tryd.func39, Tryd.ntmps39
  go_wp2_with fail
  refine (HI.out _).mono ?_
  rintro e w1 ⟨rfl, rfl⟩
  go_wp2_with fail
  refine (HC.out).mono ?_
  rintro e w1 ⟨rfl, hb1⟩
  have HB1 := Lib.hid hb1
  clear hb1 HC HI
  go_wp2_with fail
  go_loopw [7] (fun vi wr => ∃ i : Nat, vi = .int .i64 (i : Int) ∧ 1 ≤ i ∧ i ≤ 65 ∧ Hid (∀ j : Nat, j + 1 < i → j + 1 < l.length → kl (kyAt l (j + 1)) (kyAt l j) = false) ∧ Below w.heap.size w wr) (fun vi _ => 65 - (intOf vi).toNat)
  case atStart => exact ⟨1, rfl, by omega, by omega, Lib.hid fun j h1 _ => by omega, HB1.out⟩
  case round =>
    clear HB1
    obtain ⟨i, rfl, hi1, hi2, HS, hB⟩ := hrel
    by_cases hlt : i < N
    · obtain ⟨k, rfl⟩ : ∃ k, i = k + 1 := ⟨i - 1, by omega⟩
      have k1 : k + 1 < l.length := by rw [← HN.out]; exact hlt
      obtain ⟨b, o, eA, hb, f1, f2, f3⟩ := HL.out.at_ k1
      obtain ⟨b2, o2, eB, -, g1, g2, g3⟩ := HL.out.at_ (show k < l.length by omega)
      rw [eA] at eB
      injection eB with eB
      injection eB with eB1 eB2
      subst eB1 eB2
      have HK1 := Lib.hid (HKY.out (k + 1) k1)
      have HK2 := Lib.hid (HKY.out k (by omega))
      have HON1 := Lib.hid (HON.out k k1)
      replace f2 := (hB.cell (p := ⟨b, o + (k + 1) * 3 + 1, none⟩) hb).trans f2
      replace g2 := (hB.cell (p := ⟨b, o + k * 3 + 1, none⟩) hb).trans g2
      subst eA
      generalize l[k + 1].key = xk at *
      generalize l[k].key = yk at *
      have hcast : ((k + 1 : Nat) : Int) = (k : Int) + 1 := by omega
      rw [hcast]
      have ek : ((k : Int) + 1).toNat = k + 1 := by omega
      have i0 : (0 : Int) ≤ (k : Int) + 1 := by omega
      have i1 : (k : Int) + 1 < (N : Int) := by omega
      have i2 : (0 : Int) ≤ (k : Int) := by omega
      have i3 : (k : Int) < (N : Int) := by omega
      have hm1 : IntKind.i64.wrap (k : Int) = (k : Int) := IntWalk.i64_in _ (by omega)
      have HBB := Lib.hid hB
      clear hB k1 f1 f3 g1 g3
      cases hk : kl xk yk with
      | true =>
        have hbl : Op.bytesLess xk.toList yk.toList = true := hk
        have HZ : Hid (ldE l (m : Int) = 8) := Lib.hid (HE8.out (HON1.out (by rw [HK1.out, HK2.out]; exact hk)))
        clear hk hcast
        go_upto_region 8 with fail
        go_quiet (fail)
        go_wp2_with fail
        go_ret3
        exact .inl ⟨by rw [HZ.out]; decide, by rw [HZ.out]; rfl, below_drw HBB.out nq⟩
      | false =>
        have hbl : Op.bytesLess xk.toList yk.toList = false := hk
        have HS2 : Hid (∀ j : Nat, j + 1 < k + 1 + 1 → j + 1 < l.length → kl (kyAt l (j + 1)) (kyAt l j) = false) := Lib.hid fun j h1 h2 => by
          by_cases e : j = k
          · subst e; rw [HK1.out, HK2.out]; exact hk
          · exact HS.out j (by omega) h2
        clear hk hcast
        go_upto_region 8 with fail
        go_quiet (fail)
        have HB2 := Lib.hid (below_drw HBB.out nq)
        generalize wr.drewN nq = WQ at *
        have hw2 : IntKind.i64.wrap ((k : Int) + 1 + 1) = (k : Int) + 1 + 1 := IntWalk.i64_in _ (by omega)
        go_wp2_with fail
        exact ⟨⟨k + 1 + 1, by simp, by omega, by omega, HS2, HB2.out⟩, by simp [intOf]; omega⟩
    · have HZ : Hid (ordB l = true) := Lib.hid (HOY.out fun j hj => HS.out j (by have := HN.out; omega) hj)
      have HBB := Lib.hid (HBD.out wr hB)
      have HBW := Lib.hid hB
      clear hB
      go_wp2_with fail
      refine (HBB.out).mono ?_
      rintro e w3 ⟨v, rfl, hD, hb3⟩
      obtain ⟨A3, c3, hv3, _, _, hR⟩ := hD.read
      have HCC := Lib.hid (HCT.out w3 A3 c3 hR)
      have HB3 := Lib.hid (HBW.out.trans (hb3.mono HBW.out.size))
      have HDD := Lib.hid (hD.low HBW.out.size)
      subst hv3
      have HEE := Lib.hid (HE0.out HZ.out)
      have HFIN : Hid (∀ e w', (e = .returned (.tuple #[.slice A3 (bldV l (m + 1)).length c3, .int .i64 (nzL (bldV l (m + 1)) : Int), .int .i64 0]) ∧ w3 = w') → LoadP l (m : Int) w e w') := Lib.hid fun e w' ⟨h1, h2⟩ => by
        subst h2
        exact .inr ⟨HEE.out, by rw [HMM.out]; exact ⟨_, h1, HDD.out, HB3.out⟩⟩
      generalize nzL (bldV l (m + 1)) = cn at *
      generalize (bldV l (m + 1)).length = rn at *
      clear hD hb3 hR HBB HBD HCT
      go_wp2_with fail
      refine (HCC.out).mono ?_
      rintro e w4 ⟨rfl, rfl⟩
      go_wp2_with fail
      go_ret3
      exact HFIN.out _ _ ⟨rfl, rfl⟩
def Err3n (E : Int) (w : World) (e : Ending) (w' : World) : Prop := e = .returned (.tuple #[.slice none 0 0, .int .i64 0, .int .i64 E]) ∧ Below w.heap.size w w'
set_option maxRecDepth 100000 in
set_option maxHeartbeats 1600000 in
theorem rload_any (A : Option Addr) (l : List Nd) (c : Nat) (h : Int) (w : World) (hl : Nds w w.heap.size A l) (hwd : ∀ x ∈ l, x.word < 4294967296) :
    Calls Tryd.prog 39 #[.slice A l.length c, .int .i64 h] w (LoadP l h w) := by
  by_cases h1 : lvB h = true
  · by_cases h2 : chkV l = 0
    · obtain ⟨m, rfl⟩ : ∃ m : Nat, h = (m : Int) := ⟨h.toNat, by have : 0 ≤ h := by { have := h1; simp [lvB] at this; omega }; omega⟩
      exact rload_ok A l c m w hl h2 (by have := h1; simp [lvB] at this; omega)
    · have he : ldE l h = 1 := by unfold ldE; simp [h1, h2]
      have HI := Lib.hid (rLevel_any h w)
      rw [h1] at HI
      have HC := Lib.hid ((ris_any A l c w hl hwd).mono fun e w' k => (⟨by rw [k.1]; simp [h2], k.2⟩ : e = .returned (.bool false) ∧ Below w.heap.size w w'))
      refine (show Calls Tryd.prog 39 _ w (Err3n 1 w) from ?_).mono fun e w' k => .inl ⟨by rw [he]; decide, by rw [he]; exact k.1, k.2⟩
      clear hl hwd h1 he h2
      generalize l.length = n at *
      go_enter Tryd.func39, Tryd.ntmps39
      go_wp2_with fail
      refine (HI.out).mono ?_
      rintro e w1 ⟨rfl, rfl⟩
      go_wp2_with fail
      refine (HC.out).mono ?_
      rintro e w1 ⟨rfl, hb1⟩
      go_wp2_with fail
      go_ret3
      exact ⟨rfl, hb1⟩
  · have h1' : lvB h = false := by simpa using h1
    have he : ldE l h = 2 := by unfold ldE; simp [h1']
    have HI := Lib.hid (rLevel_any h w)
    rw [h1'] at HI
    refine (show Calls Tryd.prog 39 _ w (Err3n 2 w) from ?_).mono fun e w' k => .inl ⟨by rw [he]; decide, by rw [he]; exact k.1, k.2⟩
    clear hl hwd h1 he h1'
    generalize l.length = n
    go_enter Tryd.func39, Tryd.ntmps39
    go_wp2_with fail
    refine (HI.out).mono ?_
    rintro e w1 ⟨rfl, rfl⟩
    go_wp2_with fail
    go_ret3
    exact ⟨rfl, Below.refl _ _⟩
theorem lvB_nat {h : Int} (h1 : lvB h = true) : ∃ m : Nat, h = (m : Int) ∧ m ≤ 16 := ⟨h.toNat, by simp [lvB] at h1; omega, by simp [lvB] at h1; omega⟩
set_option maxRecDepth 100000 in
set_option maxHeartbeats 3200000 in
theorem rmerge_any (A1 A2 A3 A4 : Option Addr) (a b : List Nd) (al bl : List Ld) (c1 c2 c3 c4 : Nat) (h : Int) (w : World) (ha : Nds w w.heap.size A1 a) (hal : Lds w w.heap.size A2 al) (hb : Nds w w.heap.size A3 b) (hbl : Lds w w.heap.size A4 bl) (hwa : ∀ x ∈ a, x.word < 4294967296) (hwb : ∀ x ∈ b, x.word < 4294967296) (hn1 : al.length ≤ 1000000) (hn2 : bl.length ≤ 1000000) :
    Calls Tryd.prog 22 #[.slice A1 a.length c1, .slice A2 al.length c2, .slice A3 b.length c3, .slice A4 bl.length c4, .int .i64 h] w (MergeP a al b bl h w) := by
  have HI := Lib.hid (rLevel_any h w)
  have HE1 := Lib.hid (rexact_any A1 A2 a al c1 c2 h w ha hal hn1 hwa)
  have HE2 := Lib.hid (fun (W : World) (j : Below w.heap.size w W) => rexact_any A3 A4 b bl c3 c4 h W ((hb.below j).more j.size) ((hbl.below j).more j.size) hn2 hwb)
  rcases mgE_cases a al b bl h with ⟨h1, he⟩ | ⟨h1, h2, he⟩ | ⟨h1, h2, h3, he⟩ | ⟨h1, h2, h3, he⟩
  · refine (show Calls Tryd.prog 22 _ w (ErrP 2 w) from ?_).mono fun e w' k => .inl ⟨by rw [he]; decide, by rw [he]; exact k.1, k.2⟩
    rw [h1] at HI
    clear ha hal hb hbl hwa hwb hn1 hn2 h1 he HE1 HE2
    generalize a.length = an
    generalize al.length = aln
    generalize b.length = bn
    generalize bl.length = bln
    go_enter Tryd.func22, Tryd.ntmps22
    go_wp2_with fail
    refine (HI.out).mono ?_
    rintro e w1 ⟨rfl, rfl⟩
    go_wp2_with fail
    go_ret2
    exact ⟨rfl, Below.refl _ _⟩
  · refine (show Calls Tryd.prog 22 _ w (ErrP 1 w) from ?_).mono fun e w' k => .inl ⟨by rw [he]; decide, by rw [he]; exact k.1, k.2⟩
    rw [h1] at HI
    rw [h2] at HE1
    clear ha hal hb hbl hwa hwb hn1 hn2 h1 h2 he HE2
    generalize a.length = an at *
    generalize al.length = aln at *
    generalize b.length = bn
    generalize bl.length = bln
    go_enter Tryd.func22, Tryd.ntmps22
    go_wp2_with fail
    refine (HI.out).mono ?_
    rintro e w1 ⟨rfl, rfl⟩
    go_wp2_with fail
    refine (HE1.out).mono ?_
    rintro e w1 ⟨rfl, hb1⟩
    go_wp2_with fail
    go_ret2
    exact ⟨rfl, hb1⟩
  · refine (show Calls Tryd.prog 22 _ w (ErrP 1 w) from ?_).mono fun e w' k => .inl ⟨by rw [he]; decide, by rw [he]; exact k.1, k.2⟩
    rw [h1] at HI
    rw [h2] at HE1
    rw [h3] at HE2
    clear ha hal hb hbl hwa hwb hn1 hn2 h1 h2 h3 he
    generalize a.length = an at *
    generalize al.length = aln at *
    generalize b.length = bn at *
    generalize bl.length = bln at *
    go_enter Tryd.func22, Tryd.ntmps22
    go_wp2_with fail
    refine (HI.out).mono ?_
    rintro e w1 ⟨rfl, rfl⟩
    go_wp2_with fail
    refine (HE1.out).mono ?_
    rintro e w1 ⟨rfl, hb1⟩
    have HB1 := Lib.hid hb1
    clear hb1
    go_wp2_with fail
    refine (HE2.out _ HB1.out).mono ?_
    rintro e w2 ⟨rfl, hb2⟩
    have HB2 := Lib.hid (HB1.out.trans (hb2.mono HB1.out.size))
    clear hb2
    go_wp2_with fail
    go_ret2
    exact ⟨rfl, HB2.out⟩
  · obtain ⟨m, rfl, hm⟩ := lvB_nat h1
    have hna := (chkV_zero.1 (exaB_true h2).1).1
    have hnb := (chkV_zero.1 (exaB_true h3).1).1
    have HA := Lib.hid ha
    have HB := Lib.hid hb
    have HCK := Lib.hid (fun (W : World) (A : Option Addr) (c : Nat) (h : Nds W W.heap.size A (a ++ b)) => rcheck_any A (a ++ b) c W h (fun x hx => (List.mem_append.1 hx).elim (hwa x) (hwb x)))
    have HBD := Lib.hid (fun (W : World) (A : Option Addr) (c : Nat) (h : Nds W W.heap.size A (a ++ b)) (hc : chkV (a ++ b) = 0) => rbuild_ok A (a ++ b) c m W h hc hm)
    have HR1 : Hid (∀ e w', chkV (a ++ b) ≠ 0 → ErrP (chkV (a ++ b)) w e w' → MergeP a al b bl (m : Int) w e w') := Lib.hid fun e w' hz k => .inl ⟨by rw [he]; exact hz, by rw [he]; exact k.1, k.2⟩
    have HR2 : Hid (∀ e w', chkV (a ++ b) = 0 → MgOk (bldV (a ++ b) (m + 1)) w e w' → MergeP a al b bl (m : Int) w e w') := Lib.hid fun e w' hz k => .inr ⟨by rw [he, hz], by rw [show ((m : Int) + 1).toNat = m + 1 by omega]; exact k⟩
    obtain ⟨inf, hif, hif1, hif2, hif3⟩ := infoN_parts
    obtain ⟨an, han⟩ : ∃ n, n = a.length := ⟨_, rfl⟩
    obtain ⟨bn, hbn⟩ : ∃ n, n = b.length := ⟨_, rfl⟩
    have HAN := Lib.hid han
    have HBN := Lib.hid hbn
    have HLL : Hid ((a ++ b).length = an + bn) := Lib.hid (by rw [List.length_append, ← han, ← hbn])
    have HNL : Hid (([] : List Nd) ++ a ++ b = a ++ b) := Lib.hid rfl
    rw [HLL.out] at HCK HBD
    rw [← han] at HE1 hna ⊢
    rw [← hbn] at HE2 hnb ⊢
    rw [h1] at HI
    rw [h2] at HE1
    rw [h3] at HE2
    generalize hcv : chkV (a ++ b) = cv at *
    generalize bldV (a ++ b) (m + 1) = R at *
    clear ha hal hb hbl hwa hwb hn1 hn2 h1 h2 h3 he han hbn
    generalize al.length = aln at *
    generalize bl.length = bln at *
    refine (show Calls Tryd.prog 22 _ w (fun e w' => (cv ≠ 0 ∧ ErrP cv w e w') ∨ (cv = 0 ∧ MgOk R w e w')) from ?_).mono fun e w' k => k.elim (fun k => HR1.out e w' k.1 k.2) (fun k => HR2.out e w' k.1 k.2)
    clear hcv HR1 HR2
    go_enter Tryd.func22, Tryd.ntmps22
    go_wp2_with fail
    refine (HI.out).mono ?_
    rintro e w1 ⟨rfl, rfl⟩
    go_wp2_with fail
    refine (HE1.out).mono ?_
    rintro e w1 ⟨rfl, hb1⟩
    have HB1 := Lib.hid hb1
    clear hb1 HE1 HI
    go_wp2_with fail
    refine (HE2.out _ HB1.out).mono ?_
    rintro e w2 ⟨rfl, hb2⟩
    have HB2 := Lib.hid (HB1.out.trans (hb2.mono HB1.out.size))
    clear hb2 HE2 HB1
    have hnil := OwnN.nil w2 w2.heap.size
    go_wp2_with (first | (at_builtin; refine wpList_pushNs rfl _ _ 23 rfl w2.heap.size inf Tryd.underlying23 hif hif1 hif2 hif3 v3 ([] ++ a) rfl ho3 w.heap.size A3 b bn c3 HBN.out.symm rfl (HB.out.below (HB2.out.trans (hb3.mono HB2.out.size))) (by simp; have := HAN.out; omega) hb3.size ?_; intro v4 w4 ho4 hb4) | (at_builtin; refine wpList_pushNs rfl _ _ 23 rfl w2.heap.size inf Tryd.underlying23 hif hif1 hif2 hif3 (.slice none 0 0) [] rfl hnil w.heap.size A1 a an c1 HAN.out.symm rfl (HA.out.below HB2.out) (by simp; omega) (Nat.le_refl _) ?_; intro v3 w3 ho3 hb3))
    have HB4 := Lib.hid (HB2.out.trans ((hb3.trans hb4).mono HB2.out.size))
    rw [HNL.out] at ho4
    obtain ⟨A5, c5, rfl, hnd5⟩ := ho4.read
    have HN5 := Lib.hid hnd5
    rw [HLL.out]
    have HCC := Lib.hid (HCK.out w4 A5 c5 HN5.out)
    clear ho3 ho4 hb3 hb4 hnd5 hnil HB2 HCK
    refine (HCC.out).mono ?_
    rintro e w5 ⟨rfl, hb5⟩
    have HB5 := Lib.hid (HB4.out.trans (hb5.mono HB4.out.size))
    have HN6 := Lib.hid ((HN5.out.below hb5).more hb5.size)
    clear hb5 HCC
    by_cases hz : cv = 0
    · subst hz
      have HBB := Lib.hid (HBD.out w5 A5 c5 HN6.out rfl)
      go_wp2_with fail
      refine (HBB.out).mono ?_
      rintro e w6 ⟨v, rfl, hD, hb6⟩
      have HDD := Lib.hid (hD.low HB5.out.size)
      have HB6 := Lib.hid (HB5.out.trans (hb6.mono HB5.out.size))
      clear hD hb6 HBB
      go_wp2_with fail
      go_ret2
      exact ⟨v, rfl, HDD.out, HB6.out⟩
    · have hne : (cv != 0) = true := by simpa using hz
      go_wp2_with fail
      go_ret2
      exact .inl ⟨hz, rfl, HB5.out⟩
set_option maxRecDepth 100000 in
set_option maxHeartbeats 3200000 in
theorem rcut_any (A A2 : Option Addr) (l : List Nd) (k : List Ld) (q : ByteArray) (c c2 : Nat) (h : Int) (w : World) (hl : Nds w w.heap.size A l) (hk : Lds w w.heap.size A2 k) (hn : k.length ≤ 1000000) (hwd : ∀ x ∈ l, x.word < 4294967296) :
    Calls Tryd.prog 25 #[.slice A l.length c, .slice A2 k.length c2, .string q, .int .i64 h] w (CutP l k q h w) := by
  have HI := Lib.hid (rLevel_any h w)
  have HE := Lib.hid (rexact_any A A2 l k c c2 h w hl hk hn hwd)
  have HV := Lib.hid (fun (W : World) => vk_ref q W)
  rcases ctE_cases l k q h with ⟨h1, he⟩ | ⟨h1, h2, he⟩ | ⟨h1, h2, h3, he⟩ | ⟨h1, h2, h3, he⟩
  · refine (show Calls Tryd.prog 25 _ w (Err3 2 w) from ?_).mono fun e w' k => .inl ⟨by rw [he]; decide, by rw [he]; exact k.1, k.2⟩
    rw [h1] at HI
    clear hl hk hn hwd h1 he HE HV
    generalize l.length = an
    generalize k.length = kn
    go_enter Tryd.func25, Tryd.ntmps25
    go_wp2_with fail
    refine (HI.out).mono ?_
    rintro e w1 ⟨rfl, rfl⟩
    go_wp2_with fail
    go_ret3
    exact ⟨rfl, Below.refl _ _⟩
  · refine (show Calls Tryd.prog 25 _ w (Err3 1 w) from ?_).mono fun e w' k => .inl ⟨by rw [he]; decide, by rw [he]; exact k.1, k.2⟩
    rw [h1] at HI
    rw [h2] at HE
    clear hl hk hn hwd h1 h2 he HV
    generalize l.length = an at *
    generalize k.length = kn at *
    go_enter Tryd.func25, Tryd.ntmps25
    go_wp2_with fail
    refine (HI.out).mono ?_
    rintro e w1 ⟨rfl, rfl⟩
    go_wp2_with fail
    refine (HE.out).mono ?_
    rintro e w1 ⟨rfl, hb1⟩
    go_wp2_with fail
    go_ret3
    exact ⟨rfl, hb1⟩
  · refine (show Calls Tryd.prog 25 _ w (Err3 1 w) from ?_).mono fun e w' k => .inl ⟨by rw [he]; decide, by rw [he]; exact k.1, k.2⟩
    rw [h1] at HI
    rw [h2] at HE
    rw [h3] at HV
    clear hl hk hn hwd h1 h2 h3 he
    generalize l.length = an at *
    generalize k.length = kn at *
    go_enter Tryd.func25, Tryd.ntmps25
    go_wp2_with fail
    refine (HI.out).mono ?_
    rintro e w1 ⟨rfl, rfl⟩
    go_wp2_with fail
    refine (HE.out).mono ?_
    rintro e w1 ⟨rfl, hb1⟩
    go_wp2_with fail
    refine (HV.out _).mono ?_
    rintro e w2 ⟨rfl, rfl⟩
    go_wp2_with fail
    go_ret3
    exact ⟨rfl, hb1⟩
  · obtain ⟨m, rfl, hm⟩ := lvB_nat h1
    have hc := (exaB_true h2).1
    have hsl := (chkV_zero.1 hc).1
    refine (show Calls Tryd.prog 25 _ w (CtOk (bldV (lowL l q) (m + 1)) (bldV (hghL l q) (m + 1)) w) from ?_).mono fun e w' k => .inr ⟨he, by rw [show ((m : Int) + 1).toNat = m + 1 by omega]; exact k⟩
    have HPT := Lib.hid (fun (W : World) (j : Below w.heap.size w W) => parts9_any A l c q W ((hl.below j).more j.size) (by omega))
    have HB1 := Lib.hid (fun (W : World) (A' : Option Addr) (c' : Nat) (h : Nds W W.heap.size A' (lowL l q)) => rbuild_ok A' (lowL l q) c' m W h (chk_sub hc List.filter_sublist) hm)
    have HB2 := Lib.hid (fun (W : World) (A' : Option Addr) (c' : Nat) (h : Nds W W.heap.size A' (hghL l q)) => rbuild_ok A' (hghL l q) c' m W h (chk_sub hc List.filter_sublist) hm)
    rw [h1] at HI
    rw [h2] at HE
    rw [h3] at HV
    unfold PrtP at HPT
    generalize bldV (lowL l q) (m + 1) = R1 at *
    generalize bldV (hghL l q) (m + 1) = R2 at *
    generalize lowL l q = lo at *
    generalize hghL l q = hi at *
    clear hl hk hn hwd h1 h2 h3 he hc hsl
    generalize l.length = an at *
    generalize k.length = kn at *
    go_enter Tryd.func25, Tryd.ntmps25
    go_wp2_with fail
    refine (HI.out).mono ?_
    rintro e w1 ⟨rfl, rfl⟩
    go_wp2_with fail
    refine (HE.out).mono ?_
    rintro e w1 ⟨rfl, hb1⟩
    have HBW1 := Lib.hid hb1
    clear hb1 HE HI
    go_wp2_with fail
    refine (HV.out _).mono ?_
    rintro e w2 ⟨rfl, rfl⟩
    go_wp2_with fail
    refine (HPT.out _ HBW1.out).mono ?_
    rintro e w2 ⟨v1, v2, rfl, ho1, ho2, -, hb2⟩
    obtain ⟨A5, c5, rfl, hn5⟩ := ho1.read
    obtain ⟨A6, c6, rfl, hn6⟩ := ho2.read
    have HN6 := Lib.hid hn6
    have HBW2 := Lib.hid (HBW1.out.trans (hb2.mono HBW1.out.size))
    have HBB := Lib.hid (HB1.out w2 A5 c5 hn5)
    generalize lo.length = lon at *
    obtain ⟨hin, hhin⟩ : ∃ n, n = hi.length := ⟨_, rfl⟩
    rw [← hhin] at HB2 ⊢
    clear ho1 ho2 hb2 hn5 hn6 HPT HB1 hhin
    go_wp2_with fail
    refine (HBB.out).mono ?_
    rintro e w3 ⟨v3, rfl, hD3, hb3⟩
    have HD3 := Lib.hid (hD3.low HBW2.out.size)
    have HBW3 := Lib.hid (HBW2.out.trans (hb3.mono HBW2.out.size))
    have HBC := Lib.hid (HB2.out w3 A6 c6 ((HN6.out.below hb3).more hb3.size))
    clear hD3 hb3 HBB HB2
    go_wp2_with fail
    refine (HBC.out).mono ?_
    rintro e w4 ⟨v4, rfl, hD4, hb4⟩
    have HD4 := Lib.hid (hD4.low HBW3.out.size)
    have HD5 := Lib.hid (HD3.out.below hb4)
    have HBW4 := Lib.hid (HBW3.out.trans (hb4.mono HBW3.out.size))
    clear hD4 hb4 HBC
    go_wp2_with fail
    go_ret3
    exact ⟨v3, v4, rfl, HD5.out, HD4.out, HBW4.out⟩
end
section
open Go.RowKit Go.Maps

theorem exa_self {l : List Nd} (hc : chkV l = 0) {m : Nat} (hm : m ≤ 16) : exaB l (bldV l (m + 1)) (m : Int) = true := by
  unfold exaB
  rw [bldE_ok hc (by simp [lvB]; omega), show ((m : Int) + 1).toNat = m + 1 by omega]
  simp
def one9 : List Nd := [⟨1, ⟨#[97]⟩, 0⟩]
def oth9 : List Nd := [⟨2, ⟨#[98]⟩, 1⟩]
def two9 : List Nd := [⟨1, ⟨#[97]⟩, 0⟩, ⟨2, ⟨#[98]⟩, 1⟩]
theorem v_ok : chkV two9 = 0 := by
  refine chkV_zero.2 ⟨by decide, by decide +kernel, ?_⟩
  simp [Nd.apart, two9]
theorem v_srt : srt two9 = two9 := (srt_of ⟨List.Perm.refl _, by decide +kernel⟩ (chkV_zero.1 v_ok).2.2).symm
theorem v_bld : bldV two9 2 = [⟨1, [⟨0, 2⟩, ⟨0, 0⟩]⟩, ⟨2, [⟨1, 0⟩, ⟨0, 0⟩]⟩] := by
  unfold bldV
  rw [v_srt]
  decide +kernel
theorem v_nz : nzL (bldV two9 2) = 2 := by rw [v_bld]; rfl
theorem v_low : lowL two9 ⟨#[98]⟩ = one9 := by
  have h1 : kl ⟨#[97]⟩ ⟨#[98]⟩ = true := by decide +kernel
  have h2 : kl ⟨#[98]⟩ ⟨#[98]⟩ = false := kl_irrefl _
  simp [lowL, two9, one9, h1, h2]
theorem v_hgh : hghL two9 ⟨#[98]⟩ = oth9 := by
  have h1 : kl ⟨#[97]⟩ ⟨#[98]⟩ = true := by decide +kernel
  have h2 : kl ⟨#[98]⟩ ⟨#[98]⟩ = false := kl_irrefl _
  simp [hghL, two9, oth9, h1, h2]
theorem v_app : one9 ++ oth9 = two9 := rfl
theorem v_ok1 : chkV one9 = 0 := v_low ▸ chk_sub v_ok List.filter_sublist
theorem v_ok2 : chkV oth9 = 0 := v_hgh ▸ chk_sub v_ok List.filter_sublist
theorem v_one : ∃ lv, bldV one9 2 = [⟨1, lv⟩] := by
  have hs : srt one9 = one9 := (srt_of ⟨List.Perm.refl _, by decide +kernel⟩ (chkV_zero.1 v_ok1).2.2).symm
  unfold bldV
  rw [hs]
  exact ⟨_, rfl⟩
theorem pair_any (w : World) : Calls Tryd.prog 41 #[] w fun e w' => ∃ g, e = .returned (.slice (some ⟨g, 0, none⟩) 2 2) ∧ Nds w' w'.heap.size (some ⟨g, 0, none⟩) two9 ∧ Below w.heap.size w w' := by
  have hb := (Below.refl w.heap.size w).alloc (Nat.le_refl _) (.cells #[.int .i64 1, .string ⟨#[97]⟩, .int .u32 0, .int .i64 2, .string ⟨#[98]⟩, .int .u32 1] 39)
  have h2 : Nds (w.alloc (.cells #[.int .i64 1, .string ⟨#[97]⟩, .int .u32 0, .int .i64 2, .string ⟨#[98]⟩, .int .u32 1] 39)) (w.heap.size + 1) (some ⟨w.heap.size, 0, none⟩) two9 := fun _ => by
    have hN := Has.new w 39 #[.int .i64 1, .string ⟨#[97]⟩, .int .u32 0, .int .i64 2, .string ⟨#[98]⟩, .int .u32 1]
    refine ⟨_, 0, rfl, by omega, fun i hi => ?_⟩
    have h3 : i = 0 ∨ i = 1 := by simp [two9] at hi; omega
    rcases h3 with rfl | rfl
    · exact ⟨hN.cell 0, hN.cell 1, hN.cell 2⟩
    · exact ⟨hN.cell 3, hN.cell 4, hN.cell 5⟩
  go_enter Tryd.func41, Tryd.ntmps41
  go_wp2_with fail
  go_ret
  exact ⟨_, rfl, by rw [World.size_alloc]; exact h2, hb⟩
set_option maxRecDepth 100000 in
set_option maxHeartbeats 3200000 in
theorem sane9_any (w : World) : Calls Tryd.prog 16 #[] w (LawP w) := by
  have HPR := Lib.hid (fun (W : World) => pair_any W)
  have HLD := Lib.hid (fun (W : World) (g : Nat) (h : Nds W W.heap.size (some ⟨g, 0, none⟩) two9) => (by
    have := load_ok (some ⟨g, 0, none⟩) two9 2 1 W h v_ok (by omega) (ord_of v_ok v_srt)
    unfold LoadOk at this
    rw [v_nz] at this
    exact this : Calls Tryd.prog 29 #[.slice (some ⟨g, 0, none⟩) 2 2, .int .i64 1] W fun e w' => ∃ v, e = .returned (.tuple #[v, .int .i64 2, .int .i64 0]) ∧ OwnD w' W.heap.size v (bldV two9 2) ∧ Below W.heap.size W w'))
  have HCT := Lib.hid (fun (W : World) (g : Nat) (A2 : Option Addr) (c2 : Nat) (h : Nds W W.heap.size (some ⟨g, 0, none⟩) two9) (h2 : Lds W W.heap.size A2 (bldV two9 2)) (hc : 2 ≤ c2) (hc2 : c2 ≤ maxLen) => (by
    have hl2 : (bldV two9 2).length = 2 := by rw [bld_len]; rfl
    have := cut_ok (some ⟨g, 0, none⟩) A2 two9 (bldV two9 2) ⟨#[98]⟩ 2 c2 1 W h h2 (by omega) hc2 (exa_self v_ok (m := 1) (by omega)) (by decide +kernel) (by omega)
    rw [hl2, v_low, v_hgh] at this
    exact this : Calls Tryd.prog 24 #[.slice (some ⟨g, 0, none⟩) 2 2, .slice A2 2 c2, .string ⟨#[98]⟩, .int .i64 1] W (CtOk (bldV one9 2) (bldV oth9 2) W)))
  have HMG := Lib.hid (fun (W : World) (g g2 : Nat) (A2 A4 : Option Addr) (c2 c4 : Nat) (h : Nds W W.heap.size (some ⟨g, 0, none⟩) two9) (h' : Nds W W.heap.size (some ⟨g2, 0, none⟩) two9) (h2 : Lds W W.heap.size A2 (bldV one9 2)) (h4 : Lds W W.heap.size A4 (bldV oth9 2)) => (by
    have hl1 : (bldV one9 2).length = 1 := by rw [bld_len]; rfl
    have hl2 : (bldV oth9 2).length = 1 := by rw [bld_len]; rfl
    have := merge_ok (some ⟨g, 0, none⟩) A2 (some ⟨g2, 3, none⟩) A4 one9 oth9 (bldV one9 2) (bldV oth9 2) 2 c2 1 c4 1 W (h.take 1) h2 (h'.cut 1) h4 (exa_self v_ok1 (m := 1) (by omega)) (exa_self v_ok2 (m := 1) (by omega)) (by omega) (by rw [v_app]; exact v_ok)
    rw [hl1, hl2, v_app] at this
    exact this : Calls Tryd.prog 21 #[.slice (some ⟨g, 0, none⟩) 1 2, .slice A2 1 c2, .slice (some ⟨g2, 3, none⟩) 1 1, .slice A4 1 c4, .int .i64 1] W (MgOk (bldV two9 2) W)))
  have HSM := Lib.hid (fun (W : World) (A1 A2 : Option Addr) (c1 c2 : Nat) (h1 : Lds W W.heap.size A1 (bldV two9 2)) (h2 : Lds W W.heap.size A2 (bldV two9 2)) => (by
    have hl2 : (bldV two9 2).length = 2 := by rw [bld_len]; rfl
    have := rsame6_any A1 A2 (bldV two9 2) (bldV two9 2) c1 c2 W h1 h2 (by omega)
    rw [hl2, decide_eq_true rfl] at this
    exact this : Calls Tryd.prog 26 #[.slice A1 2 c1, .slice A2 2 c2] W (BoolN true W)))
  have HL1 : Hid ((bldV two9 2).length = 2 ∧ (bldV one9 2).length = 1 ∧ (bldV oth9 2).length = 1) := Lib.hid (by rw [bld_len, bld_len, bld_len]; exact ⟨rfl, rfl, rfl⟩)
  obtain ⟨lv1, hone⟩ := v_one
  have HON := Lib.hid hone
  generalize bldV two9 2 = R at *
  generalize bldV one9 2 = R1 at *
  generalize bldV oth9 2 = R2 at *
  clear hone
  go_enter Tryd.func16, Tryd.ntmps16
  go_wp2_with fail
  refine (HPR.out _).mono ?_
  rintro e w1 ⟨g1, rfl, hn1, hb1⟩
  have HB1 := Lib.hid hb1
  have HL2 := Lib.hid (HLD.out w1 g1 hn1)
  clear hb1 hn1 HLD
  go_wp2_with fail
  refine (HL2.out).mono ?_
  rintro e w2 ⟨v1, rfl, hD1, hb2⟩
  have HD1 := Lib.hid hD1
  have HB2 := Lib.hid (HB1.out.trans (hb2.mono HB1.out.size))
  obtain ⟨A1, c1, rfl, hc1, hc2, hR1⟩ := hD1.read
  rw [HL1.out.1] at hc1 ⊢
  have HR1 := Lib.hid hR1
  clear hD1 hb2 hR1 HL2 HB1
  go_wp2_with fail
  refine (HPR.out _).mono ?_
  rintro e w3 ⟨g3, rfl, hn3, hb3⟩
  have HB3 := Lib.hid (HB2.out.trans (hb3.mono HB2.out.size))
  have HR3 := Lib.hid ((HR1.out.below hb3).more hb3.size)
  have HCC := Lib.hid (HCT.out w3 g3 A1 c1 hn3 HR3.out hc1 hc2)
  clear hb3 hn3 HCT HB2 HR1
  go_wp2_with fail
  refine (HCC.out).mono ?_
  rintro e w4 ⟨v2, v3, rfl, hD2, hD3, hb4⟩
  have HB4 := Lib.hid (HB3.out.trans (hb4.mono HB3.out.size))
  have HR4 := Lib.hid ((HR3.out.below hb4).more hb4.size)
  obtain ⟨A2, c2, rfl, _, _, hR2⟩ := hD2.read
  obtain ⟨A3, c3, rfl, _, _, hR3⟩ := hD3.read
  rw [HL1.out.2.1, HL1.out.2.2]
  have HS2 := Lib.hid hR2
  have HS3 := Lib.hid hR3
  clear hD2 hD3 hb4 hR2 hR3 HCC HB3 HR3 hc1 hc2
  go_upto_region 3 with fail
  obtain ⟨W0, hW0⟩ : ∃ W0, W0 = w4 := ⟨_, rfl⟩
  have hS0 : Below w4.heap.size w4 w4.drew := (Below.refl _ _).drew
  go_region_held3 (fun W => Below w4.heap.size w4 W) (first | with_reducible exact hS9 | with_reducible exact hS8 | with_reducible exact hS7 | with_reducible exact hS0) (first | (go_at_call 21; refine (HMG.out w8 g7 g8 A2 A3 c2 c3 ((hn7.below hb8).more hb8.size) hn8 ((HS2.out.below hS8).more hS8.size) ((HS3.out.below hS8).more hS8.size)).mono ?_; rintro e w9 ⟨v9, rfl, ho9, hb9⟩; have hS9 := hS8.trans (hb9.mono hS8.size)) | (go_at_call 41; refine (HPR.out w7).mono ?_; rintro e w8 ⟨g8, rfl, hn8, hb8⟩; have hS8 := hS7.trans (hb8.mono hS7.size)) | (go_at_call 41; refine (HPR.out _).mono ?_; rintro e w7 ⟨g7, rfl, hn7, hb7⟩; have hS7 := hS0.trans (hb7.mono hS0.size)))
  have HB9 := Lib.hid (HB4.out.trans (hS9.mono HB4.out.size))
  have hR1 := (HS2.out.below hS9).more hS9.size
  have h01 : 0 < R1.length := by rw [HL1.out.2.1]; decide
  obtain ⟨b, o, eA, -, f1, -⟩ := hR1.at_ h01
  subst eA
  have hid1 : R1[0].id = 1 := by simp [HON.out]
  rw [hid1, Nat.zero_mul, Nat.add_zero] at f1
  obtain ⟨A4, c4, rfl, -, -, hR9⟩ := ho9.read
  have HSS := Lib.hid (HSM.out w9 A1 A4 c1 c4 ((HR4.out.below hS9).more hS9.size) hR9)
  rw [HL1.out.1]
  clear hR1 hR9 ho9 hb9 hb8 hb7 hn7 hn8 hS0 hS7 hS8 hS9 HSM HMG HS2 HS3 HR4 HB4 h01 hid1
  go_wp2_with fail
  refine (HSS.out).mono ?_
  rintro e w10 ⟨rfl, hb10⟩
  have HB10 := Lib.hid (HB9.out.trans (hb10.mono HB9.out.size))
  clear hb10
  go_wp2_with fail
  go_ret
  exact ⟨rfl, HB10.out⟩
end
end Go.Proofs.YtddcfiiahahkbaaDoor
