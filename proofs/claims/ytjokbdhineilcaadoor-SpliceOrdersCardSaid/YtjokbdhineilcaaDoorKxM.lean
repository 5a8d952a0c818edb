/-
  grow of the statements of chapter 10: nodes join one after another. Conditions: the nodes are a roster; the tape is one.
-/
import Derived.Test.YtjokbdhineilcaaDoorLxJ
import Derived.Test.YtjokbdhineilcaaDoorLgJ
import Derived.Test.YtjokbdhineilcaaDoorLnC
import Derived.Deep.DeepCutAuto
import Derived.Deep.CutBlock
namespace Go.Proofs.YtjokbdhineilcaaDoor
open Go.RowKit Go.Maps

/-- append of one node: what has turned, and where the row lies. -/
theorem wpList_pushN10 {P : Program} {ops : Array Oper} {rest : List Oper} {o : Oper} {a : Act} {Q : Exit → Act → World → Prop} (hgd : o.guard = none) (s x : Operand) (t : TypeId)
    (ho : o.op = .call { callee := .builtin .append, args := #[s, x], argTypes := #[t, t] })
    (base : Nat) (i : TypeInfo) (ht : P.underlying t = some (.slice 30)) (hi : P.info? 30 = some i) (hz : i.zero = some (.agg #[.int .i64 0, .string ⟨#[]⟩, .int .u32 0])) (hsize : i.size = 3) (hby : i.bytes = 32)
    (v : Value) (l : List Nd) (w0 : World) (f : Nd) (hs : a.eval s = v) (hown : OwnN w0 base v l) (hx : a.eval x = .slice (some ⟨w0.heap.size, 0, none⟩) 1 1) (hlen : l.length < 1000000) (hbase : base ≤ w0.heap.size)
    (h : ∀ v' w', OwnN w' base v' (l ++ [f]) → w0.grownBy w' v.ownBlock → (v'.ownBlock = v.ownBlock ∨ ∃ k, w0.heap.size ≤ k ∧ v'.ownBlock = some k) → wpList P ops Q rest (a.put o.dst v') w') : wpList P ops Q (o :: rest) a (w0.alloc (.cells #[.int .i64 f.id, .string f.key, .int .u32 (f.word : Int)] 30)) := by
  refine wpList_append_own_at _ hgd s x t ho base 30 i (.agg #[.int .i64 0, .string ⟨#[]⟩, .int .u32 0]) 3 32 ht hi hz hsize hby rfl (by decide) v l.length (flatN l) hs (OwnN.below hown ((Below.refl _ _).alloc (Nat.le_refl _) _)) ⟨w0.heap.size, 0, none⟩ 1 1 [.int .i64 f.id, .string f.key, .int .u32 (f.word : Int)] hx rfl ?_ (ones_nd f) (by unfold maxLen; omega) (by omega) (by simp; omega) ?_
  · intro j u hj
    rw [add_at, Nat.zero_add, (Has.new w0 30 #[.int .i64 f.id, .string f.key, .int .u32 (f.word : Int)]).cell, ← Array.getElem?_toList]
    exact hj
  · intro v' w' ho' hg _ hat
    refine h v' w' ?_ ((World.grownBy_alloc w0 _ _).trans hg) (hat.imp id fun e => ⟨w0.heap.size + 1, by omega, by rw [e, World.size_alloc]⟩)
    unfold OwnN
    rw [flatN_snoc, List.length_append]
    exact ho'
theorem grownBy_belowN10 {w w' : World} {base B : Nat} {v : Value} {l : List Nd} (hg : w.grownBy w' v.ownBlock) (hv : OwnN w base v l) (hB : B ≤ base) (hs : B ≤ w.heap.size) : Below B w w' :=
  ⟨hg.os, hg.tape, hg.output, hg.size, fun j hj => hg.block j (by omega) (fun e => by have := (hv.lt j e.symm).1; omega)⟩
theorem grow_step10 {l : List Nd} (hc : chkV l = 0) {i : Nat} (hi : i < l.length) : chkV (l.take i ++ [l[i]]) = 0 ∧ l.take (i + 1) = l.take i ++ [l[i]] := by
  have e := List.take_succ_eq_append_getElem hi
  refine ⟨?_, e⟩
  rw [← e]
  exact chk_sub hc (List.take_sublist _ _)
theorem own_sh {w : World} {base : Nat} {v : Value} {l : List Nd} (h : OwnN w base v l) : ∃ A n c, v = .slice A n c := by
  obtain ⟨A, c, e, _⟩ := h.read
  exact ⟨A, _, c, e⟩
def GrowP (l : List Nd) (m g : Nat) (w : World) (e : Ending) (w' : World) : Prop := ∃ v, e = .returned (.tuple #[v, .bool true]) ∧ OwnD w' w.heap.size v (bldV l (m + 1)) ∧ TStep w g w'
theorem OwnD.kept10 {w w' : World} {base : Nat} {v : Value} {ls : List Ld} {row : Option Nat} (h : OwnD w base v ls) (hg : w.grownBy w' row) (hr : ∀ k, row = some k → k < base) : OwnD w' base v ls := h.keep fun i h1 h2 => hg.block i h2 fun e => by have := hr i e.symm; omega
set_option maxRecDepth 100000 in
set_option maxHeartbeats 1600000 in
theorem grow_any (A : Option Addr) (l : List Nd) (c m g : Nat) (w : World) (hnd : Nds w w.heap.size A l) (hA : ∀ b o, A = some ⟨b, o, none⟩ → b ≠ g) (hT : Tape w g) (hc : chkV l = 0) (hm : m ≤ 16) :
    Calls Tryd.prog 16 #[.pointer (some ⟨g, 0, none⟩), .slice A l.length c, .int .i64 (m : Int)] w (GrowP l m g w) := by
  have hln : l.length ≤ 64 := (chkV_zero.1 hc).1
  have hlw := wide_of hc
  have HND := Lib.hid (fun (W : World) (k : TStep w g W) => nds_step hnd hA k)
  have HPF := Lib.hid (fun (i : Nat) (hi : i < l.length) (q : Nat) (hq : q < (l.take i).length) => (⟨(hlw _ (List.mem_of_mem_take (List.getElem_mem hq))).1, plc_mem (List.getElem_mem hq)⟩ : I64 (l.take i)[q].id ∧ plc (l.take i) (l.take i)[q].id < (l.take i).length))
  have HIN := Lib.hid (fun (i : Nat) (hi : i < l.length) (W : World) (A3 A4 : Option Addr) (c3 c4 : Nat) (id : Int) (hid : I64 id) (hp : l.take i = [] ∨ plc (l.take i) id < (l.take i).length) (h : Nds W W.heap.size A3 (l.take i)) (h2 : Lds W W.heap.size A4 (bldV (l.take i) (m + 1))) => (by
    obtain ⟨g1, g2⟩ := grow_step10 hc hi
    have hci : chkV (l.take i) = 0 := chk_sub hc (List.take_sublist _ _)
    have e1 : (l.take i).length = i := by rw [List.length_take]; omega
    have := (insert_any A3 A4 (l.take i) (bldV (l.take i) (m + 1)) l[i] c3 c4 id (m : Int) W h h2 (by rw [bld_len]; unfold maxLen; omega) (fun y hy => (hlw y (List.mem_of_mem_take hy)).2) (hlw _ (List.getElem_mem hi)) hid).mono fun e w' k => insP_ok k (ins_ok g1 hm hp) (by rw [← g2]) rfl
    rw [bld_len, e1] at this
    exact ⟨_, this⟩ : ∃ nn, Calls Tryd.prog 12 #[.slice A3 i c3, .slice A4 i c4, l[i].val, .int .i64 id, .int .i64 (m : Int)] W (InsOk (bldV (l.take (i + 1)) (m + 1)) nn W)))
  have HTK := Lib.hid (fun (i : Nat) (hi : i < l.length) => List.take_succ_eq_append_getElem hi)
  have HTL := Lib.hid (fun (i : Nat) (hi : i ≤ l.length) => (by rw [List.length_take]; omega : (l.take i).length = i))
  have HBL := Lib.hid (fun (i : Nat) (hi : i ≤ l.length) => (by rw [bld_len, List.length_take]; omega : (bldV (l.take i) (m + 1)).length = i))
  have HB0 : Hid (bldV (l.take 0) (m + 1) = []) := Lib.hid (t_bld0 _)
  have HFL : Hid (bldV (l.take l.length) (m + 1) = bldV l (m + 1)) := Lib.hid (by rw [List.take_length])
  have HL0 : Hid (l.take 0 = []) := Lib.hid rfl
  have HTR := Lib.hid (TStep.refl hT)
  have hgw := hT.lt
  obtain ⟨inf, hif, hif1, hif2, hif3⟩ := infoN_parts
  obtain ⟨N, hN⟩ : ∃ N, N = l.length := ⟨_, rfl⟩
  have HN := Lib.hid hN
  rw [← hN] at hln ⊢
  obtain ⟨bF, hbF⟩ : ∃ bF : Nat → List Ld, bF = fun i => bldV (l.take i) (m + 1) := ⟨_, rfl⟩
  have e1 : ∀ i, bldV (l.take i) (m + 1) = bF i := fun i => by rw [hbF]
  simp only [e1] at HIN HBL HB0 HFL
  clear hnd hA hT hc hlw hN hbF e1
  go_enter Tryd.func16, Tryd.ntmps16
  go_wp2_with fail
  go_loopw [8, 9, 10] (fun vns vls vi wr => ∃ (i : Nat) (v1 v2 : Value), vi = .int .i64 (i : Int) ∧ v1 = vns ∧ v2 = vls ∧ i ≤ N ∧ OwnN wr w.heap.size v1 (l.take i) ∧ OwnD wr w.heap.size v2 (bF i) ∧ TStep w g wr) (fun _ _ vi _ => N - (intOf vi).toNat)
  case atStart => exact ⟨0, _, _, rfl, rfl, rfl, by omega, by rw [HL0.out]; exact OwnN.nil _ _, by rw [HB0.out]; exact OwnD.nil _ _, HTR.out⟩
  case round =>
    obtain ⟨i, v1, v2, rfl, rfl, rfl, hi, ho1, ho2, hts⟩ := hrel
    by_cases hlt : i < N
    · have i2 : i < l.length := by rw [← HN.out]; exact hlt
      have hil : i ≤ l.length := Nat.le_of_lt i2
      have i0 : (0 : Int) ≤ (i : Int) := by omega
      have i1 : (i : Int) < (N : Int) := by omega
      have HO1 := Lib.hid ho1
      have HO2 := Lib.hid ho2
      have HTS := Lib.hid hts
      obtain ⟨A1, c1, hv1, hr1⟩ := ho1.read
      obtain ⟨A2, c2, hv2, -, -, hr2⟩ := ho2.read
      rw [HTL.out i hil] at hv1
      rw [HBL.out i hil] at hv2
      have HV1 := Lib.hid hv1
      have HV2 := Lib.hid hv2
      have HA1 : Hid (∀ b o, A1 = some ⟨b, o, none⟩ → b ≠ g) := Lib.hid fun b o e => by
        have := (ho1.lt b (by rw [hv1, e]; rfl)).1
        omega
      clear ho1 ho2 hts hr1 hr2 hv2
      subst hv1
      rw [HV2.out]
      go_upto_region 7 with fail
      go_upto_if 22 with fail
      go_cut [11] (fun s wx => ∃ fid : Int, s = .int .i64 fid ∧ I64 fid ∧ Hid (l.take i = [] ∨ plc (l.take i) fid < (l.take i).length) ∧ TStep wr g wx)
      case first =>
        by_cases hz : i = 0
        · have hzi : ¬ ((0 : Int) < (i : Int)) := by omega
          have hE : Hid (l.take i = []) := Lib.hid (by rw [hz]; rfl)
          have HTW := Lib.hid (TStep.refl HTS.out.1)
          clear hz
          go_wp2_with fail
          go_meet
          exact ⟨0, rfl, ⟨by decide, by decide⟩, Lib.hid (.inl hE.out), HTW.out⟩
        · have hzi : ((0 : Int) < (i : Int)) := by omega
          go_wp2_with fail
          refine (next_any g i wr HTS.out.1 (by omega)).mono ?_
          rintro e wa ⟨r3, t0, t1, rfl, hsta⟩
          obtain ⟨q, rfl⟩ : ∃ m : Nat, r3 = (m : Int) := ⟨r3.toNat, by omega⟩
          have hq : q < i := by omega
          have q2 : q < (l.take i).length := by rw [HTL.out i hil]; exact hq
          have HOa := Lib.hid (HO1.out.step hgw hsta)
          obtain ⟨_, _, er, hnda⟩ := HOa.out.read
          rw [HTL.out i hil] at er
          injection er with e1 e3 e2
          clear e3
          subst e1 e2
          obtain ⟨b7, o7, eA, hbl7, g1, g2, g3⟩ := hnda.at_ q2
          subst eA
          have HRQ := Lib.hid (HPF.out i i2 q q2)
          generalize (l.take i)[q].id = fid at *
          have q0 : (0 : Int) ≤ (q : Int) := by omega
          have q1 : (q : Int) < (i : Int) := by omega
          have HSTA := Lib.hid hsta
          clear hz t0 t1 hsta hnda HOa
          go_wp2_with fail
          go_meet
          exact ⟨fid, rfl, HRQ.out.1, Lib.hid (.inr HRQ.out.2), HSTA.out⟩
      case rest =>
      obtain ⟨fid, rfl, hfid, HFP, hts⟩ := hcut
      have hoc := HO1.out.step hgw hts
      obtain ⟨_, _, er, hrc⟩ := hoc.read
      rw [HTL.out i hil] at er
      injection er with e1 e3 e2
      clear e3
      subst e1 e2
      have hod := HO2.out.step hgw hts
      obtain ⟨A4, c4, hv4, -, -, hrd⟩ := hod.read
      rw [HBL.out i hil] at hv4
      have hv24 := HV2.out
      rw [hv4] at hv24
      injection hv24 with e4 e6 e5
      clear e6
      subst e4 e5
      have hnl := HND.out wc (HTS.out.trans hts)
      obtain ⟨b, o, eA, hbl, f1, f2, f3⟩ := hnl.at_ i2
      subst eA
      obtain ⟨nn, hin⟩ := HIN.out i i2 wc A1 A4 c1 c4 fid hfid HFP.out hrc hrd
      have HII := Lib.hid hin
      have HOC := Lib.hid hoc
      have HTC := Lib.hid (HTS.out.trans hts)
      have HTKI := Lib.hid (HTK.out i i2)
      clear hrc hod hrd hv4 hnl hin hoc hts
      have hc1 : (l.take i).length < 1000000 := by rw [HTL.out i hil]; omega
      generalize l[i] = x at *
      obtain ⟨xi, xk, xw⟩ := x
      simp only at f1 f2 f3
      have hrep : Calls Tryd.prog 12 #[.slice A1 i c1, .slice A4 i c4, .agg #[.int .i64 xi, .string xk, .int .u32 (xw : Int)], .int .i64 fid, .int .i64 (m : Int)] wc (InsOk (bF (i + 1)) nn wc) := HII.out
      have HIJ := Lib.hid hrep
      clear hrep HII
      go_wp2_with fail
      refine (HIJ.out).mono ?_
      rintro e wd ⟨v9, rfl, ho9, hb9⟩
      have HO9 := Lib.hid ho9
      have hB9 : w.heap.size ≤ wc.heap.size := HTC.out.2.size
      have HOD := Lib.hid (HOC.out.below hb9)
      have HTD := Lib.hid (HTC.out.below hb9)
      have f1 := (hb9.cell (p := ⟨b, o + i * 3, none⟩) hbl).trans f1
      have f2 := (hb9.cell (p := ⟨b, o + i * 3 + 1, none⟩) hbl).trans f2
      have f3 := (hb9.cell (p := ⟨b, o + i * 3 + 2, none⟩) hbl).trans f3
      have HLT : Hid (∀ k, (Value.slice A1 i c1).ownBlock = some k → k < wc.heap.size) := Lib.hid fun k e => (HOC.out.lt k e).2
      have HSD : Hid (w.heap.size ≤ wd.heap.size ∧ wc.heap.size ≤ wd.heap.size) := Lib.hid ⟨Nat.le_trans hB9 hb9.size, hb9.size⟩
      obtain ⟨A9, c9, hv9⟩ := ho9.shape
      subst hv9
      clear ho9 hb9 HIJ
      go_wp2_with (at_builtin; refine wpList_pushN10 rfl _ _ 25 rfl w.heap.size inf Tryd.underlying25 hif hif1 hif2 hif3 (.slice A1 i c1) (l.take i) wd ⟨xi, xk, xw⟩ rfl HOD.out rfl hc1 HSD.out.1 ?_; intro v3 w3 ho3 hg3 hat3; have HO3 := Lib.hid ho3; have HD3 := Lib.hid ((HO9.out.kept10 hg3 HLT.out).low_ hB9); have HT3 := Lib.hid (HTD.out.below_base hgw (grownBy_belowN10 hg3 HOD.out (Nat.le_refl _) HSD.out.1)); obtain ⟨A3, n3, c3, hv3⟩ := (own_sh ho3); subst hv3; clear ho3 hg3 hat3)
      exact ⟨⟨i + 1, _, _, by go_num, rfl, rfl, hlt, by rw [HTKI.out]; exact HO3.out, HD3.out, HT3.out⟩, by simp [intOf]; omega⟩
    · have ei : i = l.length := by rw [← HN.out]; omega
      have HD := Lib.hid ho2
      rw [ei, HFL.out] at HD
      have HT := Lib.hid hts
      obtain ⟨A2, c2, hv2⟩ := ho2.shape
      subst hv2
      clear ho1 ho2 hts ei
      go_wp2_with fail
      go_ret2
      exact ⟨_, rfl, HD.out, HT.out⟩
end Go.Proofs.YtjokbdhineilcaaDoor
