/-
  The walk of BulkMerges: from whatever numbers and key it answers true and only makes memory. Conditions: the arguments can be read; 'letters' is as its initialiser lays it.
-/
import Derived.Test.YtddcfiiahahkbaaDoorLvK
import Derived.Test.YtddcfiiahahkbaaDoorLnC
import Derived.Test.YtddcfiiahahkbaaDoorLgJ
import Derived.Test.YtddcfiiahahkbaaDoorKhU
import Derived.Test.YtddcfiiahahkbaaDoorKqJ
import Derived.Deep.DeepCutAuto
import Derived.Deep.CutBlock
namespace Go.Proofs.YtddcfiiahahkbaaDoor
open Go.RowKit

def mgR (a : List Nd) (al : List Ld) (b : List Nd) (bl : List Ld) (h : Int) : List Ld := if mgE a al b bl h = 0 then bldV (a ++ b) (h + 1).toNat else []
theorem mg_read {a b : List Nd} {al bl : List Ld} {h : Int} {w w' : World} {e : Ending} (k : MergeP a al b bl h w e w') : ∃ A c, e = .returned (.tuple #[.slice A (mgR a al b bl h).length c, .int .i64 (mgE a al b bl h)]) ∧ Lds w' w'.heap.size A (mgR a al b bl h) ∧ Below w.heap.size w w' := by
  rcases k with ⟨k1, rfl, k2⟩ | ⟨k1, v, rfl, k3, k4⟩
  · have e : mgR a al b bl h = [] := if_neg k1
    rw [e]
    exact ⟨none, 0, rfl, fun h => absurd rfl h, k2⟩
  · have e : mgR a al b bl h = bldV (a ++ b) (h + 1).toNat := if_pos k1
    obtain ⟨A, c, rfl, -, -, hr⟩ := k3.read
    rw [e, k1]
    exact ⟨A, c, rfl, hr, k4⟩
theorem mgR_len (a : List Nd) (al : List Ld) (b : List Nd) (bl : List Ld) (h : Int) : (mgR a al b bl h).length ≤ 64 := by
  unfold mgR
  split
  · rename_i k
    rw [bld_len]
    rcases mgE_cases a al b bl h with ⟨_, k2⟩ | ⟨_, _, k2⟩ | ⟨_, _, _, k2⟩ | ⟨_, _, _, k2⟩
    · rw [k2] at k; cases k
    · rw [k2] at k; cases k
    · rw [k2] at k; cases k
    · rw [k2] at k
      exact (chkV_zero.1 k).1
  · simp
theorem mg_own {a b : List Nd} {al bl : List Ld} {h : Int} {w w' : World} {e : Ending} (k : MergeP a al b bl h w e w') : ∃ v, e = .returned (.tuple #[v, .int .i64 (mgE a al b bl h)]) ∧ OwnD w' w.heap.size v (mgR a al b bl h) ∧ Below w.heap.size w w' := by
  rcases k with ⟨k1, rfl, k2⟩ | ⟨k1, v, rfl, k3, k4⟩
  · have e : mgR a al b bl h = [] := if_neg k1
    rw [e]
    exact ⟨_, rfl, OwnD.nil _ _, k2⟩
  · have e : mgR a al b bl h = bldV (a ++ b) (h + 1).toNat := if_pos k1
    rw [e, k1]
    exact ⟨_, rfl, k3, k4⟩
def ctR (l : List Nd) (k : List Ld) (q : ByteArray) (h : Int) (m : List Nd) : List Ld := if ctE l k q h = 0 then bldV m (h + 1).toNat else []
theorem ct_read {l : List Nd} {k : List Ld} {q : ByteArray} {h : Int} {w w' : World} {e : Ending} (kk : CutP l k q h w e w') : ∃ A1 c1 A2 c2, e = .returned (.tuple #[.slice A1 (ctR l k q h (lowL l q)).length c1, .slice A2 (ctR l k q h (hghL l q)).length c2, .int .i64 (ctE l k q h)]) ∧ Lds w' w'.heap.size A1 (ctR l k q h (lowL l q)) ∧ Lds w' w'.heap.size A2 (ctR l k q h (hghL l q)) ∧ Below w.heap.size w w' := by
  rcases kk with ⟨k1, rfl, k2⟩ | ⟨k1, v1, v2, rfl, k3, k4, k5⟩
  · have e : ∀ m, ctR l k q h m = [] := fun m => if_neg k1
    rw [e, e]
    exact ⟨none, 0, none, 0, rfl, fun h => absurd rfl h, fun h => absurd rfl h, k2⟩
  · have e : ∀ m, ctR l k q h m = bldV m (h + 1).toNat := fun m => if_pos k1
    obtain ⟨A1, c1, rfl, -, -, hr1⟩ := k3.read
    obtain ⟨A2, c2, rfl, -, -, hr2⟩ := k4.read
    rw [e, e, k1]
    exact ⟨A1, c1, A2, c2, rfl, hr1, hr2, k5⟩
theorem ctR_len {l : List Nd} {k : List Ld} {q : ByteArray} {h : Int} {m : List Nd} (hm : m.length ≤ l.length) : (ctR l k q h m).length ≤ 64 := by
  unfold ctR
  split
  · rename_i kk
    rw [bld_len]
    rcases ctE_cases l k q h with ⟨_, k2⟩ | ⟨_, _, k2⟩ | ⟨_, _, _, k2⟩ | ⟨h1, h2, _, _⟩
    · rw [k2] at kk; cases kk
    · rw [k2] at kk; cases kk
    · rw [k2] at kk; cases kk
    · obtain ⟨n, rfl, _⟩ := lvB_nat h1
      have := (chkV_zero.1 (exaB_true h2).1).1
      omega
  · simp
/-- append of a list that is read: what has turned, and where the row lies. -/
theorem wpList_pushNs2 {P : Program} {ops : Array Oper} {rest : List Oper} {o : Oper} {a : Act} {Q : Exit → Act → World → Prop} {w : World} (hgd : o.guard = none) (s x : Operand) (t : TypeId)
    (ho : o.op = .call { callee := .builtin .append, args := #[s, x], argTypes := #[t, t] })
    (base : Nat) (i : TypeInfo) (ht : P.underlying t = some (.slice 39)) (hi : P.info? 39 = some i) (hz : i.zero = some (.agg #[.int .i64 0, .string ⟨#[]⟩, .int .u32 0])) (hsize : i.size = 3) (hby : i.bytes = 32)
    (v : Value) (l : List Nd) (hs : a.eval s = v) (hown : OwnN w base v l) (B : Nat) (A : Option Addr) (m : List Nd) (n c : Nat) (hn : m.length = n) (hx : a.eval x = .slice A n c) (hm : Nds w B A m) (hlen : l.length + n ≤ 1000000) (hbase : base ≤ w.heap.size)
    (h : ∀ v' w', OwnN w' base v' (l ++ m) → w.grownBy w' v.ownBlock → (v'.ownBlock = v.ownBlock ∨ ∃ k, w.heap.size ≤ k ∧ v'.ownBlock = some k) → wpList P ops Q rest (a.put o.dst v') w') : wpList P ops Q (o :: rest) a w := by
  refine wpList_plain hgd fun K hK => ?_
  have key : ∃ v' w', (Builtin.append_ #[t, t] o.type #[v, .slice A n c]).run P w = .ok v' w' ∧ OwnN w' base v' (l ++ m) ∧ w.grownBy w' v.ownBlock ∧ (v'.ownBlock = v.ownBlock ∨ ∃ k, w.heap.size ≤ k ∧ v'.ownBlock = some k) := by
    subst hn
    by_cases hm0 : m = []
    · subst hm0
      exact ⟨v, w, run_pushN_nil w base t o.type i ht hi v l hown A c, by rw [List.append_nil]; exact hown, grownBy_refl _ _, .inl rfl⟩
    · obtain ⟨b, o', e, _⟩ := hm hm0
      subst e
      obtain ⟨v', w', hrun, h2, hg, _, hat⟩ := run_append_own_at (P := P) w base t o.type 39 i (.agg #[.int .i64 0, .string ⟨#[]⟩, .int .u32 0]) 3 32 ht hi hz hsize hby rfl (by decide) v l.length (flatN l) hown ⟨b, o', none⟩ m.length c (flatN m) (flatN_len m) (hm.news rfl) (flatN_ones m) (by unfold maxLen; omega) (by omega) hbase
      refine ⟨v', w', hrun, ?_, hg, hat.imp id fun e => ⟨_, Nat.le_refl _, e⟩⟩
      unfold OwnN
      rw [flatN_append, List.length_append]
      exact h2
  obtain ⟨v', w', hr, h2, h3, h4⟩ := key
  unfold Oper.wp execOp
  simp only [ho, resolve, invoke, builtin, Sem.run_bind, Sem.run_pure, Result.andThen_ok, List.map_toArray, List.map_cons, List.map_nil, hs, hx, hr]
  exact hK _ _ (h v' w' h2 h3 h4)
theorem RdE.readC {w : World} {X Y Z : Nat} {v : Value} {ls : List Ld} (h : RdE w X Y Z v ls) : ∃ A c, v = .slice A ls.length c ∧ ls.length ≤ c ∧ c ≤ maxLen ∧ Lds w w.heap.size A ls := by
  have h' := h
  obtain ⟨q, h1, h2, h3⟩ := h
  rcases h1.2 with ⟨e1, e2⟩ | ⟨g, cap, cur, e1, hb, hg, hnc, hcm, hcs, htake⟩
  · exact ⟨none, 0, by rw [e2]; exact e1, by omega, by unfold maxLen; omega, fun hn => absurd (List.eq_nil_of_length_eq_zero e2) hn⟩
  · obtain ⟨A, c, e, hr⟩ := h'.read
    rw [e] at e1
    injection e1 with e2 _ e3
    subst e2 e3
    exact ⟨_, _, e, hnc, hcm, hr⟩
/-- Links that the tape gave, as the tape goes on. -/
def LkOk (w : World) (g : Nat) (v : Value) (ks : List Ld) (A : Option Addr) (c : Nat) : Prop := v = .slice A ks.length c ∧ ks.length ≤ c ∧ c ≤ maxLen ∧ ∀ W, TStep w g W → Lds W W.heap.size A ks
theorem links_ok {N L g : Nat} {w w' : World} {e : Ending} (h : LinksP N L g w e w') (hg : g < w.heap.size) : ∃ v ks A c, e = .returned v ∧ ks.length ≤ N ∧ LkOk w' g v ks A c ∧ TStep w g w' := by
  obtain ⟨v, n, rfl, hn, ho, hst⟩ := h
  obtain ⟨ks, hrd, hks, hw⟩ := ho.toRd
  obtain ⟨A, c, hv, hc1, hc2, _⟩ := hrd.readC
  refine ⟨v, ks, A, c, rfl, by omega, ⟨hv, hc1, hc2, fun W k => ?_⟩, hst⟩
  obtain ⟨A5, c5, e5, h5⟩ := (hrd.keep (KpA.step hg k) (Nat.le_refl _)).read
  rw [hv] at e5
  injection e5 with e6
  rw [e6]
  exact h5
structure MgS (w2 : World) (g B : Nat) (l : List Nd) (v7 v8 : Value) (la lb : List Nd) (mx : Nat) (wx : World) : Prop where
  oa : OwnN wx B v7 la
  ob : OwnN wx B v8 lb
  dis : Dis v7 v8
  lna : la.length ≤ mx
  lnb : lb.length ≤ mx
  wa : ∀ x ∈ la, x.wide
  wb : ∀ x ∈ lb, x.wide
  step : TStep w2 g wx
set_option maxRecDepth 100000 in
set_option maxHeartbeats 6400000 in
theorem merges_walk (A : Option Addr) (n0 cp : Nat) (key : ByteArray) (w : World) (hL : Lets w) (hnc : n0 ≤ cp) (hc : cp ≤ maxLen) (hN : Nums w w.heap.size A n0) :
    Calls Tryd.prog 4 #[.slice A n0 cp, .string key] w (LawP w) := by
  have HSA := Lib.hid (fun (W : World) => sane9_any W)
  obtain ⟨inf, hif, hif1, hif2, hif3⟩ := infoN_parts
  go_enter Tryd.func4, Tryd.ntmps4
  go_wp2_with fail
  refine (new_any A n0 cp _ hnc hc hN).mono ?_
  rintro e w1 ⟨g, hg1, rfl, hTp, hb1⟩
  have hne2 : 0 ≠ g := by have := hL.lt; omega
  have l1 := hL.below hb1
  clear hN hnc hc hL
  go_wp2_with fail
  refine (roster_any 9 g w1 (by omega) (by omega) hTp l1 hne2).mono ?_
  rintro e w2 ⟨A2, c2, l, rfl, ho, hl9, hwd, hchk, hst⟩
  have HB2 := Lib.hid (hb1.grown hst.2 hb1.size (fun j e => by have := Option.some.inj e; omega) : Below w.heap.size w w2)
  obtain ⟨_, _, er, hnd⟩ := ho.read
  injection er with e1 e3 e2
  clear e3
  subst e1 e2
  have hg2 : g < w1.heap.size := hTp.lt
  have hgw2 : g < w2.heap.size := by have := hst.2.size; omega
  have hA2 : ∀ b o, A2 = some ⟨b, o, none⟩ → b ≠ g := fun b o e => by
    have := (ho.lt b (by rw [e]; rfl)).1
    omega
  have HN2 := Lib.hid (fun (W : World) (k : TStep w2 g W) => nds_step hnd hA2 k)
  have HL2 := Lib.hid (fun (W : World) (k : TStep w2 g W) => (l1.step hne2 hst).step hne2 k)
  have HT2 := Lib.hid (TStep.refl hst.1)
  have HWD := Lib.hid (wide_of hchk)
  have HPB := Lib.hid (fun (W : World) (k : TStep w2 g W) => (HB2.out.grown k.2 HB2.out.size (fun j e => by have := Option.some.inj e; omega) : Below w.heap.size w W))
  clear ho hnd hst hb1 l1 hTp hwd hchk
  go_wp2_with fail
  refine (key_any g w2 HT2.out.1 (HL2.out _ HT2.out) hne2).mono ?_
  rintro e w3 ⟨q0, -, rfl, hst3⟩
  have HPT := Lib.hid (parts9_any A2 l c2 q0 w3 (HN2.out _ hst3) (by omega))
  have HT3 := Lib.hid hst3
  have hl1 : (lowL l q0).length ≤ 12 := by have := low_le l q0; omega
  have hl2 : (hghL l q0).length ≤ 12 := by have := hgh_le l q0; omega
  have HW1 : Hid (∀ x ∈ lowL l q0, x.wide) := Lib.hid fun x hx => HWD.out x (mflt hx)
  have HW2 : Hid (∀ x ∈ hghL l q0, x.wide) := Lib.hid fun x hx => HWD.out x (mflt hx)
  unfold PrtP at HPT
  generalize lowL l q0 = lo at *
  generalize hghL l q0 = hi at *
  obtain ⟨N, hNn⟩ : ∃ N, N = l.length := ⟨_, rfl⟩
  have HNN := Lib.hid hNn
  rw [← hNn] at HPT hl9 ⊢
  clear hst3 HT2 hNn
  go_wp2_with fail
  refine (HPT.out).mono ?_
  rintro e w4 ⟨v7, v8, rfl, ho7, ho8, hd78, hb4⟩
  have HT4 := Lib.hid (HT3.out.below hb4)
  have HO7 := Lib.hid ho7
  have HO8 := Lib.hid ho8
  have HD78 := Lib.hid hd78
  obtain ⟨B, hB⟩ : ∃ B, B = w3.heap.size := ⟨_, rfl⟩
  rw [← hB] at HO7 HO8
  have hgB : g < B := by rw [hB]; have := HT3.out.2.size; omega
  have hB2 : w2.heap.size ≤ B := by rw [hB]; exact HT3.out.2.size
  have hB4 : B ≤ w4.heap.size := by rw [hB]; exact hb4.size
  clear ho7 ho8 hd78 hb4 hB HPT HT3
  go_wp2_with fail
  refine (bool_any g 2 w4 HT4.out.1 (by omega) (by omega)).mono ?_
  rintro e w5 ⟨bb, rfl, hst5⟩
  have hS5 : MgS w2 g B l v7 v8 lo hi 12 w5 := ⟨HO7.out.step hgB hst5, HO8.out.step hgB hst5, HD78.out, hl1, hl2, HW1.out, HW2.out, HT4.out.trans hst5⟩
  have hB5 : B ≤ w5.heap.size := Nat.le_trans hB4 hst5.2.size
  have HS5 := Lib.hid hS5
  clear hst5 HO7 HO8 HD78 HT4 HW1 HW2 hl1 hl2 hS5
  go_upto_if 39 with fail
  go_cut [7, 8] (fun s7 s8 wx => ∃ (v7 v8 : Value) (la lb : List Nd), v7 = s7 ∧ v8 = s8 ∧ MgS w2 g B l v7 v8 la lb 12 wx ∧ B ≤ wx.heap.size)
  case first =>
    cases bb
    · go_wp2_with fail
      go_meet
      exact ⟨v7, v8, lo, hi, rfl, rfl, HS5.out, hB5⟩
    · have HT5 := Lib.hid HS5.out.step
      clear HS5
      go_wp2_with fail
      go_loopw [7, 8, 9] (fun s7 s8 vi wr => ∃ (i : Nat) (v7 v8 : Value) (la lb : List Nd), vi = .int .i64 (i : Int) ∧ v7 = s7 ∧ v8 = s8 ∧ i ≤ N ∧ la.length ≤ i ∧ lb.length ≤ i ∧ MgS w2 g B l v7 v8 la lb 12 wr ∧ B ≤ wr.heap.size) (fun _ _ vi _ => N - (intOf vi).toNat)
      case atStart => exact ⟨0, _, _, [], [], rfl, rfl, rfl, by omega, by simp, by simp, ⟨OwnN.nil _ _, OwnN.nil _ _, Dis.nil _, by simp, by simp, (fun x hx => by cases hx), (fun x hx => by cases hx), HT5.out⟩, hB5⟩
      case round =>
        clear HT5
        obtain ⟨i, v7, v8, la, lb, rfl, rfl, rfl, hi, hla, hlb, hS, hBw⟩ := hrel
        by_cases hlt : i < N
        · have k1 : i < l.length := by rw [← HNN.out]; exact hlt
          have HS := Lib.hid hS
          clear hS
          go_wp2_with fail
          refine (bool_any g 2 wr HS.out.step.1 (by omega) (by omega)).mono ?_
          rintro e w6 ⟨b6, rfl, hst6⟩
          have hTT := HS.out.step.trans hst6
          obtain ⟨b, o, eA, hb, f1, f2, f3⟩ := (HN2.out _ hTT).at_ k1
          have hxw := HWD.out _ (List.getElem_mem k1)
          have HO1 := Lib.hid (HS.out.oa.step hgB hst6)
          have HO2 := Lib.hid (HS.out.ob.step hgB hst6)
          have HDD := Lib.hid HS.out.dis
          have HTT := Lib.hid hTT
          have HWA := Lib.hid HS.out.wa
          have HWB := Lib.hid HS.out.wb
          have hB6 : B ≤ w6.heap.size := Nat.le_trans hBw hst6.2.size
          subst eA
          generalize l[i] = x at *
          have HXW := Lib.hid hxw
          obtain ⟨xi, xk, xw⟩ := x
          simp only at f1 f2 f3
          have i0 : (0 : Int) ≤ (i : Int) := by omega
          have i1 : (i : Int) < (N : Int) := by omega
          clear hst6 HS hTT hxw
          cases b6
          · go_wp2_with (at_builtin; refine wpList_pushN2 rfl _ _ 23 rfl B inf Tryd.underlying23 hif hif1 hif2 hif3 v8 lb w6 ⟨xi, xk, xw⟩ rfl HO2.out rfl (by omega) hB6 ?_; intro v9 w9 ho9 hg9 hat9; have HO9 := Lib.hid ho9; have HO4 := Lib.hid (HO1.out.kept hg9 HDD.out); have HD9 := Lib.hid (HDD.out.grow HO1.out hat9); have HT9 := Lib.hid (HTT.out.below_base hgw2 (grownBy_belowN hg9 HO2.out hB2 (Nat.le_trans hB2 hB6))); have hB9 := Nat.le_trans hB6 hg9.size; clear ho9 hg9 hat9)
            exact ⟨⟨i + 1, v7, v9, la, lb ++ [⟨xi, xk, xw⟩], by go_num, rfl, rfl, hlt, by omega, by rw [List.length_append]; simp; omega, ⟨HO4.out, HO9.out, HD9.out, by omega, by rw [List.length_append]; simp; omega, HWA.out, fun y hy => (List.mem_append.1 hy).elim (HWB.out y) (fun h => by rw [List.mem_singleton.1 h]; exact HXW.out), HT9.out⟩, hB9⟩, by simp [intOf]; omega⟩
          · go_wp2_with (at_builtin; refine wpList_pushN2 rfl _ _ 23 rfl B inf Tryd.underlying23 hif hif1 hif2 hif3 v7 la w6 ⟨xi, xk, xw⟩ rfl HO1.out rfl (by omega) hB6 ?_; intro v9 w9 ho9 hg9 hat9; have HO9 := Lib.hid ho9; have HO4 := Lib.hid (HO2.out.kept hg9 HDD.out.symm); have HD9 := Lib.hid (HDD.out.symm.grow HO2.out hat9).symm; have HT9 := Lib.hid (HTT.out.below_base hgw2 (grownBy_belowN hg9 HO1.out hB2 (Nat.le_trans hB2 hB6))); have hB9 := Nat.le_trans hB6 hg9.size; clear ho9 hg9 hat9)
            exact ⟨⟨i + 1, v9, v8, la ++ [⟨xi, xk, xw⟩], lb, by go_num, rfl, rfl, hlt, by rw [List.length_append]; simp; omega, by omega, ⟨HO9.out, HO4.out, HD9.out, by rw [List.length_append]; simp; omega, by omega, fun y hy => (List.mem_append.1 hy).elim (HWA.out y) (fun h => by rw [List.mem_singleton.1 h]; exact HXW.out), HWB.out, HT9.out⟩, hB9⟩, by simp [intOf]; omega⟩
        · go_wp2_with fail
          go_meet
          exact ⟨v7, v8, la, lb, rfl, rfl, hS, hBw⟩
  case rest =>
    clear HS5 hB5
    obtain ⟨v7, v8, la, lb, rfl, rfl, hS, hBx⟩ := hcut
    obtain ⟨wq, rfl⟩ : ∃ wq, wq = wc := ⟨_, rfl⟩
    go_wp2_with fail
    refine (bool_any g 6 wq hS.step.1 (by omega) (by omega)).mono ?_
    rintro e w6 ⟨b6, rfl, hst6⟩
    have HS6 := Lib.hid (⟨hS.oa.step hgB hst6, hS.ob.step hgB hst6, hS.dis, hS.lna, hS.lnb, hS.wa, hS.wb, hS.step.trans hst6⟩ : MgS w2 g B l v7 v8 la lb 12 w6)
    have hB6 : B ≤ w6.heap.size := Nat.le_trans hBx hst6.2.size
    clear hS hst6 hBx
    go_upto_if 63 with fail
    go_cut [7] (fun s7 wx => ∃ (v9 : Value) (ka : List Nd), v9 = s7 ∧ MgS w2 g B l v9 v8 ka lb 14 wx ∧ B ≤ wx.heap.size)
    case first =>
      cases b6
      · go_wp2_with fail
        go_meet
        exact ⟨v7, la, rfl, ⟨HS6.out.oa, HS6.out.ob, HS6.out.dis, by have := HS6.out.lna; omega, by have := HS6.out.lnb; omega, HS6.out.wa, HS6.out.wb, HS6.out.step⟩, hB6⟩
      · go_wp2_with fail
        refine (some_any 2 g w6 (by omega) (by omega) HS6.out.step.1 (HL2.out _ HS6.out.step) hne2).mono ?_
        rintro e w7 ⟨A9, c9, l9, rfl, ho9, -, hl9b, hchk9, hst9⟩
        obtain ⟨_, _, er, hnd9⟩ := ho9.read
        injection er with e1 e3 e2
        clear e3
        subst e1 e2
        have HN9 := Lib.hid hnd9
        have HO1 := Lib.hid (HS6.out.oa.step hgB hst9)
        have HO2 := Lib.hid (HS6.out.ob.step hgB hst9)
        have HDD := Lib.hid HS6.out.dis
        have HTT := Lib.hid (HS6.out.step.trans hst9)
        have HWA := Lib.hid HS6.out.wa
        have HWB := Lib.hid HS6.out.wb
        have HW9 := Lib.hid (wide_of hchk9)
        have hB7 : B ≤ w7.heap.size := Nat.le_trans hB6 hst9.2.size
        have hla := HS6.out.lna
        have hlb := HS6.out.lnb
        obtain ⟨n9, hn9⟩ : ∃ n9, n9 = l9.length := ⟨_, rfl⟩
        have HNL := Lib.hid hn9
        rw [← hn9] at hl9b ⊢
        clear ho9 hnd9 hchk9 hst9 HS6 hn9
        go_wp2_with (at_builtin; refine wpList_pushNs2 rfl _ _ 23 rfl B inf Tryd.underlying23 hif hif1 hif2 hif3 v7 la rfl HO1.out w7.heap.size A9 l9 n9 c9 HNL.out.symm rfl HN9.out (by omega) hB7 ?_; intro v9 w9 ho9 hg9 hat9; have HO9 := Lib.hid ho9; have HO4 := Lib.hid (HO2.out.kept hg9 HDD.out.symm); have HD9 := Lib.hid (HDD.out.symm.grow HO2.out hat9).symm; have HT9 := Lib.hid (HTT.out.below_base hgw2 (grownBy_belowN hg9 HO1.out hB2 (Nat.le_trans hB2 hB7))); have hB9 := Nat.le_trans hB7 hg9.size; clear ho9 hg9 hat9)
        go_meet
        exact ⟨v9, la ++ l9, rfl, ⟨HO9.out, HO4.out, HD9.out, by rw [List.length_append, ← HNL.out]; omega, by omega, fun y hy => (List.mem_append.1 hy).elim (HWA.out y) (HW9.out y), HWB.out, HT9.out⟩, hB9⟩
    case rest =>
      clear HS6 hB6
      obtain ⟨v9, ka, rfl, hS, hBx⟩ := hcut
      obtain ⟨wp, rfl⟩ : ∃ wp, wp = wc := ⟨_, rfl⟩
      have hka := hS.lna
      have hkb := hS.lnb
      have HWA := Lib.hid hS.wa
      have HWB := Lib.hid hS.wb
      have HTP := Lib.hid hS.step
      have hoa := hS.oa
      have hob := hS.ob
      obtain ⟨A7, c7, rfl, hna⟩ := hoa.read
      obtain ⟨A8, c8, rfl, hnb⟩ := hob.read
      have hA7 : ∀ b o, A7 = some ⟨b, o, none⟩ → b ≠ g := fun b o e => by
        have := (hoa.lt b (by rw [e]; rfl)).1
        omega
      have hA8 : ∀ b o, A8 = some ⟨b, o, none⟩ → b ≠ g := fun b o e => by
        have := (hob.lt b (by rw [e]; rfl)).1
        omega
      have HNA := Lib.hid (fun (W : World) (k : TStep wp g W) => nds_step hna hA7 k)
      have HNB := Lib.hid (fun (W : World) (k : TStep wp g W) => nds_step hnb hA8 k)
      have HN3 := Lib.hid (fun (W : World) (k : TStep wp g W) => HN2.out W (HTP.out.trans k))
      have HR := Lib.hid (TStep.refl HTP.out.1)
      have hgp : g < wp.heap.size := HTP.out.1.lt
      clear hS hoa hob hna hnb hBx
      go_wp2_with fail
      refine (next_any g 4 wp HR.out.1 (by omega)).mono ?_
      rintro e wa ⟨r, r0, r1, rfl, hsta⟩
      obtain ⟨m, rfl⟩ : ∃ m : Nat, r = (m : Int) := ⟨r.toNat, by omega⟩
      have hm : m ≤ 3 := by omega
      have HSTA := Lib.hid hsta
      clear r0 r1 hsta HR
      go_wp2_with fail
      refine (next_any g 4 wa HSTA.out.1 (by omega)).mono ?_
      rintro e wb ⟨r, r0, r1, rfl, hstb⟩
      obtain ⟨m1, rfl⟩ : ∃ m : Nat, r = (m : Int) := ⟨r.toNat, by omega⟩
      have hm1 : m1 ≤ 3 := by omega
      have HSTB := Lib.hid (HSTA.out.trans hstb)
      clear r0 r1 hstb HSTA
      go_wp2_with fail
      obtain ⟨mo, hmo⟩ : ∃ mo : Nat, mo = m1 / 3 := ⟨_, rfl⟩
      have hdv : (m1 : Int) / 3 = (mo : Int) := by omega
      rw [hdv]
      have hmo2 : mo ≤ 1 := by omega
      have hgb : g < wb.heap.size := HSTB.out.1.lt
      have HLK1 := Lib.hid (tlinks_any A7 ka c7 (m : Int) mo g wb HSTB.out.1 (HNA.out _ HSTB.out) (by omega) hA7 HWA.out (by omega) (by omega))
      clear hmo hdv hm1
      refine (HLK1.out).mono ?_
      rintro e wc1 hlk
      obtain ⟨v11, ks1, A11, c11, rfl, hk1, hok1, hst1⟩ := links_ok hlk hgb
      have HSTC := Lib.hid (HSTB.out.trans hst1)
      obtain ⟨rfl, hk1c, hk1m, hrd1⟩ := hok1
      have HRD1 := Lib.hid hrd1
      have hgc : g < wc1.heap.size := hst1.1.lt
      have HLK2 := Lib.hid (tlinks_any A8 lb c8 (m : Int) 0 g wc1 HSTC.out.1 (HNB.out _ HSTC.out) (by omega) hA8 HWB.out (by omega) (by omega))
      clear hlk hst1 hrd1 HSTB HLK1
      go_wp2_with fail
      refine (HLK2.out).mono ?_
      rintro e wd1 hlk
      obtain ⟨v12, ks2, A12, c12, rfl, hk2, hok2, hst2⟩ := links_ok hlk hgc
      have HSTD := Lib.hid (HSTC.out.trans hst2)
      have HRD1' := Lib.hid (fun (W : World) (k : TStep wd1 g W) => HRD1.out W (hst2.trans k))
      obtain ⟨rfl, hk2c, hk2m, hrd2⟩ := hok2
      have HRD2 := Lib.hid hrd2
      clear hlk hst2 hrd2 HSTC HLK2 HRD1
      go_wp2_with fail
      refine (next_any g 4 wd1 HSTD.out.1 (by omega)).mono ?_
      rintro e we1 ⟨r, r0, r1, rfl, hste⟩
      obtain ⟨m3, rfl⟩ : ∃ m : Nat, r = (m : Int) := ⟨r.toNat, by omega⟩
      have hm3 : m3 ≤ 3 := by omega
      have HSTE := Lib.hid (HSTD.out.trans hste)
      have HRE1 := Lib.hid (fun (W : World) (k : TStep we1 g W) => HRD1'.out W (hste.trans k))
      have HRE2 := Lib.hid (fun (W : World) (k : TStep we1 g W) => HRD2.out W (hste.trans k))
      clear r0 r1 hste HSTD HRD1' HRD2
      go_wp2_with fail
      obtain ⟨mo3, hmo3⟩ : ∃ mo : Nat, mo = m3 / 3 := ⟨_, rfl⟩
      have hdv : (m3 : Int) / 3 = (mo3 : Int) := by omega
      rw [hdv]
      have hmo4 : mo3 ≤ 1 := by omega
      have hge : g < we1.heap.size := HSTE.out.1.lt
      have HLK3 := Lib.hid (tlinks_any A2 l c2 (m : Int) mo3 g we1 HSTE.out.1 (HN3.out _ HSTE.out) (by have := HNN.out; omega) hA2 HWD.out (by omega) (by omega))
      rw [← HNN.out] at HLK3
      clear hmo3 hdv hm3
      refine (HLK3.out).mono ?_
      rintro e wf1 hlk
      obtain ⟨v13, ks3, A13, c13, rfl, hk3, hok3, hst3⟩ := links_ok hlk hge
      have HSTF := Lib.hid (HSTE.out.trans hst3)
      have HRF1 := Lib.hid (fun (W : World) (k : TStep wf1 g W) => HRE1.out W (hst3.trans k))
      have HRF2 := Lib.hid (fun (W : World) (k : TStep wf1 g W) => HRE2.out W (hst3.trans k))
      obtain ⟨rfl, hk3c, hk3m, hrd3⟩ := hok3
      have HRF3 := Lib.hid hrd3
      have HPK := Lib.hid (pick_new g wf1 HSTF.out.1 [(m : Int), (m : Int), (m : Int), -1, 17, 2] (by simp) (by simp))
      clear hlk hst3 hrd3 HSTE HLK3 HRE1 HRE2
      go_wp2_with fail
      refine (HPK.out).mono ?_
      rintro e wg1 ⟨G, hG, rfl, hstg⟩
      have hkg := (Below.refl wf1.heap.size wf1).alloc (Nat.le_refl _) (.cells (([(m : Int), (m : Int), (m : Int), -1, 17, 2] : List Int).map (Value.int .i64)).toArray 3)
      have hstF := (TStep.refl HSTF.out.1).below hkg |>.trans hstg
      have HSTG := Lib.hid (HSTF.out.trans hstF)
      have HRG1 := Lib.hid (HRF1.out _ hstF)
      have HRG2 := Lib.hid (HRF2.out _ hstF)
      have HRG3 := Lib.hid (fun (W : World) (k : TStep wg1 g W) => HRF3.out W (hstF.trans k))
      have HNGA := Lib.hid (HNA.out _ HSTG.out)
      have HNGB := Lib.hid (HNB.out _ HSTG.out)
      have HNG := Lib.hid (fun (W : World) (k : TStep wg1 g W) => HN3.out W (HSTG.out.trans k))
      have HLG := Lib.hid (fun (W : World) (k : TStep wg1 g W) => HL2.out W ((HTP.out.trans HSTG.out).trans k))
      have HBG := Lib.hid (HPB.out _ (HTP.out.trans HSTG.out))
      have HRT := Lib.hid (TStep.refl HSTG.out.1)
      have hgg : g < wg1.heap.size := HSTG.out.1.lt
      have HM1 := Lib.hid ((merge_any A7 A11 A8 A12 ka lb ks1 ks2 c7 c11 c8 c12 G wg1 HNGA.out HRG1.out HNGB.out HRG2.out (fun x hx => (HWA.out x hx).2) (fun x hx => (HWB.out x hx).2) (by unfold maxLen; omega) (by unfold maxLen; omega)).mono fun e w' k => mg_own k)
      have HM2 := Lib.hid (fun (W : World) (j : Below wg1.heap.size wg1 W) => (rmerge_any A7 A11 A8 A12 ka lb ks1 ks2 c7 c11 c8 c12 G W ((HNGA.out.below j).more j.size) ((HRG1.out.below j).more j.size) ((HNGB.out.below j).more j.size) ((HRG2.out.below j).more j.size) (fun x hx => (HWA.out x hx).2) (fun x hx => (HWB.out x hx).2) (by omega) (by omega)).mono fun e w' k => mg_own k)
      have HCT := Lib.hid (fun (W : World) (k : TStep wg1 g W) (q : ByteArray) => (cut_any A2 A13 l ks3 q c2 c13 G W (HNG.out W k) (HRG3.out W k) hk3c hk3m (fun x hx => (HWD.out x hx).2)).mono fun e w' k => ct_read k)
      have HCR := Lib.hid (fun (W : World) (k : TStep wg1 g W) (q : ByteArray) => (rcut_any A2 A13 l ks3 q c2 c13 G W (HNG.out W k) (HRG3.out W k) (by have := HNN.out; omega) (fun x hx => (HWD.out x hx).2)).mono fun e w' k => ct_read k)
      have HRL := Lib.hid (mgR_len ka ks1 lb ks2 G)
      have HCL := Lib.hid (fun (q : ByteArray) => (⟨ctR_len (k := ks3) (h := G) (low_le l q), ctR_len (k := ks3) (h := G) (hgh_le l q)⟩ : (ctR l ks3 q G (lowL l q)).length ≤ 64 ∧ (ctR l ks3 q G (hghL l q)).length ≤ 64))
      have HSM := Lib.hid (fun (W : World) (A5 A6 : Option Addr) (R : List Ld) (c5 c6 : Nat) (hR : R.length ≤ 64) (h5 : Lds W W.heap.size A5 R) (h6 : Lds W W.heap.size A6 R) => (by
        have := rsame6_any A5 A6 R R c5 c6 W h5 h6 (by omega)
        rw [decide_eq_true rfl] at this
        exact this))
      rw [← HNN.out] at HCT HCR
      generalize mgR ka ks1 lb ks2 G = R at *
      generalize mgE ka ks1 lb ks2 G = E at *
      generalize hKA : ka.length = KA at *
      generalize hLB : lb.length = LB at *
      generalize hK1 : ks1.length = K1 at *
      generalize hK2 : ks2.length = K2 at *
      generalize hK3 : ks3.length = K3 at *
      clear hG hstg hkg hstF HPK HSTF HRF1 HRF2 HRF3 hKA hLB hK1 hK2 hK3 HN2 HL2 HN3 HNA HNB HTP HPB hk1c hk1m hk2c hk2m hk1 hk2 hk3 hka hkb
      go_wp2_with fail
      refine (HM1.out).mono ?_
      rintro e wh1 ⟨v15, rfl, hD1, hbh⟩
      have HD1 := Lib.hid hD1
      have HBH := Lib.hid hbh
      clear hD1 hbh HM1
      go_wp2_with fail
      refine (HM2.out _ HBH.out).mono ?_
      rintro e wi1 ⟨v17, rfl, hD2, hbi⟩
      have HD3 := Lib.hid (HD1.out.below hbi)
      have HD2 := Lib.hid (hD2.low HBH.out.size)
      have HBI := Lib.hid (HBH.out.trans (hbi.mono HBH.out.size))
      have HTI := Lib.hid (HRT.out.below HBI.out)
      clear hD2 hbi HM2 HD1 HBH
      go_wp2_with fail
      refine (oddKey_any g wi1 HTI.out.1 (HLG.out _ HTI.out) hne2).mono ?_
      rintro e wj1 ⟨qo, -, rfl, hstj⟩
      have HTJ := Lib.hid (HTI.out.trans hstj)
      have HD4 := Lib.hid (HD2.out.step hgg hstj)
      have HD5 := Lib.hid (HD3.out.step hgg hstj)
      have hbQ := (Below.refl wj1.heap.size wj1).alloc (Nat.le_refl _) (.cells #[.string qo, .string key] 9)
      have HQ7 := Lib.hid (Has.new wj1 9 #[.string qo, .string key])
      have HTK := Lib.hid (HTJ.out.below hbQ)
      have HD6 := Lib.hid (HD4.out.below hbQ)
      have HD7 := Lib.hid (HD5.out.below hbQ)
      obtain ⟨Q, hQ⟩ : ∃ Q, Q = wj1.heap.size := ⟨_, rfl⟩
      obtain ⟨W7, hW7⟩ : ∃ W : World, W = wj1.alloc (.cells #[.string qo, .string key] 9) := ⟨_, rfl⟩
      rw [← hQ] at HQ7
      rw [← hW7] at HQ7 HTK HD6 HD7
      have hQl : Q < W7.heap.size := HQ7.out.lt
      clear hbQ hstj HTJ HD4 HD5 HTI HD2 HD3 HBI HRT HLG
      go_upto_region 20 with fail
      rw [← hQ, ← hW7]
      clear hQ hW7
      go_wp2_with fail
      go_loopw [117] (fun vi wr => ∃ i : Nat, vi = .int .i64 (i : Int) ∧ i ≤ 2 ∧ Below W7.heap.size W7 wr) (fun vi _ => 2 - (intOf vi).toNat)
      case atStart => exact ⟨0, rfl, by omega, Below.refl _ _⟩
      case round =>
        obtain ⟨i, rfl, hi, hB⟩ := hrel
        by_cases hlt : i < 2
        · have HQr := HQ7.out.below hB
          obtain ⟨qi, hqi⟩ : ∃ qi : ByteArray, wr.cell? ⟨Q, i, none⟩ = some (.string qi) := by
            have h3 : i = 0 ∨ i = 1 := by omega
            rcases h3 with rfl | rfl
            · exact ⟨_, HQr.cell 0⟩
            · exact ⟨_, HQr.cell 1⟩
          have i0 : (0 : Int) ≤ (i : Int) := by omega
          have i1 : (i : Int) < 2 := by omega
          have HTR := Lib.hid (HTK.out.below hB)
          have HBR := Lib.hid hB
          have HC1 := Lib.hid (HCT.out wr HTR.out qi)
          have HC2 := Lib.hid (fun (W : World) (k : TStep wg1 g W) => HCR.out W k qi)
          obtain ⟨hL1, hL2⟩ := HCL.out qi
          generalize ctR l ks3 qi G (lowL l qi) = R1 at *
          generalize ctR l ks3 qi G (hghL l qi) = R2 at *
          generalize ctE l ks3 qi G = E2 at *
          have HS1 := Lib.hid (fun (W : World) (A5 A6 : Option Addr) (c5 c6 : Nat) h5 h6 => HSM.out W A5 A6 R1 c5 c6 hL1 h5 h6)
          have HS2 := Lib.hid (fun (W : World) (A5 A6 : Option Addr) (c5 c6 : Nat) h5 h6 => HSM.out W A5 A6 R2 c5 c6 hL2 h5 h6)
          generalize hN1 : R1.length = N1 at *
          generalize hN2 : R2.length = N2 at *
          clear hB HQr hL1 hL2 hN1 hN2
          go_wp2_with fail
          refine (HC1.out).mono ?_
          rintro e wk ⟨B1, d1, B2, d2, rfl, hr1, hr2, hbk⟩
          have HX1 := Lib.hid hr1
          have HX2 := Lib.hid hr2
          have HTK2 := Lib.hid (HTR.out.below hbk)
          have HBK := Lib.hid (HBR.out.trans (hbk.mono HBR.out.size))
          clear hr1 hr2 hbk HC1 HTR HBR hqi
          go_wp2_with fail
          refine (HC2.out _ HTK2.out).mono ?_
          rintro e wl ⟨B3, d3, B4, d4, rfl, hr3, hr4, hbl⟩
          have HX3 := Lib.hid ((HX1.out.below hbl).more hbl.size)
          have HX4 := Lib.hid ((HX2.out.below hbl).more hbl.size)
          have HY4 := Lib.hid hr4
          have HSA1 := Lib.hid (HS1.out wl B1 B3 d1 d3 HX3.out hr3)
          have HBL := Lib.hid (HBK.out.trans (hbl.mono HBK.out.size))
          clear hr3 hr4 hbl HC2 HTK2 HBK HX1 HX2 HX3
          go_wp2_with fail
          refine (HSA1.out).mono ?_
          rintro e wm ⟨rfl, hbm⟩
          have HSA2 := Lib.hid (HS2.out wm B2 B4 d2 d4 ((HX4.out.below hbm).more hbm.size) ((HY4.out.below hbm).more hbm.size))
          have HBM := Lib.hid (HBL.out.trans (hbm.mono HBL.out.size))
          clear hbm HSA1 HBL HX4 HY4
          go_wp2_with fail
          refine (HSA2.out).mono ?_
          rintro e wn ⟨rfl, hbn⟩
          have HBN := Lib.hid (HBM.out.trans (hbn.mono HBM.out.size))
          have hne : (E2 != E2) = false := by simp
          clear hbn HSA2 HBM
          go_wp2_with fail
          exact ⟨⟨i + 1, by go_num, hlt, HBN.out⟩, by simp [intOf]; omega⟩
        · have i1 : ¬ (i : Int) < 2 := by omega
          obtain ⟨A15, c15, rfl, -, -, hr5⟩ := (HD7.out.below hB).read
          obtain ⟨A17, c17, rfl, -, -, hr6⟩ := (HD6.out.below hB).read
          have HSS := Lib.hid (HSM.out wr A15 A17 R c15 c17 HRL.out hr5 hr6)
          have HBR := Lib.hid (HBG.out.grown (HTK.out.below hB).2 HBG.out.size (fun j e => by have := Option.some.inj e; omega))
          have heq : (E == E) = true := by simp
          generalize R.length = RN at *
          clear hr5 hr6 hB
          go_wp2_with fail
          refine (HSS.out).mono ?_
          rintro e wn ⟨rfl, hbn⟩
          have HBN := Lib.hid (HBR.out.trans (hbn.mono HBR.out.size))
          clear hbn HSS
          go_wp2_with fail
          refine (HSA.out _).mono ?_
          rintro e wz ⟨rfl, hbz⟩
          have HBZ := Lib.hid (HBN.out.trans (hbz.mono HBN.out.size))
          clear hbz
          go_wp2_with fail
          go_ret
          exact ⟨rfl, HBZ.out⟩
end Go.Proofs.YtddcfiiahahkbaaDoor
