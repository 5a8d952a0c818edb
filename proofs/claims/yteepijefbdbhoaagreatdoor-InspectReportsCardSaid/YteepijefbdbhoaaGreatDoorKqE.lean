/-
  Check of the reference of chapter 7. Conditions: the nodes and links can be read.
-/
import Derived.Test.YteepijefbdbhoaaGreatDoorKqC
import Derived.Test.YteepijefbdbhoaaGreatDoorKqD
import Derived.Deep.RegionHeld3
import Derived.BigRegion
import Derived.BigQuiet
import Derived.Deep.DeepCutAuto
import Derived.Deep.CutBlock
namespace Go.Proofs.YteepijefbdbhoaaGreatDoor
open Go.RowKit

theorem step_pushDf {P : Program} {ops : Array Oper} {o : Oper} {a : Act} {K : Act → World → Prop} {Q : Exit → Act → World → Prop} {E : Prop} (hgd : o.guard = none) (s x : Operand) (t : TypeId)
    (ho : o.op = .call { callee := .builtin .append, args := #[s, x], argTypes := #[t, t] })
    (base : Nat) (i : TypeInfo) (ht : P.underlying t = some (.slice 52)) (hi : P.info? 52 = some i) (hz : i.zero = some (.agg #[.int .i64 0, .int .i64 0, .int .i64 0, .int .i64 0, .int .i64 0, .int .i64 0])) (hsize : i.size = 6) (hby : i.bytes = 48)
    (v : Value) (l : List Df) (w0 : World) (f : Df) (hs : a.eval s = v) (hown : OwnDf w0 base v l) (hx : a.eval x = .slice (some ⟨w0.heap.size, 0, none⟩) 1 1) (hlen : l.length < 1000000) (hbase : base ≤ w0.heap.size)
    (h : ∀ v' w', OwnDf w' base v' (l ++ [f]) → Below base w0 w' → (∀ j, j < w0.heap.size → v.ownBlock ≠ some j → w'.heap[j]? = w0.heap[j]?) → (v'.ownBlock = v.ownBlock ∨ ∃ k, w0.heap.size ≤ k ∧ v'.ownBlock = some k) → K (a.put o.dst v') w') :
    if Region.wanted o (yielded ops a.tmps) = true then Oper.wp P o a (w0.alloc (.cells #[.int .i64 f.kind, .int .i64 f.id, .int .i64 f.level, .int .i64 f.side, .int .i64 f.have_, .int .i64 f.want] 52)) K Q else E := by
  have hw : Region.wanted o (yielded ops a.tmps) = true := by simp [Region.wanted, hgd]
  rw [if_pos hw]
  obtain ⟨v', w', hr, ho', hg, _, hat⟩ := run_append_own_at (P := P) (w := w0.alloc (.cells #[.int .i64 f.kind, .int .i64 f.id, .int .i64 f.level, .int .i64 f.side, .int .i64 f.have_, .int .i64 f.want] 52)) base t o.type 52 i (.agg #[.int .i64 0, .int .i64 0, .int .i64 0, .int .i64 0, .int .i64 0, .int .i64 0]) 6 48 ht hi hz hsize hby rfl (by decide) v l.length (flatDf l) (OwnDf.below hown ((Below.refl _ _).alloc (Nat.le_refl _) _)) ⟨w0.heap.size, 0, none⟩ 1 1 f.cells rfl (by
    intro j u hj
    rw [add_at, Nat.zero_add, (Has.new w0 52 #[.int .i64 f.kind, .int .i64 f.id, .int .i64 f.level, .int .i64 f.side, .int .i64 f.have_, .int .i64 f.want]).cell, ← Array.getElem?_toList]
    exact hj) (by
    intro u hu
    simp [Df.cells] at hu
    rcases hu with rfl | rfl | rfl | rfl | rfl | rfl <;> rfl) (by unfold maxLen; omega) (by omega) (by simp; omega)
  unfold Oper.wp execOp
  simp only [ho, resolve, invoke, builtin, Sem.run_bind, Sem.run_pure, Result.andThen_ok, List.map_toArray, List.map_cons, List.map_nil, hs, hx, hr]
  refine h v' w' ?_ ?_ (fun j hj hne => ?_) (hat.imp (fun e => e) fun e => ⟨_, by rw [World.size_alloc]; omega, e⟩)
  · unfold OwnDf
    rw [flatDf_snoc, List.length_append]
    exact ho'
  · refine ((Below.refl _ _).alloc hbase _).trans ⟨hg.os, hg.tape, hg.output, hg.size, fun j hj => hg.block j (by rw [World.size_alloc]; omega) ?_⟩
    intro e
    obtain ⟨_, ⟨rfl, _⟩ | ⟨g', cap', cur, rfl, h4, h5, _⟩⟩ := hown
    · cases e
    · have : j = g' := Option.some.inj e
      omega
  · exact (hg.block j (by rw [World.size_alloc]; omega) (fun e => hne e.symm)).trans (Below.heap_alloc w0 _ j hj)
set_option maxRecDepth 100000 in
set_option maxHeartbeats 3200000 in
theorem rcheck7_ok (A A2 : Option Addr) (l : List Nd) (k : List Ld) (c c2 m : Nat) (w : World) (hl : Nds w w.heap.size A l) (hk : Lds w w.heap.size A2 k) (hkn : k.length ≤ maxLen) (hchk : chkV l = 0) (hm : m ≤ 16) :
    Calls Tryz.prog 37 #[.slice A l.length c, .slice A2 k.length c2, .int .i64 (m : Int)] w (DfsP (chkD l k (m + 1)) w) := by
  have hln : l.length ≤ 64 := (chkV_zero.1 hchk).1
  have HNR := Lib.hid (rnormal_ok A A2 l k c c2 m w hl hk hkn hchk hm)
  have HKD := Lib.hid (fun (x : Nd) (hv t side : Int) (W : World) (j : Below w.heap.size w W) (hx : x ∈ l) hs => rkind_any A l c x hv t side W ((hl.below j).more j.size) hchk (wide_of hchk x hx) hs)
  have HFD := Lib.hid (fun (W : World) (j : Below w.heap.size w W) (id : Int) => rfind_any A l c id W ((hl.below j).more j.size) (by omega))
  have HNB := Lib.hid (fun (W : World) (j : Below w.heap.size w W) (id h : Int) (hi : -9223372036854775808 ≤ id ∧ id ≤ 9223372036854775807) => rneighbours_any A l c id h W ((hl.below j).more j.size) (by omega) (fun x hx => (wide_of hchk x hx).2) hi)
  have HFS : Hid (∀ x ∈ l, fndV l x.id = x) := Lib.hid fun x hx => fnd_self (chkV_zero.1 hchk).2.2 hx
  have HWD := Lib.hid (wide_of hchk)
  have HSM : Hid (∀ x, x ∈ srt l → x ∈ l) := Lib.hid fun x hx => srt_mem.1 hx
  have HNA := Lib.hid (fun (i : Nat) (h : i < (srt l).length) (h2 : i < (nrmV l k (m + 1)).length) => nrmV_at h h2)
  have HNL : Hid ((nrmV l k (m + 1)).length = (srt l).length) := Lib.hid (nrm_len l k (m + 1))
  have HCD : Hid (chkD l k (m + 1) = (srt l).flatMap fun x => (List.range (m + 1)).flatMap fun (t : Nat) => dfA l k x (t : Int)) := Lib.hid rfl
  have hsl := srt_le hchk
  unfold FndP at HFD
  unfold NbP at HNB
  generalize chkD l k (m + 1) = R at *
  generalize nrmV l k (m + 1) = RN at *
  generalize srt l = S at *
  obtain ⟨n, hn⟩ : ∃ n, n = S.length := ⟨_, rfl⟩
  have HN := Lib.hid hn
  rw [← hn] at HNL hsl
  clear hn
  obtain ⟨LN, hLN⟩ : ∃ LN, LN = l.length := ⟨_, rfl⟩
  obtain ⟨KN, hKN⟩ : ∃ KN, KN = k.length := ⟨_, rfl⟩
  rw [← hLN] at HNR HKD HFD HNB ⊢
  rw [← hKN] at HNR ⊢
  clear hl hk hkn hchk hln hLN hKN
  obtain ⟨ind, hid, hid1, hid2, hid3⟩ := infoDf_parts
  go_enter Tryz.func37, Tryz.ntmps37
  go_wp2_with fail
  refine (HNR.out).mono ?_
  rintro e w3 ⟨v3, rfl, hO, hb3⟩
  obtain ⟨A4, c4, hv, hc4, hcm4, hR4⟩ := hO.read
  have HB3 := Lib.hid hb3
  have HR4 := Lib.hid hR4
  rw [HNL.out] at hv
  subst hv
  clear hc4 hcm4 hR4 hO hb3 HNR
  have hmz : (m : Int) ≤ 16 := by omega
  have hmy : (0 : Int) ≤ (m : Int) := by omega
  go_wp2_with fail
  go_loopw [7, 9] (fun vo vi wr => ∃ (v1 : Value) (i : Nat) (ds : List Df), v1 = vo ∧ vi = .int .i64 (i : Int) ∧ i ≤ n ∧ OwnDf wr w3.heap.size v1 ds ∧ Below w3.heap.size w3 wr ∧ Hid (ds = (S.take i).flatMap fun x => (List.range (m + 1)).flatMap fun (t : Nat) => dfA l k x (t : Int)) ∧ ds.length ≤ i * 34) (fun _ vi _ => n - (intOf vi).toNat)
  case atStart => exact ⟨_, 0, [], rfl, rfl, by omega, OwnDf.nil _ _, Below.refl _ _, Lib.hid (by simp), by simp⟩
  case round =>
    obtain ⟨v1, i, ds, rfl, rfl, hi, ho1, hB, HL, hlen⟩ := hrel
    by_cases hlt : i < n
    · have i2 : i < S.length := by rw [← HN.out]; exact hlt
      have i3 : i < RN.length := by rw [HNL.out]; exact hlt
      obtain ⟨b, o, e4, hb, f1, A', c', f2, hc', hcm', hlk⟩ := HR4.out.at_ i3
      subst e4
      have hna := HNA.out i i2 i3
      have HFM : Hid ((S.take (i + 1)).flatMap (fun x => (List.range (m + 1)).flatMap fun (t : Nat) => dfA l k x (t : Int)) = (S.take i).flatMap (fun x => (List.range (m + 1)).flatMap fun (t : Nat) => dfA l k x (t : Int)) ++ (List.range (m + 1)).flatMap fun (t : Nat) => dfA l k S[i] (t : Int)) := Lib.hid (flat_take _ i2)
      have HXM := Lib.hid (HSM.out _ (List.getElem_mem i2))
      have hnL : RN[i].levels.length = m + 1 := by rw [hna]; simp
      have HLN : Hid (∀ t : Nat, t < m + 1 → ∃ b5 o5, A' = some ⟨b5, o5, none⟩ ∧ b5 < w3.heap.size ∧ w3.cell? ⟨b5, o5 + t * 2, none⟩ = some (.int .i64 (atV k S[i].id (t : Int)).left) ∧ w3.cell? ⟨b5, o5 + t * 2 + 1, none⟩ = some (.int .i64 (atV k S[i].id (t : Int)).right)) := Lib.hid fun t ht => by
        obtain ⟨b5, o5, e5, hb5, k1, k2⟩ := hlk.at_ (i := t) (by rw [hnL]; exact ht)
        have e6 : RN[i].levels[t]'(by rw [hnL]; exact ht) = atV k S[i].id (t : Int) := by simp only [hna, List.getElem_map, List.getElem_range]
        rw [e6] at k1 k2
        exact ⟨b5, o5, e5, hb5, k1, k2⟩
      rw [hnL] at f2 hc'
      have e7 : RN[i].id = S[i].id := by rw [hna]
      rw [e7] at f1
      generalize S[i] = x at *
      clear hna hlk hnL e7 i2 i3
      have hxw := HWD.out x HXM.out
      have HFX := Lib.hid (HFD.out wr (HB3.out.trans (hB.mono HB3.out.size)) x.id)
      rw [HFS.out x HXM.out] at HFX
      obtain ⟨pf, hpf⟩ : ∃ p, p = decide (plc l x.id < LN) := ⟨_, rfl⟩
      rw [← hpf] at HFX
      have i0 : (0 : Int) ≤ (i : Int) := by omega
      have i1 : (i : Int) < (n : Int) := by omega
      have F1 := (hB.cell (p := ⟨b, o + i * 2, none⟩) hb).trans f1
      have HF2 : Hid (∀ W, Below w3.heap.size w3 W → W.cell? ⟨b, o + i * 2 + 1, none⟩ = some (.slice A' (m + 1) c')) := Lib.hid fun W hW => (hW.cell (p := ⟨b, o + i * 2 + 1, none⟩) hb).trans f2
      have HO1 := Lib.hid ho1
      have HBW := Lib.hid hB
      have HXW := Lib.hid hxw
      obtain ⟨A5, c5, hv5⟩ := ho1.shape
      subst hv5
      have HVL := Lib.hid (fun (kk : Nat) (e : (Value.slice A5 ds.length c5).ownBlock = some kk) => (ho1.lt kk e).2)
      clear ho1 hB f1 f2 hpf hxw
      obtain ⟨xi, xk, xw⟩ := x
      simp only [Nd.val] at HFX
      simp only at F1 HLN
      go_wp2_with fail
      refine (HFX.out).mono ?_
      rintro e w5 ⟨rfl, hb5⟩
      have hbX := (Below.refl w5.heap.size w5).alloc (Nat.le_refl _) (.cells #[.int .i64 xi, .string xk, .int .u32 (xw : Int)] 59)
      have HHX := Lib.hid (Has.new w5 59 #[.int .i64 xi, .string xk, .int .u32 (xw : Int)])
      have HBX := Lib.hid (HBW.out.trans ((hb5.trans (hbX.mono hb5.size)).mono HBW.out.size))
      have HOX := Lib.hid ((HO1.out.below hb5).below hbX)
      obtain ⟨X, hXe⟩ : ∃ X, X = w5.heap.size := ⟨_, rfl⟩
      have HVX : Hid ((Value.slice A5 ds.length c5).ownBlock ≠ some X) := Lib.hid (fun e => by have := HVL.out _ e; have := hb5.size; omega)
      clear hb5 hbX HO1 HBW HFX F1
      go_upto_region 7 with fail
      generalize w5.alloc (.cells #[.int .i64 xi, .string xk, .int .u32 (xw : Int)] 59) = WA at *
      rw [← hXe] at HHX ⊢
      clear hXe HVL
      go_wp2_with fail
      go_loopw [7, 12] (fun vo vt wz => ∃ (v1 : Value) (t : Nat) (d1 : List Df), v1 = vo ∧ vt = .int .i64 (t : Int) ∧ t ≤ m + 1 ∧ OwnDf wz w3.heap.size v1 d1 ∧ Below w3.heap.size w3 wz ∧ Has wz X 59 #[.int .i64 xi, .string xk, .int .u32 (xw : Int)] ∧ v1.ownBlock ≠ some X ∧ Hid (d1 = ds ++ ((List.range (m + 1)).take t).flatMap fun (t : Nat) => dfA l k ⟨xi, xk, xw⟩ (t : Int)) ∧ d1.length ≤ ds.length + t * 2) (fun _ vt _ => m + 1 - (intOf vt).toNat)
      case atStart => exact ⟨_, 0, ds, rfl, rfl, by omega, HOX.out, HBX.out, HHX.out, HVX.out, Lib.hid (by simp), by omega⟩
      case round =>
        clear HOX HBX HHX HVX
        obtain ⟨v1, t, d1, rfl, rfl, ht, ho1, hB, hX, hvX, HL1, hlen1⟩ := hrel
        have HVX := Lib.hid hvX
        clear hvX
        by_cases hltt : t < m + 1
        · obtain ⟨b5, o5, e5, hb5, k1, k2⟩ := HLN.out t hltt
          subst e5
          have HNX : Hid (((List.range (m + 1)).take (t + 1)).flatMap (fun (t : Nat) => dfA l k ⟨xi, xk, xw⟩ (t : Int)) = ((List.range (m + 1)).take t).flatMap (fun (t : Nat) => dfA l k ⟨xi, xk, xw⟩ (t : Int)) ++ dfA l k ⟨xi, xk, xw⟩ (t : Int)) := Lib.hid (by
            have h6 := flat_take (fun (t : Nat) => dfA l k ⟨xi, xk, xw⟩ (t : Int)) (l := List.range (m + 1)) (k := t) (by simpa using hltt)
            rw [h6, List.getElem_range])
          have HDA : Hid (dfA l k ⟨xi, xk, xw⟩ (t : Int) = dfS l ⟨xi, xk, xw⟩ (t : Int) 0 (atV k xi (t : Int)).left (nbL l xi (t : Int)).left ++ dfS l ⟨xi, xk, xw⟩ (t : Int) 1 (atV k xi (t : Int)).right (nbL l xi (t : Int)).right) := Lib.hid rfl
          have HNY := Lib.hid (HNB.out wr (HB3.out.trans (hB.mono HB3.out.size)) xi (t : Int) HXW.out.1)
          generalize dfA l k ⟨xi, xk, xw⟩ (t : Int) = DA at *
          generalize atV k xi (t : Int) = hv at *
          generalize nbL l xi (t : Int) = wv at *
          generalize nbB l xi (t : Int) = nbb at *
          obtain ⟨hvl, hvr⟩ := hv
          obtain ⟨wvl, wvr⟩ := wv
          simp only [Lk.val] at HNY
          simp only at k1 k2 HDA
          have t0 : (0 : Int) ≤ (t : Int) := by omega
          have t1 : (t : Int) ≤ (m : Int) := by omega
          have t2 : (t : Int) < (m : Int) + 1 := by omega
          have HK12 : Hid (∀ W, Below w3.heap.size w3 W → W.cell? ⟨b5, o5 + t * 2, none⟩ = some (.int .i64 hvl) ∧ W.cell? ⟨b5, o5 + t * 2 + 1, none⟩ = some (.int .i64 hvr)) := Lib.hid fun W hW => ⟨(hW.cell (p := ⟨b5, o5 + t * 2, none⟩) hb5).trans k1, (hW.cell (p := ⟨b5, o5 + t * 2 + 1, none⟩) hb5).trans k2⟩
          have x0 := hX.cell 0
          have HHX := Lib.hid hX
          have HBW := Lib.hid hB
          have HO1 := Lib.hid ho1
          obtain ⟨A5, c5, hv5⟩ := ho1.shape
          subst hv5
          have HVL := Lib.hid (fun (kk : Nat) (e : (Value.slice A5 d1.length c5).ownBlock = some kk) => (ho1.lt kk e).2)
          clear hX hB ho1 k1 k2
          go_wp2_with fail
          refine (HNY.out).mono ?_
          rintro e w6 ⟨rfl, hb6⟩
          have hbY := (Below.refl w6.heap.size w6).alloc (Nat.le_refl _) (.cells #[.int .i64 wvl, .int .i64 wvr] 49)
          have hk6 := hb6.trans (hbY.mono hb6.size)
          have HY := Lib.hid (Has.new w6 49 #[.int .i64 wvl, .int .i64 wvr])
          have HXY := Lib.hid (HHX.out.below hk6)
          have HBY := Lib.hid (HBW.out.trans (hk6.mono HBW.out.size))
          have HOY := Lib.hid (HO1.out.below hk6)
          have HSY := Lib.hid hk6.size
          clear hbY hb6 hk6 x0 HHX HBW HO1 HNY
          go_upto_region 11 with fail
          generalize w6.alloc (.cells #[.int .i64 wvl, .int .i64 wvr] 49) = WB at *
          have e1 := HF2.out WB HBY.out
          obtain ⟨e2, e3⟩ := HK12.out WB HBY.out
          have hbZ := (Below.refl WB.heap.size WB).alloc (Nat.le_refl _) (.cells #[.int .i64 hvl, .int .i64 hvr] 3)
          have HZ := Lib.hid (Has.new WB 3 #[.int .i64 hvl, .int .i64 hvr])
          have hbZ2 := hbZ.drew
          have HZ2 := Lib.hid (show Has (WB.alloc (.cells #[.int .i64 hvl, .int .i64 hvr] 3)).drew WB.heap.size 3 #[.int .i64 hvl, .int .i64 hvr] from HZ.out)
          have HYZ := Lib.hid (HY.out.below hbZ2)
          have HXZ := Lib.hid (HXY.out.below hbZ2)
          have HBZ := Lib.hid (HBY.out.trans (hbZ2.mono HBY.out.size))
          have HOZ := Lib.hid (HOY.out.below hbZ2)
          have HZS := Lib.hid hbZ2.size
          obtain ⟨Z1, hZ1⟩ : ∃ Z1, Z1 = WB.heap.size := ⟨_, rfl⟩
          have HZL : Hid (X < Z1 ∧ (Value.slice A5 d1.length c5).ownBlock ≠ some Z1) := Lib.hid ⟨by rw [hZ1]; exact HXY.out.lt, HOY.out.ne (by omega)⟩
          go_region
          clear e1 e2 e3 HZ hbZ hbZ2 HY HXY HBY HOY
          generalize (WB.alloc (.cells #[.int .i64 hvl, .int .i64 hvr] 3)).drew = WC at *
          rw [← hZ1] at HZ2 ⊢
          clear hZ1
          have y0 := HYZ.out.cell 0
          have y1 := HYZ.out.cell 1
          have hbV := (Below.refl WC.heap.size WC).alloc (Nat.le_refl _) (.cells #[.int .i64 wvl, .int .i64 wvr] 3)
          have HV := Lib.hid (Has.new WC 3 #[.int .i64 wvl, .int .i64 wvr])
          have HZ3 := Lib.hid (HZ2.out.below hbV)
          have HX3 := Lib.hid (HXZ.out.below hbV)
          have HB3' := Lib.hid (HBZ.out.trans (hbV.mono HBZ.out.size))
          have HO3 := Lib.hid (HOZ.out.below hbV)
          obtain ⟨Z2, hZ2⟩ : ∃ Z2, Z2 = WC.heap.size := ⟨_, rfl⟩
          have HVZ : Hid (Z1 < Z2 ∧ (Value.slice A5 d1.length c5).ownBlock ≠ some Z2) := Lib.hid ⟨by rw [hZ2]; exact HZ2.out.lt, HOZ.out.ne (by omega)⟩
          clear hbV HYZ HXZ HBZ HOZ HZ2
          go_upto_region 13 with fail
          clear y0 y1
          generalize WC.alloc (.cells #[.int .i64 wvl, .int .i64 wvr] 3) = WD at *
          rw [← hZ2] at HV ⊢
          clear hZ2
          have HQC : Hid (∀ (j : Nat), j < 2 → ∃ (sd hv wv : Int), (sd = (j : Int)) ∧ (∀ W, Has W Z1 3 #[.int .i64 hvl, .int .i64 hvr] → W.cell? ⟨Z1, j, none⟩ = some (.int .i64 hv)) ∧ (∀ W, Has W Z2 3 #[.int .i64 wvl, .int .i64 wvr] → W.cell? ⟨Z2, j, none⟩ = some (.int .i64 wv)) ∧ ([dfS l ⟨xi, xk, xw⟩ (t : Int) 0 hvl wvl, dfS l ⟨xi, xk, xw⟩ (t : Int) 1 hvr wvr].take (j + 1)).flatten = ([dfS l ⟨xi, xk, xw⟩ (t : Int) 0 hvl wvl, dfS l ⟨xi, xk, xw⟩ (t : Int) 1 hvr wvr].take j).flatten ++ dfS l ⟨xi, xk, xw⟩ (t : Int) sd hv wv) := Lib.hid fun j hj => by
            obtain rfl | rfl : j = 0 ∨ j = 1 := by omega
            · exact ⟨0, hvl, wvl, rfl, fun W hW => hW.cell 0, fun W hW => hW.cell 0, by simp⟩
            · exact ⟨1, hvr, wvr, rfl, fun W hW => hW.cell 1, fun W hW => hW.cell 1, by simp⟩
          have HQE : Hid (([dfS l ⟨xi, xk, xw⟩ (t : Int) 0 hvl wvl, dfS l ⟨xi, xk, xw⟩ (t : Int) 1 hvr wvr].take 2).flatten = DA) := Lib.hid (by rw [HDA.out]; simp)
          have HQ0 : Hid (([dfS l ⟨xi, xk, xw⟩ (t : Int) 0 hvl wvl, dfS l ⟨xi, xk, xw⟩ (t : Int) 1 hvr wvr].take 0).flatten = []) := Lib.hid (by simp)
          generalize [dfS l ⟨xi, xk, xw⟩ (t : Int) 0 hvl wvl, dfS l ⟨xi, xk, xw⟩ (t : Int) 1 hvr wvr] = DL at *
          generalize hC1 : (#[.int .i64 hvl, .int .i64 hvr] : Array Value) = C1 at *
          generalize hC2 : (#[.int .i64 wvl, .int .i64 wvr] : Array Value) = C2 at *
          clear hC1 hC2
          go_wp2_with fail
          go_loopw [7, 17] (fun vo vj wy => ∃ (v1 : Value) (j : Nat) (d2 : List Df), v1 = vo ∧ vj = .int .i64 (j : Int) ∧ j ≤ 2 ∧ OwnDf wy w3.heap.size v1 d2 ∧ Below w3.heap.size w3 wy ∧ Has wy X 59 #[.int .i64 xi, .string xk, .int .u32 (xw : Int)] ∧ Has wy Z1 3 C1 ∧ Has wy Z2 3 C2 ∧ v1.ownBlock ≠ some X ∧ v1.ownBlock ≠ some Z1 ∧ v1.ownBlock ≠ some Z2 ∧ Hid (d2 = d1 ++ (DL.take j).flatten) ∧ d2.length ≤ d1.length + j) (fun _ vj _ => 2 - (intOf vj).toNat)
          case atStart => exact ⟨_, 0, d1, rfl, rfl, by omega, HO3.out, HB3'.out, HX3.out, HZ3.out, HV.out, HVX.out, HZL.out.2, HVZ.out.2, Lib.hid (by rw [HQ0.out, List.append_nil]), by omega⟩
          case round =>
            clear HO3 HVX HZL HVZ HX3 HZ3 HV HB3' HSY HZS
            obtain ⟨v1, j, d2, rfl, rfl, hj, ho1, hB, hX3, hZ3, hV3, hvX, hvZ1, hvZ2, HL2, hlen2⟩ := hrel
            have HX3 := Lib.hid hX3
            have HZ3 := Lib.hid hZ3
            have HV3 := Lib.hid hV3
            have HVX := Lib.hid hvX
            have HVZ1 := Lib.hid hvZ1
            have HVZ2 := Lib.hid hvZ2
            clear hX3 hZ3 hV3 hvX hvZ1 hvZ2
            by_cases hltj : j < 2
            · obtain ⟨sd, hv, wv, hsd, hcell1, hcell2, hdd⟩ := HQC.out j hltj
              subst hsd
              have HDD := Lib.hid hdd
              have j0 : (0 : Int) ≤ (j : Int) := by omega
              have j1 : (j : Int) ≤ 1 := by omega
              have j2 : (j : Int) < 2 := by omega
              have m1 := hcell1 wr HZ3.out
              have m2 := hcell2 wr HV3.out
              have HC1 := Lib.hid hcell1
              have HC2 := Lib.hid hcell2
              have HBW := Lib.hid hB
              have HO1 := Lib.hid ho1
              have hld : d2.length < 1000000 := by omega
              obtain ⟨A6, c6, hv6⟩ := ho1.shape
              obtain ⟨p6, hp6⟩ : ∃ p, p = d2.length := ⟨_, rfl⟩
              have HP6 := Lib.hid hp6
              rw [← hp6] at hv6
              subst hv6
              clear hB ho1 hdd hp6 hcell1 hcell2
              by_cases hne : hv = wv
              · have hz : (hv != wv) = false := by simpa using hne
                have HDZ : Hid (dfS l ⟨xi, xk, xw⟩ (t : Int) (j : Int) hv wv = []) := Lib.hid (by unfold dfS; rw [if_pos hne])
                clear hne
                go_upto_if 87 with (go_quiet (fail))
                have hqb := below_drewN (Below.refl wr.heap.size wr) nq
                have HX4 := Lib.hid (HX3.out.below hqb)
                have HZ4 := Lib.hid (HZ3.out.below hqb)
                have HV4 := Lib.hid (HV3.out.below hqb)
                have HO4 := Lib.hid (HO1.out.below hqb)
                have HB4 := Lib.hid (HBW.out.trans (hqb.mono HBW.out.size))
                clear m1 m2 hqb
                generalize wr.drewN nq = WQ at *
                go_wp2_with fail
                exact ⟨⟨_, j + 1, d2, rfl, by go_num, by omega, HO4.out, HB4.out, HX4.out, HZ4.out, HV4.out, HVX.out, HVZ1.out, HVZ2.out, Lib.hid (by rw [HL2.out, HDD.out, HDZ.out, List.append_nil]), by omega⟩, by simp [intOf]; omega⟩
              · have hz : (hv != wv) = true := by simpa using hne
                have HDZ : Hid (dfS l ⟨xi, xk, xw⟩ (t : Int) (j : Int) hv wv = [⟨kndV l ⟨xi, xk, xw⟩ hv (t : Int) (j : Int), xi, (t : Int), (j : Int), hv, wv⟩]) := Lib.hid (by unfold dfS; rw [if_neg hne])
                clear hne
                go_upto_if 87 with (go_quiet (fail))
                have hqb := (below_drewN (Below.refl wr.heap.size wr) nq).drew
                have HX4 := Lib.hid (HX3.out.below hqb)
                have HZ4 := Lib.hid (HZ3.out.below hqb)
                have HV4 := Lib.hid (HV3.out.below hqb)
                have HO4 := Lib.hid (HO1.out.below hqb)
                have HB4 := Lib.hid (HBW.out.trans (hqb.mono HBW.out.size))
                have HK1 := Lib.hid (HKD.out ⟨xi, xk, xw⟩ hv (t : Int) (j : Int) (wr.drewN nq).drew (HB3.out.trans (HB4.out.mono HB3.out.size)) HXM.out (by omega))
                clear m1 m2 hqb
                generalize wr.drewN nq = WQ at *
                simp only [Nd.val] at HK1
                generalize kndV l ⟨xi, xk, xw⟩ hv (t : Int) (j : Int) = KV at *
                have HSS : Hid (∀ W, Has W X 59 #[.int .i64 xi, .string xk, .int .u32 (xw : Int)] → Has W Z1 3 C1 → Has W Z2 3 C2 → W.cell? ⟨X, 0, none⟩ = some (.int .i64 xi) ∧ W.cell? ⟨X, 1, none⟩ = some (.string xk) ∧ W.cell? ⟨X, 2, none⟩ = some (.int .u32 (xw : Int)) ∧ W.cell? ⟨Z1, j, none⟩ = some (.int .i64 hv) ∧ W.cell? ⟨Z2, j, none⟩ = some (.int .i64 wv)) := Lib.hid fun W h1 h2 h3 => ⟨h1.cell 0, h1.cell 1, h1.cell 2, HC1.out W h2, HC2.out W h3⟩
                have hS0 := HSS.out _ HX4.out HZ4.out HV4.out
                go_wp2_with fail
                go_region_held3 (fun W => W.cell? ⟨X, 0, none⟩ = some (.int .i64 xi) ∧ W.cell? ⟨X, 1, none⟩ = some (.string xk) ∧ W.cell? ⟨X, 2, none⟩ = some (.int .u32 (xw : Int)) ∧ W.cell? ⟨Z1, j, none⟩ = some (.int .i64 hv) ∧ W.cell? ⟨Z2, j, none⟩ = some (.int .i64 wv)) (first | with_reducible exact hS9 | exact hS8 _ | with_reducible exact hS7 | with_reducible exact hS0) ((first | (refine step_pushDf (o := ⟨some 112, _, _, _, _, _⟩) rfl (.tmp 88) (.tmp 111) 40 (by rfl) w3.heap.size ind Tryz.underlying40 hid hid1 hid2 hid3 (.slice A6 p6 c6) d2 w7 ⟨KV, xi, (t : Int), (j : Int), hv, wv⟩ (by simp [Act.eval]) HO7.out (by simp [Act.eval]) hld HB7.out.size ?_; intro v9 w9 ho9 hb9 hkp hat; have HX9 := Lib.hid ((hkp X HX7.out.lt HVX.out).trans HX7.out); have HZ9 := Lib.hid ((hkp Z1 HZ7.out.lt HVZ1.out).trans HZ7.out); have HV9 := Lib.hid ((hkp Z2 HV7.out.lt HVZ2.out).trans HV7.out); have hS9 := HSS.out _ HX9.out HZ9.out HV9.out; have HAT := Lib.hid hat; have HO9 := Lib.hid ho9; have HB9 := Lib.hid (HB7.out.trans hb9); clear ho9 hb9 hkp hat) | (go_at_call 61; refine (HK1.out).mono ?_; rintro e w7 ⟨rfl, hb7⟩; have HX7 := Lib.hid (HX4.out.below hb7); have HZ7 := Lib.hid (HZ4.out.below hb7); have HV7 := Lib.hid (HV4.out.below hb7); have HO7 := Lib.hid (HO4.out.below hb7); have HB7 := Lib.hid (HB4.out.trans (hb7.mono HB4.out.size)); have hS7 := HSS.out _ HX7.out HZ7.out HV7.out; have hS8 := fun (o : Obj) => HSS.out _ (HX7.out.below ((Below.refl w7.heap.size w7).alloc (Nat.le_refl _) o)) (HZ7.out.below ((Below.refl w7.heap.size w7).alloc (Nat.le_refl _) o)) (HV7.out.below ((Below.refl w7.heap.size w7).alloc (Nat.le_refl _) o)); clear hb7)))
                have HVN : Hid (v9.ownBlock ≠ some X ∧ v9.ownBlock ≠ some Z1 ∧ v9.ownBlock ≠ some Z2) := Lib.hid (by
                  rcases HAT.out with e | ⟨kk, e1, e2⟩
                  · rw [e]; exact ⟨HVX.out, HVZ1.out, HVZ2.out⟩
                  · rw [e2]
                    have l1 := HX7.out.lt
                    have l2 := HZ7.out.lt
                    have l3 := HV7.out.lt
                    exact ⟨fun e3 => by have := Option.some.inj e3; omega, fun e3 => by have := Option.some.inj e3; omega, fun e3 => by have := Option.some.inj e3; omega⟩)
                clear hS0 hS7 hS8 hS9 HSS
                go_wp2_with fail
                exact ⟨⟨v9, j + 1, d2 ++ [(⟨KV, xi, (t : Int), (j : Int), hv, wv⟩ : Df)], rfl, by go_num, by omega, HO9.out, HB9.out, HX9.out, HZ9.out, HV9.out, HVN.out.1, HVN.out.2.1, HVN.out.2.2, Lib.hid (by rw [HL2.out, HDD.out, HDZ.out, List.append_assoc]), by rw [List.length_append]; simp; omega⟩, by simp [intOf]; omega⟩
            · have ej : j = 2 := by omega
              subst ej
              have HO := Lib.hid ho1
              have HBF := Lib.hid hB
              obtain ⟨A6, c6, hv6⟩ := ho1.shape
              subst hv6
              clear ho1 hB
              go_wp2_with fail
              exact ⟨⟨_, t + 1, d2, rfl, by go_num, by omega, HO.out, HBF.out, HX3.out, HVX.out, Lib.hid (by rw [HL2.out, HL1.out, HNX.out, HQE.out, List.append_assoc]), by omega⟩, by simp [intOf]; omega⟩
        · have et : t = m + 1 := by omega
          subst et
          have tz : ¬ ((m : Int) + 1 < (m : Int) + 1) := by omega
          have tz2 : ¬ ((m : Int) + 1 ≤ (m : Int)) := by omega
          have HO := Lib.hid ho1
          obtain ⟨A5, c5, hv5⟩ := ho1.shape
          subst hv5
          clear ho1 hX
          go_wp2_with fail
          refine ⟨⟨_, i + 1, d1, rfl, by go_num, hlt, HO.out, hB, Lib.hid ?_, ?_⟩, by simp [intOf]; omega⟩
          · have h8 : (List.range (m + 1)).take (m + 1) = List.range (m + 1) := List.take_of_length_le (by simp)
            rw [HL1.out, HL.out, HFM.out, h8]
          · have := hlen1
            omega
    · have HLE : Hid (ds = R) := Lib.hid (by rw [HL.out, HCD.out, List.take_of_length_le (by have := HN.out; omega)])
      have HO := Lib.hid (ho1.low (show w.heap.size ≤ w3.heap.size from HB3.out.size))
      have HBF := Lib.hid (HB3.out.trans (hB.mono HB3.out.size))
      obtain ⟨A5, c5, hv5⟩ := ho1.shape
      subst hv5
      clear ho1 hB
      go_wp2_with fail
      go_ret
      rw [← HLE.out]
      exact ⟨_, rfl, HO.out, HBF.out⟩
theorem ichkR_no {l : List Nd} {k : List Ld} {h : Int} (hn : ¬ (chkV l = 0 ∧ lvB h = true)) : ichkR l k h = [] := if_neg hn
set_option maxRecDepth 100000 in
set_option maxHeartbeats 800000 in
theorem rcheck7_any (A A2 : Option Addr) (l : List Nd) (k : List Ld) (c c2 : Nat) (h : Int) (w : World) (hl : Nds w w.heap.size A l) (hk : Lds w w.heap.size A2 k) (hkn : k.length ≤ maxLen) (hwd : ∀ x ∈ l, x.word < 4294967296) :
    Calls Tryz.prog 37 #[.slice A l.length c, .slice A2 k.length c2, .int .i64 h] w (DfsP (ichkR l k h) w) := by
  by_cases hE : chkV l = 0 ∧ lvB h = true
  · have h2 : 0 ≤ h ∧ h ≤ 16 := by simpa [lvB] using hE.2
    obtain ⟨m, rfl⟩ := Int.eq_ofNat_of_zero_le h2.1
    have := rcheck7_ok A A2 l k c c2 m w hl hk hkn hE.1 (by omega)
    unfold ichkR
    rw [if_pos hE, show ((m : Int) + 1).toNat = m + 1 by omega]
    exact this
  · have HN := Lib.hid (rnormal_any A A2 l k c c2 h w hl hk hkn hwd)
    rw [ichkR_no hE]
    have HR : Hid (nrmR l k h = []) := Lib.hid (if_neg hE)
    rw [HR.out] at HN
    clear hE hl hk hwd hkn HR
    go_enter Tryz.func37, Tryz.ntmps37
    go_wp2_with fail
    refine (HN.out).mono ?_
    rintro e w3 ⟨v3, rfl, hO, hb3⟩
    obtain ⟨A4, c4, hv⟩ := hO.shape
    simp only [List.length_nil] at hv
    subst hv
    have HB3 := Lib.hid hb3
    clear hb3 hO HN
    go_wp2_with fail
    go_loopw [7, 9] (fun vo vi wr => vo = .slice none 0 0 ∧ vi = .int .i64 0 ∧ w3 = wr) (fun _ vi _ => 0)
    case atStart => exact ⟨rfl, rfl, rfl⟩
    case round =>
      obtain ⟨rfl, rfl, rfl⟩ := hrel
      go_wp2_with fail
      go_ret
      exact ⟨_, rfl, OwnDf.nil _ _, HB3.out⟩
end Go.Proofs.YteepijefbdbhoaaGreatDoor
