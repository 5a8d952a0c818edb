/-
  Merge of package bulk. Conditions: what is read can be read.
  within and Cut of package bulk. Conditions: what is read can be read.
  Cut of package bulk. Conditions: what is read can be read.
-/
import Derived.Test.YtddcfiiahahkbaaDoorLvC
import Derived.Test.YtddcfiiahahkbaaDoorLvE
import Derived.Test.YtddcfiiahahkbaaDoorLnC
import Derived.Deep.DeepCutAuto
import Derived.Deep.CutBlock
import Derived.Test.YtddcfiiahahkbaaDoorKsC
import Derived.Deep.RegionHeld3
namespace Go.Proofs.YtddcfiiahahkbaaDoor
section
open Go.RowKit Go.Maps

def mgF (b : List Nd) (k : Nat) : Int → Option Value := fun i => if i ∈ (b.take k).map Nd.id then some (.int .i64 1) else none
theorem mgF_zero (b : List Nd) : mgF b 0 = fun _ => none := by
  funext i
  simp [mgF]
theorem mgF_next {b : List Nd} {k : Nat} (h : k < b.length) (i : Int) : updV (mgF b k) b[k].id (.int .i64 1) i = mgF b (k + 1) i := by
  unfold updV mgF
  rw [List.take_succ_eq_append_getElem h, List.map_append]
  by_cases e : i = b[k].id
  · subst e
    simp
  · simp [e]
theorem mgF_at (b : List Nd) (i : Int) : (mgF b b.length i).getD (.int .i64 0) = .int .i64 (nwM b i) := by
  unfold mgF nwM
  rw [List.take_length]
  split <;> rfl
def mgE (a : List Nd) (al : List Ld) (b : List Nd) (bl : List Ld) (h : Int) : Int := if lvB h = false then 2 else if (exaB a al h && exaB b bl h) = false then 1 else chkV (a ++ b)
def MgOk (R : List Ld) (w : World) (e : Ending) (w' : World) : Prop := ∃ v, e = .returned (.tuple #[v, .int .i64 0]) ∧ OwnD w' w.heap.size v R ∧ Below w.heap.size w w'
/-- What Merge answers. -/
def MergeP (a : List Nd) (al : List Ld) (b : List Nd) (bl : List Ld) (h : Int) (w : World) (e : Ending) (w' : World) : Prop :=
  (mgE a al b bl h ≠ 0 ∧ e = .returned (.tuple #[.slice none 0 0, .int .i64 (mgE a al b bl h)]) ∧ Below w.heap.size w w') ∨ (mgE a al b bl h = 0 ∧ MgOk (bldV (a ++ b) (h + 1).toNat) w e w')
theorem exaB_true {l : List Nd} {k : List Ld} {m : Nat} (h : exaB l k (m : Int) = true) : chkV l = 0 ∧ k = bldV l (m + 1) := by
  unfold exaB at h
  simp only [Bool.and_eq_true, decide_eq_true_eq] at h
  obtain ⟨h1, h2⟩ := h
  rw [show ((m : Int) + 1).toNat = m + 1 by omega] at h2
  refine ⟨?_, h2⟩
  unfold bldE at h1
  split at h1
  · assumption
  · cases h1
theorem two_new (w : World) (t : TypeId) (x y : Value) : (w.alloc (.cells #[x, y] t)).cell? ⟨w.heap.size, 0, none⟩ = some x ∧ (w.alloc (.cells #[x, y] t)).cell? ⟨w.heap.size, 1, none⟩ = some y ∧ w.heap.size < (w.alloc (.cells #[x, y] t)).heap.size :=
  ⟨(Has.new w t #[x, y]).cell 0, (Has.new w t #[x, y]).cell 1, by rw [World.size_alloc]; omega⟩
theorem all_bound {l : List Nd} (hc : chkV l = 0) (M : Nat) : ∀ x ∈ bldV l M, -9223372036854775808 ≤ x.id ∧ x.id ≤ 9223372036854775807 := fun x hx => (bldV_wide (wide_of hc) M x hx).1
set_option maxRecDepth 100000 in
set_option maxHeartbeats 3200000 in
theorem merge_ok (A1 A2 A3 A4 : Option Addr) (a b : List Nd) (al bl : List Ld) (c1 c2 c3 c4 m : Nat) (w : World) (ha : Nds w w.heap.size A1 a) (hal : Lds w w.heap.size A2 al) (hb : Nds w w.heap.size A3 b) (hbl : Lds w w.heap.size A4 bl) (hea : exaB a al (m : Int) = true) (heb : exaB b bl (m : Int) = true) (hm : m ≤ 16) (hc : chkV (a ++ b) = 0) :
    Calls Tryd.prog 21 #[.slice A1 a.length c1, .slice A2 al.length c2, .slice A3 b.length c3, .slice A4 bl.length c4, .int .i64 (m : Int)] w (MgOk (bldV (a ++ b) (m + 1)) w) := by
  obtain ⟨hca, eal⟩ := exaB_true hea
  obtain ⟨hcb, ebl⟩ := exaB_true heb
  have hna := (chkV_zero.1 hca).1
  have hnb := (chkV_zero.1 hcb).1
  have hnl : al.length = a.length := by rw [eal, bld_len]
  have hnl2 : bl.length = b.length := by rw [ebl, bld_len]
  have HI := Lib.hid (fun (W : World) => (isLevelB_any (m : Int) W).mono fun e w' h => (⟨by rw [h.1]; simp [lvB]; omega, h.2⟩ : e = .returned (.bool true) ∧ W = w'))
  have HE1 := Lib.hid ((exact_any A1 A2 a al c1 c2 (m : Int) w ha hal (by unfold maxLen; omega) (fun x hx => (wide_of hca x hx).2)).mono fun e w' h => (⟨by rw [h.1, hea], h.2⟩ : e = .returned (.bool true) ∧ Below w.heap.size w w'))
  have HE2 := Lib.hid (fun (W : World) (j : Below w.heap.size w W) => (exact_any A3 A4 b bl c3 c4 (m : Int) W ((hb.below j).more j.size) ((hbl.below j).more j.size) (by unfold maxLen; omega) (fun x hx => (wide_of hcb x hx).2)).mono fun e w' h => (⟨by rw [h.1, heb], h.2⟩ : e = .returned (.bool true) ∧ Below W.heap.size W w'))
  have HC1 := Lib.hid (fun (W : World) (j : Below w.heap.size w W) => (by
    obtain ⟨x0, x1, x2⟩ := two_new W 23 (.slice A1 a.length c1) (.slice A3 b.length c3)
    have hk := j.trans (((Below.refl W.heap.size W).alloc (Nat.le_refl _) (.cells #[.slice A1 a.length c1, .slice A3 b.length c3] 23)).mono j.size)
    exact concatN_any W.heap.size A1 A3 a b c1 c3 _ x0 x1 x2 ((ha.below hk).more hk.size) ((hb.below hk).more hk.size) (by omega) (by omega) : Calls Tryd.prog 46 #[.slice (some ⟨W.heap.size, 0, none⟩) 2 2] (W.alloc (.cells #[.slice A1 a.length c1, .slice A3 b.length c3] 23)) (NdsP (a ++ b) (W.alloc (.cells #[.slice A1 a.length c1, .slice A3 b.length c3] 23)))))
  have HC2 := Lib.hid (fun (W : World) (j : Below w.heap.size w W) => (by
    obtain ⟨x0, x1, x2⟩ := two_new W 40 (.slice A2 al.length c2) (.slice A4 bl.length c4)
    have hk := j.trans (((Below.refl W.heap.size W).alloc (Nat.le_refl _) (.cells #[.slice A2 al.length c2, .slice A4 bl.length c4] 40)).mono j.size)
    exact concatD_any W.heap.size A2 A4 al bl c2 c4 _ x0 x1 x2 ((hal.below hk).more hk.size) ((hbl.below hk).more hk.size) (by omega) (by omega) : Calls Tryd.prog 49 #[.slice (some ⟨W.heap.size, 0, none⟩) 2 2] (W.alloc (.cells #[.slice A2 al.length c2, .slice A4 bl.length c4] 40)) (CpDP (al ++ bl) (W.alloc (.cells #[.slice A2 al.length c2, .slice A4 bl.length c4] 40)))))
  have HB3 := Lib.hid hb
  have HWB := Lib.hid (fun (x : Nd) (hx : x ∈ b) => (wide_of hcb x hx).1)
  have HNX := Lib.hid (fun (k : Nat) (h : k < b.length) (i : Int) => mgF_next h i)
  have hln : (a ++ b).length ≤ 64 := (chkV_zero.1 hc).1
  have HCK := Lib.hid (fun (W : World) (A : Option Addr) (c : Nat) (h : Nds W W.heap.size A (a ++ b)) => (check_any A (a ++ b) c W h (fun x hx => (wide_of hc x hx).2)).mono fun e w' k => (⟨by rw [k.1, hc], k.2⟩ : e = .returned (.int .i64 0) ∧ Below W.heap.size W w'))
  have HST := Lib.hid (fun (W : World) (A : Option Addr) (c : Nat) (h : Nds W W.heap.size A (a ++ b)) => sortR_any A (a ++ b) c W h hc)
  have HNM := Lib.hid (fun (W : World) (A A' : Option Addr) (c c' : Nat) (h : Nds W W.heap.size A (a ++ b)) (h2 : Lds W W.heap.size A' (al ++ bl)) => normal_ok A A' (a ++ b) (al ++ bl) c c' m W h h2 (fun x hx => (List.mem_append.1 hx).elim (fun k => all_bound hca (m + 1) x (eal ▸ k)) (fun k => all_bound hcb (m + 1) x (ebl ▸ k))) (by rw [List.length_append]; unfold maxLen; omega) hc hm)
  have hsl : (srt (a ++ b)).length = (a ++ b).length := (srt_srt _).1.length_eq
  have HCN := Lib.hid (fun (A : Option Addr) (c : Nat) (v : Value) (base bm nm t : Nat) (ls : List Ld) (W : World) (hS : Nds W base A (srt (a ++ b))) hv hbs hll hall ht hvm hbm => connect_any A (srt (a ++ b)) c v base bm nm ls (mgF b b.length) (nwM b) t (m + 1) W hS (by omega) (fun x hx => wide_of hc x (srt_mem.1 hx)) hv hbs hll hall ht (by omega) hvm hbm (fun x _ => mgF_at b x.id))
  have HLA : Hid (cAll (srt (a ++ b)) (nwM b) (m + 1) (nrmV (a ++ b) (al ++ bl) (m + 1)) = bldV (a ++ b) (m + 1)) := Lib.hid (by
    rw [eal, ebl]
    exact merge_all hca hcb hc (by omega) fun x _ => rfl)
  have HAL := Lib.hid (fun t => cAll_all (S := srt (a ++ b)) (nw := nwM b) (nrm_all (a ++ b) (al ++ bl) (m + 1)) t)
  have HLN : Hid (∀ t, (cAll (srt (a ++ b)) (nwM b) t (nrmV (a ++ b) (al ++ bl) (m + 1))).length = (srt (a ++ b)).length) := Lib.hid fun t => by rw [cAll_len, nrm_len]
  have HB0 := Lib.hid (Below.refl w.heap.size w)
  rw [hsl] at HCN
  generalize nrmV (a ++ b) (al ++ bl) (m + 1) = N0 at *
  generalize bldV (a ++ b) (m + 1) = R at *
  generalize al ++ bl = kl' at *
  generalize a ++ b = l at *
  obtain ⟨an, han⟩ : ∃ n, n = a.length := ⟨_, rfl⟩
  obtain ⟨bn, hbn⟩ : ∃ n, n = b.length := ⟨_, rfl⟩
  obtain ⟨LN, hLN⟩ : ∃ n, n = l.length := ⟨_, rfl⟩
  have HBN := Lib.hid hbn
  have HLNN := Lib.hid hLN
  rw [hnl, ← han] at HE1 HC2 ⊢
  rw [hnl2, ← hbn] at HE2 HC2 ⊢
  rw [← han] at HC1 hna
  rw [← hbn] at HC1 hnb
  rw [← hLN] at HCK HST HNM hln
  clear ha hal hb hbl hea heb hc hca eal hcb ebl hnl hnl2 han hbn hLN hsl
  have hmm := @run_makeMap Tryd.prog
  go_enter Tryd.func21, Tryd.ntmps21
  go_wp2_with fail
  refine (HI.out _).mono ?_
  rintro e w1 ⟨rfl, rfl⟩
  go_wp2_with fail
  refine (HE1.out).mono ?_
  rintro e w1 ⟨rfl, hb1⟩
  have HB1 := Lib.hid hb1
  clear hb1 HE1 HI HB0
  go_wp2_with fail
  refine (HE2.out _ HB1.out).mono ?_
  rintro e w2 ⟨rfl, hb2⟩
  have HB2 := Lib.hid (HB1.out.trans (hb2.mono HB1.out.size))
  clear hb2 HE2 HB1
  go_wp2_with fail
  refine (HC1.out _ HB2.out).mono ?_
  rintro e w3 ⟨A5, c5, rfl, ho5, hb5⟩
  have hbX := (Below.refl w2.heap.size w2).alloc (Nat.le_refl _) (.cells #[.slice A1 an c1, .slice A3 bn c3] 23)
  have HB5 := Lib.hid (HB2.out.trans ((hbX.trans (hb5.mono hbX.size)).mono HB2.out.size))
  obtain ⟨_, _, er, hnd5⟩ := ho5.read
  injection er with e1 e3 e2
  clear e3
  subst e1 e2
  rw [← HLNN.out]
  have HN5 := Lib.hid hnd5
  have HCK5 := Lib.hid (HCK.out w3 A5 c5 hnd5)
  clear ho5 hb5 hbX hnd5 HC1 HB2 HCK
  go_wp2_with fail
  refine (HCK5.out).mono ?_
  rintro e w4 ⟨rfl, hb6⟩
  have HB6 := Lib.hid (HB5.out.trans (hb6.mono HB5.out.size))
  have HN6 := Lib.hid ((HN5.out.below hb6).more hb6.size)
  have HM0 := Lib.hid (VMap.made w4 (.int .i64 0))
  have HBM := Lib.hid ((Below.refl w4.heap.size w4).alloc (Nat.le_refl _) (.map #[] 0))
  have HN7 := Lib.hid ((HN6.out.below HBM.out).more HBM.out.size)
  obtain ⟨g, hg⟩ : ∃ g, g = w4.heap.size := ⟨_, rfl⟩
  have HGG : Hid (w.heap.size ≤ g) := Lib.hid (by rw [hg]; exact HB6.out.size)
  have HNG : Hid (Nds (w4.alloc (.map #[] 0)) g A5 l) := Lib.hid (by rw [hg]; exact HN6.out.below HBM.out)
  rw [← hg] at HM0
  clear hb6 HCK5 HB5 HN5 HN6
  go_upto_region 10 with fail
  rw [← hg]
  have HB7 := Lib.hid (HB6.out.trans (HBM.out.mono HB6.out.size))
  generalize w4.alloc (.map #[] 0) = W4 at *
  clear HBM HB6 hg HN7
  have hg4 := HM0.out.lt
  go_wp2_with fail
  go_loopw [47] (fun vk wr => ∃ k : Nat, vk = .int .i64 (k : Int) ∧ k ≤ bn ∧ Below g W4 wr ∧ ∃ n, n ≤ k ∧ VMap wr g n (.int .i64 0) (mgF b k)) (fun vk _ => bn - (intOf vk).toNat)
  case atStart => exact ⟨0, rfl, by omega, Below.refl _ _, 0, by omega, by rw [mgF_zero]; exact HM0.out⟩
  case round =>
    clear HM0
    obtain ⟨k, rfl, hk, hB, n, hnk, hM⟩ := hrel
    by_cases hlt : k < bn
    · have k1 : k < b.length := by rw [← HBN.out]; exact hlt
      obtain ⟨b2, o2, e2, hb2, f1, f2, f3⟩ := HB3.out.at_ k1
      have hbw := HB7.out.trans (hB.mono HGG.out)
      replace f1 := (hbw.cell (p := ⟨b2, o2 + k * 3, none⟩) hb2).trans f1
      replace f2 := (hbw.cell (p := ⟨b2, o2 + k * 3 + 1, none⟩) hb2).trans f2
      replace f3 := (hbw.cell (p := ⟨b2, o2 + k * 3 + 2, none⟩) hb2).trans f3
      have hxw := HWB.out _ (List.getElem_mem k1)
      have HFX := Lib.hid (HNX.out k k1)
      subst e2
      generalize b[k] = x at *
      obtain ⟨xi, xk, xw⟩ := x
      simp only at f1 f2 f3 hxw HFX
      have i0 : (0 : Int) ≤ (k : Int) := by omega
      have i1 : (k : Int) < (bn : Int) := by omega
      have hX := Has.new wr 39 #[.int .i64 xi, .string xk, .int .u32 (xw : Int)]
      have x0 := hX.cell 0
      have hbX := (Below.refl wr.heap.size wr).alloc (Nat.le_refl _) (.cells #[.int .i64 xi, .string xk, .int .u32 (xw : Int)] 39)
      have hgr : g ≤ wr.heap.size := Nat.le_of_lt hM.lt
      have HBX := Lib.hid (hB.trans (hbX.mono hgr))
      have HMX := Lib.hid (hM.below hbX)
      clear hX hbX hM hB hbw
      go_wp2_with (at_mapUpdate; refine wpList_vput _ rfl _ _ _ 80 rfl 3 Tryd.underlying80 g n _ _ HMX.out rfl (by unfold maxLen; omega) xi hxw (.int .i64 1) rfl rfl ?_; intro w5 hm5 hgr5; have HM5 := Lib.hid hm5; have HB5 := Lib.hid (HBX.out.grown hgr5 (by rw [World.size_alloc]; omega) (fun j e => (by have := Option.some.inj e; omega))); clear hm5 hgr5)
      exact ⟨⟨k + 1, by go_num, hlt, HB5.out, n + 1, by omega, HM5.out.congr HFX.out⟩, by simp [intOf]; omega⟩
    · have ek : k = b.length := by rw [← HBN.out]; omega
      have HM := Lib.hid hM
      have HBW := Lib.hid (HB7.out.trans (hB.mono HGG.out))
      have hgr : g ≤ wr.heap.size := Nat.le_of_lt hM.lt
      have HN8 := Lib.hid ((HNG.out.below hB).more hgr)
      rw [ek] at HM
      have HSS := Lib.hid (HST.out wr A5 c5 HN8.out)
      clear hM hB ek HST HNG
      go_wp2_with fail
      refine (HSS.out).mono ?_
      rintro e w5 ⟨A6, c6, rfl, ho6, hb8⟩
      obtain ⟨_, _, er, hnd6⟩ := ho6.read
      injection er with e1 e3 e2
      clear e3
      subst e1 e2
      have HS6 := Lib.hid hnd6
      have HBW6 := Lib.hid (HBW.out.trans (hb8.mono HBW.out.size))
      have HN9 := Lib.hid ((HN8.out.below hb8).more hb8.size)
      have HM6 := Lib.hid (HM.out.below hb8)
      have HC3 := Lib.hid (HC2.out w5 HBW6.out)
      clear ho6 hb8 hnd6 HBW HN8 HM HC2 HSS
      have hsn : (srt l).length = l.length := (srt_srt _).1.length_eq
      rw [hsn, ← HLNN.out]
      clear hsn
      go_wp2_with fail
      refine (HC3.out).mono ?_
      rintro e w6 ⟨v6, rfl, ho7, hb9⟩
      have hbY := (Below.refl w5.heap.size w5).alloc (Nat.le_refl _) (.cells #[.slice A2 an c2, .slice A4 bn c4] 40)
      have hbZ := hbY.trans (hb9.mono hbY.size)
      have HBW7 := Lib.hid (HBW6.out.trans (hbZ.mono HBW6.out.size))
      have HN10 := Lib.hid ((HN9.out.below hbZ).more hbZ.size)
      have HM7 := Lib.hid (HM6.out.below hbZ)
      have HS7 := Lib.hid ((HS6.out.below hbZ).more hbZ.size)
      obtain ⟨A7, c7, rfl, hld⟩ := ho7.read hb9.size
      have HNN := Lib.hid (HNM.out w6 A5 A7 c5 c7 HN10.out hld)
      clear hbY hbZ hb9 ho7 hld HC3 HBW6 HN9 HM6 HS6 HNM
      go_wp2_with fail
      refine (HNN.out).mono ?_
      rintro e w7 ⟨v, rfl, ho8, hb10⟩
      have HM8 := Lib.hid (HM7.out.below hb10)
      have HB8 := Lib.hid (HBW7.out.trans (hb10.mono HBW7.out.size))
      have HD8 := Lib.hid ho8
      obtain ⟨bs, hbs⟩ : ∃ bs, bs = w6.heap.size := ⟨_, rfl⟩
      have HS8 : Hid (Nds w7 bs A6 (srt l)) := Lib.hid (by rw [hbs]; exact HS7.out.below hb10)
      have hb1 : g < bs := by rw [hbs]; exact HM7.out.lt
      have hb2 : bs ≤ w7.heap.size := by rw [hbs]; exact hb10.size
      have hb4 : w.heap.size ≤ bs := by have := HGG.out; omega
      rw [← hbs] at HD8
      have HBR := Lib.hid (Below.refl bs w7)
      have hmz : (m : Int) ≤ 16 := by omega
      have hm0 : (0 : Int) ≤ (m : Int) := by omega
      clear ho8 hb10 HM7 HBW7 HN10 HS7 hbs HNN
      go_wp2_with fail
      go_loopw [66] (fun vt wr => ∃ (t : Nat), vt = .int .i64 (t : Int) ∧ t ≤ m + 1 ∧ OwnD wr bs v (cAll (srt l) (nwM b) t N0) ∧ Below bs w7 wr) (fun vt _ => m + 1 - (intOf vt).toNat)
      case atStart => exact ⟨0, rfl, by omega, HD8.out, HBR.out⟩
      case round =>
        clear HD8 HBR
        obtain ⟨t, rfl, ht, hD, hBw⟩ := hrel
        by_cases hltt : t < m + 1
        · have t1 : (t : Int) < (m : Int) + 1 := by omega
          have HCC := Lib.hid (HCN.out A6 c6 v bs g n t (cAll (srt l) (nwM b) t N0) _ (HS8.out.below hBw) hD (Nat.le_trans hb2 hBw.size) ((HLN.out t).trans (srt_srt _).1.length_eq) (HAL.out t) hltt (HM8.out.blk (hBw.block g hb1)) hb1)
          rw [← HLNN.out] at HCC
          obtain ⟨q, hq⟩ : ∃ q, q = cCnt (srt l) (nwM b) t LN := ⟨_, rfl⟩
          have HBW := Lib.hid hBw
          rw [← hq] at HCC
          clear hD hBw hq
          have t0 : (0 : Int) ≤ (t : Int) := by omega
          go_wp2_with fail
          refine (HCC.out).mono ?_
          rintro e w8 ⟨rfl, hD4, hB4⟩
          have HD4 := Lib.hid hD4
          have HB4 := Lib.hid (HBW.out.trans hB4)
          clear hD4 hB4 HCC HBW
          go_wp2_with fail
          exact ⟨⟨t + 1, by go_num, hltt, by have := HD4.out; rw [cAll, show (srt l).length = LN by rw [HLNN.out]; exact (srt_srt _).1.length_eq]; exact this, HB4.out⟩, by simp [intOf]; omega⟩
        · have et : t = m + 1 := by omega
          subst et
          have HDR := Lib.hid (hD.low hb4)
          rw [HLA.out] at HDR
          have HBR := Lib.hid (HB8.out.trans (hBw.mono hb4))
          clear hD hBw
          have hcz : ¬ ((m : Int) + 1 < (m : Int) + 1) := by omega
          go_wp2_with fail
          go_ret2
          exact ⟨v, rfl, HDR.out, HBR.out⟩
/-- Nothing but an error. -/
def ErrP (E : Int) (w : World) (e : Ending) (w' : World) : Prop := e = .returned (.tuple #[.slice none 0 0, .int .i64 E]) ∧ Below w.heap.size w w'
theorem mgE_cases (a : List Nd) (al : List Ld) (b : List Nd) (bl : List Ld) (h : Int) : (lvB h = false ∧ mgE a al b bl h = 2) ∨ (lvB h = true ∧ exaB a al h = false ∧ mgE a al b bl h = 1) ∨ (lvB h = true ∧ exaB a al h = true ∧ exaB b bl h = false ∧ mgE a al b bl h = 1) ∨ (lvB h = true ∧ exaB a al h = true ∧ exaB b bl h = true ∧ mgE a al b bl h = chkV (a ++ b)) := by
  unfold mgE
  cases h1 : lvB h <;> cases h2 : exaB a al h <;> cases h3 : exaB b bl h <;> simp
set_option maxRecDepth 100000 in
set_option maxHeartbeats 3200000 in
theorem merge_any (A1 A2 A3 A4 : Option Addr) (a b : List Nd) (al bl : List Ld) (c1 c2 c3 c4 : Nat) (h : Int) (w : World) (ha : Nds w w.heap.size A1 a) (hal : Lds w w.heap.size A2 al) (hb : Nds w w.heap.size A3 b) (hbl : Lds w w.heap.size A4 bl) (hwa : ∀ x ∈ a, x.word < 4294967296) (hwb : ∀ x ∈ b, x.word < 4294967296) (hn1 : al.length ≤ maxLen) (hn2 : bl.length ≤ maxLen) :
    Calls Tryd.prog 21 #[.slice A1 a.length c1, .slice A2 al.length c2, .slice A3 b.length c3, .slice A4 bl.length c4, .int .i64 h] w (MergeP a al b bl h w) := by
  have HI := Lib.hid (isLevelB_any h w)
  have HE1 := Lib.hid (exact_any A1 A2 a al c1 c2 h w ha hal hn1 hwa)
  have HE2 := Lib.hid (fun (W : World) (j : Below w.heap.size w W) => exact_any A3 A4 b bl c3 c4 h W ((hb.below j).more j.size) ((hbl.below j).more j.size) hn2 hwb)
  rcases mgE_cases a al b bl h with ⟨h1, he⟩ | ⟨h1, h2, he⟩ | ⟨h1, h2, h3, he⟩ | ⟨h1, h2, h3, he⟩
  · refine (show Calls Tryd.prog 21 _ w (ErrP 2 w) from ?_).mono fun e w' k => .inl ⟨by rw [he]; decide, by rw [he]; exact k.1, k.2⟩
    rw [h1] at HI
    clear ha hal hb hbl hwa hwb hn1 hn2 h1 he HE1 HE2
    generalize a.length = an
    generalize al.length = aln
    generalize b.length = bn
    generalize bl.length = bln
    go_enter Tryd.func21, Tryd.ntmps21
    go_wp2_with fail
    refine (HI.out).mono ?_
    rintro e w1 ⟨rfl, rfl⟩
    go_wp2_with fail
    go_ret2
    exact ⟨rfl, Below.refl _ _⟩
  · refine (show Calls Tryd.prog 21 _ w (ErrP 1 w) from ?_).mono fun e w' k => .inl ⟨by rw [he]; decide, by rw [he]; exact k.1, k.2⟩
    rw [h1] at HI
    rw [h2] at HE1
    clear ha hal hb hbl hwa hwb hn1 hn2 h1 h2 he HE2
    generalize a.length = an at *
    generalize al.length = aln at *
    generalize b.length = bn
    generalize bl.length = bln
    go_enter Tryd.func21, Tryd.ntmps21
    go_wp2_with fail
    refine (HI.out).mono ?_
    rintro e w1 ⟨rfl, rfl⟩
    go_wp2_with fail
    refine (HE1.out).mono ?_
    rintro e w1 ⟨rfl, hb1⟩
    go_wp2_with fail
    go_ret2
    exact ⟨rfl, hb1⟩
  · refine (show Calls Tryd.prog 21 _ w (ErrP 1 w) from ?_).mono fun e w' k => .inl ⟨by rw [he]; decide, by rw [he]; exact k.1, k.2⟩
    rw [h1] at HI
    rw [h2] at HE1
    rw [h3] at HE2
    clear ha hal hb hbl hwa hwb hn1 hn2 h1 h2 h3 he
    generalize a.length = an at *
    generalize al.length = aln at *
    generalize b.length = bn at *
    generalize bl.length = bln at *
    go_enter Tryd.func21, Tryd.ntmps21
    go_wp2_with fail
    refine (HI.out).mono ?_
    rintro e w1 ⟨rfl, rfl⟩
    go_wp2_with fail
    refine (HE1.out).mono ?_
    rintro e w1 ⟨rfl, hb1⟩
    have HB1 := Lib.hid hb1
    clear hb1
    go_wp2_with fail
    refine (HE2.out _ HB1.out).mono ?_
    rintro e w2 ⟨rfl, hb2⟩
    have HB2 := Lib.hid (HB1.out.trans (hb2.mono HB1.out.size))
    clear hb2
    go_wp2_with fail
    go_ret2
    exact ⟨rfl, HB2.out⟩
  · obtain ⟨m, rfl⟩ : ∃ m : Nat, h = (m : Int) := ⟨h.toNat, by have : 0 ≤ h := by { have := h1; simp [lvB] at this; omega }; omega⟩
    have hm : m ≤ 16 := by have := h1; simp [lvB] at this; omega
    by_cases hc : chkV (a ++ b) = 0
    · refine (merge_ok A1 A2 A3 A4 a b al bl c1 c2 c3 c4 m w ha hal hb hbl h2 h3 hm hc).mono fun e w' k => .inr ⟨by rw [he, hc], ?_⟩
      rw [show ((m : Int) + 1).toNat = m + 1 by omega]
      exact k
    · refine (show Calls Tryd.prog 21 _ w (ErrP (chkV (a ++ b)) w) from ?_).mono fun e w' k => .inl ⟨by rw [he]; exact hc, by rw [he]; exact k.1, k.2⟩
      have hna := (chkV_zero.1 (exaB_true h2).1).1
      have hnb := (chkV_zero.1 (exaB_true h3).1).1
      have HC1 := Lib.hid (fun (W : World) (j : Below w.heap.size w W) => (by
        obtain ⟨x0, x1, x2⟩ := two_new W 23 (.slice A1 a.length c1) (.slice A3 b.length c3)
        have hk := j.trans (((Below.refl W.heap.size W).alloc (Nat.le_refl _) (.cells #[.slice A1 a.length c1, .slice A3 b.length c3] 23)).mono j.size)
        exact concatN_any W.heap.size A1 A3 a b c1 c3 _ x0 x1 x2 ((ha.below hk).more hk.size) ((hb.below hk).more hk.size) (by omega) (by omega) : Calls Tryd.prog 46 #[.slice (some ⟨W.heap.size, 0, none⟩) 2 2] (W.alloc (.cells #[.slice A1 a.length c1, .slice A3 b.length c3] 23)) (NdsP (a ++ b) (W.alloc (.cells #[.slice A1 a.length c1, .slice A3 b.length c3] 23)))))
      have HCK := Lib.hid (fun (W : World) (A : Option Addr) (c : Nat) (h : Nds W W.heap.size A (a ++ b)) => check_any A (a ++ b) c W h (fun x hx => (List.mem_append.1 hx).elim (hwa x) (hwb x)))
      have hz : (chkV (a ++ b) != 0) = true := by simpa using hc
      generalize chkV (a ++ b) = cv at *
      generalize a ++ b = l at *
      obtain ⟨LN, hLN⟩ : ∃ n, n = l.length := ⟨_, rfl⟩
      have HLNN := Lib.hid hLN
      rw [← hLN] at HCK
      rw [h1] at HI
      rw [h2] at HE1
      rw [h3] at HE2
      clear ha hal hb hbl hwa hwb hn1 hn2 h1 h2 h3 he hna hnb hc hLN
      generalize a.length = an at *
      generalize al.length = aln at *
      generalize b.length = bn at *
      generalize bl.length = bln at *
      go_enter Tryd.func21, Tryd.ntmps21
      go_wp2_with fail
      refine (HI.out).mono ?_
      rintro e w1 ⟨rfl, rfl⟩
      go_wp2_with fail
      refine (HE1.out).mono ?_
      rintro e w1 ⟨rfl, hb1⟩
      have HB1 := Lib.hid hb1
      clear hb1
      go_wp2_with fail
      refine (HE2.out _ HB1.out).mono ?_
      rintro e w2 ⟨rfl, hb2⟩
      have HB2 := Lib.hid (HB1.out.trans (hb2.mono HB1.out.size))
      clear hb2
      go_wp2_with fail
      refine (HC1.out _ HB2.out).mono ?_
      rintro e w3 ⟨A5, c5, rfl, ho5, hb5⟩
      have hbX := (Below.refl w2.heap.size w2).alloc (Nat.le_refl _) (.cells #[.slice A1 an c1, .slice A3 bn c3] 23)
      have HB5 := Lib.hid (HB2.out.trans ((hbX.trans (hb5.mono hbX.size)).mono HB2.out.size))
      obtain ⟨_, _, er, hnd5⟩ := ho5.read
      injection er with e1 e3 e2
      clear e3
      subst e1 e2
      rw [← HLNN.out]
      have HCK5 := Lib.hid (HCK.out w3 A5 c5 hnd5)
      clear ho5 hb5 hbX hnd5 HC1 HB2 HCK
      go_wp2_with fail
      refine (HCK5.out).mono ?_
      rintro e w4 ⟨rfl, hb6⟩
      have HB6 := Lib.hid (HB5.out.trans (hb6.mono HB5.out.size))
      clear hb6
      go_wp2_with fail
      go_ret2
      exact ⟨rfl, HB6.out⟩
end
section
open Go.RowKit Go.Maps

def KrwP (lv : List Lk) (w : World) (e : Ending) (w' : World) : Prop := ∃ v, e = .returned v ∧ OwnK w' w.heap.size v lv ∧ Below w.heap.size w w'
set_option maxRecDepth 100000 in
set_option maxHeartbeats 800000 in
theorem cloneK_any (A : Option Addr) (lv : List Lk) (c : Nat) (w : World) (hl : Lks w w.heap.size A lv) (hn : lv.length ≤ 1000) :
    Calls Tryd.prog 80 #[.slice A lv.length c] w (KrwP lv w) := by
  have q23 : ∀ (w : World) (a : Option Addr) (n c n' c' : Nat), (binOp .eql 69 (.slice a n c) (.slice none n' c')).run Tryd.prog w = .ok (.bool a.isNone) w := fun w a n c n' c' => Lib.run_eql_slice_nil w _ _ a n c n' c' Tryd.underlying69
  cases A with
  | none =>
    have hl0 : lv = [] := by
      rcases List.eq_nil_or_concat lv with h | ⟨a, b, h⟩
      · exact h
      · obtain ⟨b, o, e, _⟩ := hl (by rw [h]; simp)
        cases e
    subst hl0
    clear hl
    go_enter Tryd.func80, Tryd.ntmps80
    go_wp2_with fail
    go_ret
    exact ⟨_, rfl, OwnK.nil _ _, Below.refl _ _⟩
  | some a =>
    obtain ⟨inf, hif, hif1, hif2, hif3⟩ := infoK_parts
    obtain ⟨n, hn'⟩ : ∃ n, n = lv.length := ⟨_, rfl⟩
    have HN := Lib.hid hn'
    rw [← hn'] at hn ⊢
    have HL := Lib.hid hl
    clear hn' hl
    go_enter Tryd.func80, Tryd.ntmps80
    go_wp2_with (at_builtin; refine wpList_copyK2 rfl _ _ 69 rfl inf Tryd.underlying69 hif hif1 hif2 hif3 w (some a) lv c HL.out (by rw [← HN.out]; omega) rfl (by rw [← HN.out]; rfl) ?_; intro v1 w1 ho hb)
    go_ret
    exact ⟨_, rfl, ho, hb⟩
def wiF (ids : List Int) (k : Nat) : Int → Option Value := fun i => if i ∈ ids.take k then some (.bool true) else none
theorem wiF_zero (ids : List Int) : wiF ids 0 = fun _ => none := by
  funext i
  simp [wiF]
theorem wiF_next {ids : List Int} {k : Nat} (h : k < ids.length) (i : Int) : updV (wiF ids k) ids[k] (.bool true) i = wiF ids (k + 1) i := by
  unfold updV wiF
  have e1 : i ∈ ids.take (k + 1) ↔ i ∈ ids.take k ∨ i = ids[k] := by
    rw [List.take_succ_eq_append_getElem h, List.mem_append, List.mem_singleton]
  by_cases e : i = ids[k]
  · rw [if_pos e, if_pos (e1.2 (.inr e))]
  · rw [if_neg e]
    by_cases h2 : i ∈ ids.take k
    · rw [if_pos h2, if_pos (e1.2 (.inl h2))]
    · rw [if_neg h2, if_neg (fun h3 => (e1.1 h3).elim h2 e)]
theorem wiF_at (ids : List Int) (i : Int) : (wiF ids ids.length i).getD (.bool false) = .bool (decide (i ∈ ids)) := by
  unfold wiF
  rw [List.take_length]
  by_cases h : i ∈ ids
  · rw [if_pos h, decide_eq_true h]; rfl
  · rw [if_neg h, decide_eq_false h]; rfl
def witR (ids : List Int) (lv : List Lk) (t : Nat) : List Lk := (lv.take t).map (witK ids) ++ lv.drop t
theorem witR_len (ids : List Int) (lv : List Lk) (t : Nat) : (witR ids lv t).length = lv.length := by
  unfold witR
  simp
  omega
theorem witR_zero (ids : List Int) (lv : List Lk) : witR ids lv 0 = lv := by simp [witR]
theorem witR_all (ids : List Int) (lv : List Lk) {t : Nat} (h : lv.length ≤ t) : witR ids lv t = lv.map (witK ids) := by
  unfold witR
  rw [List.take_of_length_le h, List.drop_eq_nil_of_le h, List.append_nil]
theorem witR_at {ids : List Int} {lv : List Lk} {t : Nat} (h : t < (witR ids lv t).length) (h2 : t < lv.length) : (witR ids lv t)[t] = lv[t] := by
  have e : ((lv.take t).map (witK ids)).length = t := by simp; omega
  have h3 : (witR ids lv t)[t]? = some lv[t] := by
    unfold witR
    rw [List.getElem?_append_right (by omega), e, Nat.sub_self, List.getElem?_drop, Nat.add_zero, List.getElem?_eq_getElem h2]
  rw [List.getElem?_eq_getElem h] at h3
  exact Option.some.inj h3
theorem witR_next {ids : List Int} {lv : List Lk} {t : Nat} (h2 : t < lv.length) : (witR ids lv t).set t (witK ids lv[t]) = witR ids lv (t + 1) := by
  have e : ((lv.take t).map (witK ids)).length = t := by simp; omega
  unfold witR
  rw [List.set_append_right _ _ (by omega), e, Nat.sub_self, List.take_succ_eq_append_getElem h2, List.map_append, List.append_assoc, List.drop_eq_getElem_cons h2, List.set_cons_zero]
  rfl
def witT (ids : List Int) (ls : List Ld) (k : Nat) : List Ld := (ls.take k).map fun x => ⟨x.id, x.levels.map (witK ids)⟩
theorem witT_next {ids : List Int} {ls : List Ld} {k : Nat} (h : k < ls.length) : witT ids ls (k + 1) = witT ids ls k ++ [⟨ls[k].id, ls[k].levels.map (witK ids)⟩] := by
  unfold witT
  rw [List.take_succ_eq_append_getElem h, List.map_append]
  rfl
theorem witT_all (ls : List Ld) : witT (ls.map Ld.id) ls ls.length = witV ls := by
  unfold witT witV
  rw [List.take_length]
theorem witT_len (ids : List Int) (ls : List Ld) (k : Nat) : (witT ids ls k).length ≤ ls.length := by
  unfold witT
  simp
  omega
def OwnDP (R : List Ld) (w : World) (e : Ending) (w' : World) : Prop := ∃ v, e = .returned v ∧ OwnD w' w.heap.size v R ∧ Below w.heap.size w w'
set_option maxRecDepth 100000 in
set_option maxHeartbeats 6400000 in
theorem within_any (A : Option Addr) (ls : List Ld) (c : Nat) (w : World) (hl : Lds w w.heap.size A ls) (hn : ls.length ≤ 1000) (hn2 : ∀ x ∈ ls, x.levels.length ≤ 1000) (hw : ∀ x ∈ ls, I64 x.id ∧ ∀ y ∈ x.levels, LkW y) :
    Calls Tryd.prog 55 #[.slice A ls.length c] w (OwnDP (witV ls) w) := by
  have HL := Lib.hid hl
  have HN2 := Lib.hid hn2
  have HW := Lib.hid hw
  obtain ⟨ids, hids⟩ : ∃ ids, ids = ls.map Ld.id := ⟨_, rfl⟩
  have HIA : Hid (∀ i (h : i < ids.length) (h2 : i < ls.length), ids[i] = ls[i].id) := Lib.hid fun i h h2 => by subst hids; simp
  have HIL : Hid (ids.length = ls.length) := Lib.hid (by rw [hids]; simp)
  have HNX := Lib.hid (fun (k : Nat) (h : k < ids.length) (i : Int) => wiF_next h i)
  have HAT := Lib.hid (fun (i : Int) => wiF_at ids i)
  have HTN := Lib.hid (fun (k : Nat) (h : k < ls.length) => witT_next (ids := ids) h)
  have HTA : Hid (witT ids ls ls.length = witV ls) := Lib.hid (by rw [hids]; exact witT_all ls)
  have HTL := Lib.hid (fun (k : Nat) => witT_len ids ls k)
  have HT0 : Hid (witT ids ls 0 = []) := Lib.hid rfl
  generalize witV ls = R at *
  have HM0 := Lib.hid (VMap.made w (.bool false))
  have HBM := Lib.hid ((Below.refl w.heap.size w).alloc (Nat.le_refl _) (.map #[] 0))
  obtain ⟨g, hg⟩ : ∃ g, g = w.heap.size := ⟨_, rfl⟩
  have HG := Lib.hid hg
  rw [← hg] at HM0
  obtain ⟨N, hN⟩ : ∃ N, N = ls.length := ⟨_, rfl⟩
  have HN := Lib.hid hN
  rw [← hN] at hn HIL ⊢
  have hmm := @run_makeMap Tryd.prog
  obtain ⟨inf, hif, hif1, hif2, hif3⟩ := infoP_parts
  clear hl hn2 hw hids hN
  go_enter Tryd.func55, Tryd.ntmps55
  go_wp2_with fail
  rw [← hg]
  clear hg
  go_loopw [15] (fun vk wr => ∃ k : Nat, vk = .int .i64 (k : Int) ∧ k ≤ N ∧ Below w.heap.size w wr ∧ ∃ n, n ≤ k ∧ VMap wr g n (.bool false) (wiF ids k)) (fun vk _ => N - (intOf vk).toNat)
  case atStart => exact ⟨0, rfl, by omega, HBM.out, 0, by omega, by rw [wiF_zero]; exact HM0.out⟩
  case round =>
    clear HM0 HBM
    obtain ⟨k, rfl, hk, hB, n, hnk, hM⟩ := hrel
    by_cases hlt : k < N
    · have k1 : k < ls.length := by rw [← HN.out]; exact hlt
      have k2 : k < ids.length := by rw [HIL.out]; exact hlt
      obtain ⟨b, o, e2, hb, f1, A', c', f2, -⟩ := HL.out.at_ k1
      replace f1 := (hB.cell (p := ⟨b, o + k * 2, none⟩) hb).trans f1
      replace f2 := (hB.cell (p := ⟨b, o + k * 2 + 1, none⟩) hb).trans f2
      have hxw := (HW.out _ (List.getElem_mem k1)).1
      have HFX := Lib.hid (HNX.out k k2)
      rw [HIA.out k k2 k1] at HFX
      subst e2
      generalize ls[k].levels.length = m at *
      generalize ls[k].id = xi at *
      have i0 : (0 : Int) ≤ (k : Int) := by omega
      have i1 : (k : Int) < (N : Int) := by omega
      have hX := Has.new wr 71 #[.int .i64 xi, .slice A' m c']
      have x0 := hX.cell 0
      have hbX := (Below.refl wr.heap.size wr).alloc (Nat.le_refl _) (.cells #[.int .i64 xi, .slice A' m c'] 71)
      have HBX := Lib.hid (hB.trans (hbX.mono hB.size))
      have HMX := Lib.hid (hM.below hbX)
      clear hX hbX hM hB
      go_wp2_with (at_mapUpdate; refine wpList_vput _ rfl _ _ _ 116 rfl 4 Tryd.underlying116 g n _ _ HMX.out rfl (by unfold maxLen; omega) xi hxw (.bool true) rfl rfl ?_; intro w5 hm5 hgr5; have HM5 := Lib.hid hm5; have HB5 := Lib.hid (HBX.out.grown hgr5 HBX.out.size (fun j e => (by have := Option.some.inj e; have := HG.out; omega))); clear hm5 hgr5)
      exact ⟨⟨k + 1, by go_num, hlt, HB5.out, n + 1, by omega, HM5.out.congr HFX.out⟩, by simp [intOf]; omega⟩
    · have ek : k = ids.length := by rw [HIL.out]; omega
      have HM := Lib.hid hM
      have HB := Lib.hid hB
      rw [ek] at HM
      have hgw := hM.lt
      obtain ⟨W1, hW1⟩ : ∃ W1, W1 = wr := ⟨_, rfl⟩
      subst hW1
      clear hM hB ek
      go_wp2_with fail
      go_loopw [6, 25] (fun vo vi wr => ∃ (i : Nat) (v1 : Value), vi = .int .i64 (i : Int) ∧ v1 = vo ∧ i ≤ N ∧ OwnD wr W1.heap.size v1 (witT ids ls i) ∧ Below W1.heap.size W1 wr) (fun _ vi _ => N - (intOf vi).toNat)
      case atStart => exact ⟨0, _, rfl, rfl, by omega, by rw [HT0.out]; exact OwnD.nil _ _, Below.refl _ _⟩
      case round =>
        obtain ⟨i, v1, rfl, rfl, hi, hD, hBw⟩ := hrel
        by_cases hlti : i < N
        · have k1 : i < ls.length := by rw [← HN.out]; exact hlti
          obtain ⟨b, o, e2, hb, f1, A', c', f2, hc1, hc2, hlk⟩ := HL.out.at_ k1
          have hBt := HB.out.trans (hBw.mono HB.out.size)
          replace f1 := (hBt.cell (p := ⟨b, o + i * 2, none⟩) hb).trans f1
          replace f2 := (hBt.cell (p := ⟨b, o + i * 2 + 1, none⟩) hb).trans f2
          have hlw := HN2.out _ (List.getElem_mem k1)
          have HYW := Lib.hid (HW.out _ (List.getElem_mem k1)).2
          have HTX := Lib.hid (HTN.out i k1)
          subst e2
          generalize ls[i].levels = lv at *
          generalize ls[i].id = xi at *
          have i0 : (0 : Int) ≤ (i : Int) := by omega
          have i1 : (i : Int) < (N : Int) := by omega
          have hX := Has.new wr 71 #[.int .i64 xi, .slice A' lv.length c']
          have hbX := (Below.refl wr.heap.size wr).alloc (Nat.le_refl _) (.cells #[.int .i64 xi, .slice A' lv.length c'] 71)
          have HHX := Lib.hid hX
          have HBX := Lib.hid hbX
          have HCL := Lib.hid (cloneK_any A' lv c' _ ((hlk.below (hBt.trans (hbX.mono hBt.size))).more (Nat.le_trans hBt.size hbX.size)) hlw)
          have HDR := Lib.hid hD
          have HBW := Lib.hid hBw
          obtain ⟨n2, hn2'⟩ : ∃ n2, n2 = lv.length := ⟨_, rfl⟩
          have HNL := Lib.hid hn2'
          rw [← hn2'] at HCL hX hlw HHX HBX hbX f2
          have x1 := hX.cell 1
          clear hD hBw hBt hX hbX hlk hn2'
          go_upto_region 11 with fail
          generalize wr.alloc (.cells #[.int .i64 xi, .slice A' n2 c'] 71) = WA at *
          go_wp2_with fail
          refine (HCL.out).mono ?_
          rintro e w5 ⟨u, rfl, ho5, hb5⟩
          obtain ⟨wo, hwo⟩ : ∃ wo, wo = wr := ⟨_, rfl⟩
          subst hwo
          obtain ⟨p5, hp5⟩ : ∃ p5, p5 = WA.heap.size := ⟨_, rfl⟩
          rw [← hp5] at ho5
          have hXp : wo.heap.size < p5 := by rw [hp5]; exact HHX.out.lt
          have hWp : wo.heap.size ≤ p5 := Nat.le_of_lt hXp
          have hb5' : Below p5 w5 w5 := Below.refl _ _
          have h5s : p5 ≤ w5.heap.size := by rw [hp5]; exact hb5.size
          have HX5 := Lib.hid (HHX.out.below hb5)
          have hbW5 := HBX.out.trans (hb5.mono HBX.out.size)
          have HBR5 := Lib.hid hbW5
          have HMZ : Hid (∀ W, Below p5 w5 W → VMap W g n (.bool false) (wiF ids ids.length)) := Lib.hid fun W k => by
            have hg1 : g < wo.heap.size := Nat.lt_of_lt_of_le hgw HBW.out.size
            refine HM.out.blk ?_
            rw [k.block g (by omega), hbW5.block g hg1, HBW.out.block g hgw]
          obtain ⟨A6, c6, eu⟩ := ho5.shape
          rw [← HNL.out] at eu
          subst eu
          have HO5 := Lib.hid ho5
          clear ho5 hb5 hb5' hbW5 HHX HBX HCL hp5 f1 f2 x1 HM
          go_wp2_with fail
          go_loopw [34] (fun vt wz => ∃ t : Nat, vt = .int .i64 (t : Int) ∧ t ≤ n2 ∧ OwnK wz p5 (.slice A6 n2 c6) (witR ids lv t) ∧ Below p5 w5 wz) (fun vt _ => n2 - (intOf vt).toNat)
          case atStart => exact ⟨0, rfl, by omega, by rw [witR_zero]; exact HO5.out, Below.refl _ _⟩
          case round =>
            clear HO5
            obtain ⟨t, rfl, ht, ho, hBz⟩ := hrel
            by_cases hltt : t < n2
            · have t1 : t < lv.length := by rw [← HNL.out]; exact hltt
              have t2 : t < (witR ids lv t).length := by rw [witR_len]; exact t1
              have hyw := HYW.out _ (List.getElem_mem t1)
              have hrow := witR_at t2 t1
              have HEND := Lib.hid (witR_next (ids := ids) t1)
              obtain ⟨A7, c7, e7, -, -, hks⟩ := ho.readB
              rw [witR_len, ← HNL.out] at e7
              injection e7 with e71 _ e72
              subst e71 e72
              obtain ⟨H, o2, eA, hH2, z0, z1⟩ := hks.at_ t2
              obtain ⟨H', cH, eH, hH1, -, -, -, -, -, hfz, hst⟩ := ho.put t2
              rw [witR_len, ← HNL.out] at eH
              injection eH with eH1 _ _
              rw [eA] at eH1
              injection eH1 with eH1
              injection eH1 with eH2 eH3
              subst eH2 eH3
              subst eA
              rw [Nat.zero_add] at z0 z1
              rw [hrow] at z0 z1 hst
              generalize witR ids lv t = row at *
              generalize hyl : lv[t] = y at *
              obtain ⟨yl, yr⟩ := y
              simp only at z0 z1 hst
              have j0 : (0 : Int) ≤ (t : Int) := by omega
              have j1 : (t : Int) < (n2 : Int) := by omega
              have hbL := (Below.refl wr.heap.size wr).alloc (Nat.le_refl _) (.cells #[.int .i64 yl, .int .i64 yr] 76)
              have hHL : H ≠ wr.heap.size := by omega
              have hY := Has.new wr 76 #[.int .i64 yl, .int .i64 yr]
              have hBL := hBz.trans (hbL.mono (Nat.le_trans h5s hBz.size))
              have hoL := ho.below hbL
              have hmL := HMZ.out _ hBL
              have hgH : g ≠ H := by have := HBW.out.size; omega
              have fzL : ∀ o', (wr.alloc (.cells #[.int .i64 yl, .int .i64 yr] 76)).frozen? ⟨H, o', none⟩ = false := fun o' => ((bcell hbL).2 H o' hH2).trans (hfz o')
              have z0L := (hbL.cell (p := ⟨H, t * 2, none⟩) hH2).trans z0
              have z1L := (hbL.cell (p := ⟨H, t * 2 + 1, none⟩) hH2).trans z1
              have hstL := fun z => hst (wr.alloc (.cells #[.int .i64 yl, .int .i64 yr] 76)) (hbL.block H hH2) z
              have hlA := hmL.look Tryd.underlying116 (zeroBoolV _) hyw.1.1 hyw.1.2
              rw [HAT.out] at hlA
              have HYY := Lib.hid hY
              have HOL := Lib.hid hoL
              have HBL := Lib.hid hBL
              clear hbL hst hfz ho hBz hks hoL hBL
              go_upto_region 15 with fail
              generalize wr.alloc (.cells #[.int .i64 yl, .int .i64 yr] 76) = WL at *
              have y0 := HYY.out.cell 0
              have y1 := HYY.out.cell 1
              by_cases hl : yl ∈ ids
              · rw [decide_eq_true hl] at hlA
                have HM2 := Lib.hid hmL
                have HB2 := Lib.hid HBL.out
                have HO2 : Hid (OwnK WL p5 (.slice (some ⟨H, 0, none⟩) n2 c6) (row.set t ⟨yl, yr⟩)) := Lib.hid (by rw [← hrow, List.set_getElem_self]; exact HOL.out)
                clear HOL hstL hmL HBL z0L z1L fzL
                go_upto_region 17 with fail
                generalize WL = W2 at *
                clear hlA
                have HO2 : Hid (OwnK W2 p5 (.slice (some ⟨H, 0, none⟩) n2 c6) (row.set t ⟨yl, yr⟩)) := HO2
                have hlB := HM2.out.look Tryd.underlying116 (zeroBoolV _) hyw.2.1 hyw.2.2
                rw [HAT.out] at hlB
                have t4 : t < (row.set t ⟨yl, yr⟩).length := by rw [List.length_set]; exact t2
                obtain ⟨H3, c3, e3, -, hH3, -, -, -, ⟨zz, hzz⟩, hfz2, hst2⟩ := HO2.out.put t4
                injection e3 with e31 _ _
                injection e31 with e31
                injection e31 with e31
                subst e31
                rw [List.getElem_set_self] at hst2
                by_cases hr : yr ∈ ids
                · rw [decide_eq_true hr] at hlB
                  have HE2 : Hid (witK ids ⟨yl, yr⟩ = ⟨yl, yr⟩) := Lib.hid (by simp [witK, hl, hr])
                  clear hst2 hfz2 hzz t4
                  go_wp2_with fail
                  exact ⟨⟨t + 1, by go_num, hltt, by rw [← HEND.out, HE2.out]; exact HO2.out, HB2.out⟩, by simp [intOf]; omega⟩
                · rw [decide_eq_false hr] at hlB
                  have HE2 : Hid (witK ids ⟨yl, yr⟩ = ⟨yl, 0⟩) := Lib.hid (by simp [witK, hl, hr])
                  have HO3 := Lib.hid (hst2 W2 rfl 0).2
                  rw [List.set_set] at HO3
                  have HB3 := Lib.hid (HB2.out.setCell (p := ⟨H, t * 2 + 1, none⟩) hH1 (.int .i64 0))
                  clear hst2 t4
                  go_wp2_with fail
                  exact ⟨⟨t + 1, by go_num, hltt, by rw [← HEND.out, HE2.out]; exact HO3.out, HB3.out⟩, by simp [intOf]; omega⟩
              · rw [decide_eq_false hl] at hlA
                have HM2 := Lib.hid (hmL.setC (p := ⟨H, t * 2, none⟩) hgH (.int .i64 0))
                have HB2 := Lib.hid (HBL.out.setCell (p := ⟨H, t * 2, none⟩) hH1 (.int .i64 0))
                have HO2 := Lib.hid (hstL 0).1
                have HY2 := Lib.hid (HYY.out.far (p := ⟨H, t * 2, none⟩) (Ne.symm hHL) (.int .i64 0))
                clear HOL hstL hmL HBL z1L HYY y1
                go_upto_region 17 with fail
                generalize WL.setCell ⟨H, t * 2, none⟩ (.int .i64 0) = W2 at *
                clear hlA y0 z0L fzL
                have y1 := HY2.out.cell 1
                have HO2 : Hid (OwnK W2 p5 (.slice (some ⟨H, 0, none⟩) n2 c6) (row.set t ⟨0, yr⟩)) := HO2
                have hlB := HM2.out.look Tryd.underlying116 (zeroBoolV _) hyw.2.1 hyw.2.2
                rw [HAT.out] at hlB
                have t4 : t < (row.set t ⟨0, yr⟩).length := by rw [List.length_set]; exact t2
                obtain ⟨H3, c3, e3, -, hH3, -, -, -, ⟨zz, hzz⟩, hfz2, hst2⟩ := HO2.out.put t4
                injection e3 with e31 _ _
                injection e31 with e31
                injection e31 with e31
                subst e31
                rw [List.getElem_set_self] at hst2
                by_cases hr : yr ∈ ids
                · rw [decide_eq_true hr] at hlB
                  have HE2 : Hid (witK ids ⟨yl, yr⟩ = ⟨0, yr⟩) := Lib.hid (by simp [witK, hl, hr])
                  clear hst2 hfz2 hzz t4
                  go_wp2_with fail
                  exact ⟨⟨t + 1, by go_num, hltt, by rw [← HEND.out, HE2.out]; exact HO2.out, HB2.out⟩, by simp [intOf]; omega⟩
                · rw [decide_eq_false hr] at hlB
                  have HE2 : Hid (witK ids ⟨yl, yr⟩ = ⟨0, 0⟩) := Lib.hid (by simp [witK, hl, hr])
                  have HO3 := Lib.hid (hst2 W2 rfl 0).2
                  rw [List.set_set] at HO3
                  have HB3 := Lib.hid (HB2.out.setCell (p := ⟨H, t * 2 + 1, none⟩) hH1 (.int .i64 0))
                  clear hst2 t4
                  go_wp2_with fail
                  exact ⟨⟨t + 1, by go_num, hltt, by rw [← HEND.out, HE2.out]; exact HO3.out, HB3.out⟩, by simp [intOf]; omega⟩
            · have et : n2 = t := by omega
              subst et
              rw [witR_all ids lv (by rw [← HNL.out]; exact Nat.le_refl _)] at ho
              have HOF := Lib.hid (own_lessK ho hWp)
              have HBF := Lib.hid (HBR5.out.trans (hBz.mono hWp))
              have HX6 := (hBz.block wo.heap.size hXp).trans HX5.out
              have x0 := Has.cell (t := 71) HX6 0
              have hTL : (witT ids ls i).length < 1000000 := by have := HTL.out i; have := HN.out; omega
              clear ho hBz HX5 HBR5 HMZ HX6
              have HTX2 := Lib.hid HTX.out
              go_wp2_with (at_builtin; refine wpList_pushD rfl _ _ 40 rfl W1.heap.size inf Tryd.underlying40 hif hif1 hif2 hif3 v1 (witT ids ls i) wo _ xi (.slice A6 n2 c6) (lv.map (witK ids)) HDR.out HBF.out HOF.out HBW.out.size rfl rfl hTL ?_; intro v9 w9 ho9 hb9; have HO9 := Lib.hid ho9; have HB9 := Lib.hid ((HBW.out.trans (HBF.out.mono HBW.out.size)).trans hb9); clear ho9 hb9)
              exact ⟨⟨i + 1, v9, by go_num, rfl, hlti, by rw [HTX2.out]; exact HO9.out, HB9.out⟩, by simp [intOf]; omega⟩
        · have ei : i = ls.length := by rw [← HN.out]; omega
          have HDF := Lib.hid (hD.low HB.out.size)
          rw [ei, HTA.out] at HDF
          have HBF := Lib.hid (HB.out.trans (hBw.mono HB.out.size))
          clear hD hBw ei
          go_wp2_with fail
          go_ret
          exact ⟨_, rfl, HDF.out, HBF.out⟩
end
section
open Go.RowKit Go.Maps

def ctE (l : List Nd) (k : List Ld) (q : ByteArray) (h : Int) : Int := if lvB h = false then 2 else if (exaB l k h && vk q) = false then 1 else 0
def CtOk (R1 R2 : List Ld) (w : World) (e : Ending) (w' : World) : Prop := ∃ v1 v2, e = .returned (.tuple #[v1, v2, .int .i64 0]) ∧ OwnD w' w.heap.size v1 R1 ∧ OwnD w' w.heap.size v2 R2 ∧ Below w.heap.size w w'
/-- What Cut answers. -/
def CutP (l : List Nd) (k : List Ld) (q : ByteArray) (h : Int) (w : World) (e : Ending) (w' : World) : Prop :=
  (ctE l k q h ≠ 0 ∧ e = .returned (.tuple #[.slice none 0 0, .slice none 0 0, .int .i64 (ctE l k q h)]) ∧ Below w.heap.size w w') ∨ (ctE l k q h = 0 ∧ CtOk (bldV (lowL l q) (h + 1).toNat) (bldV (hghL l q) (h + 1).toNat) w e w')
theorem Lds.cutK {w : World} {B b o : Nat} {k : List Ld} (h : Lds w B (some ⟨b, o, none⟩) k) (j : Nat) : Lds w B (some ⟨b, o + j * 2, none⟩) (k.drop j) := fun hn => by
  have hj : j < k.length := by
    rcases Nat.lt_or_ge j k.length with h1 | h1
    · exact h1
    · exact absurd (List.drop_eq_nil_of_le h1) hn
  obtain ⟨b', o', e, hb, hc⟩ := h (by intro e; rw [e] at hj; simp at hj)
  injection e with e
  injection e with e1 e2
  subst e1 e2
  refine ⟨b, o + j * 2, rfl, hb, fun i hi => ?_⟩
  have hi' : j + i < k.length := by simp at hi; omega
  have := hc (j + i) hi'
  rw [show o + (j + i) * 2 = o + j * 2 + i * 2 by omega] at this
  rw [List.getElem_drop]
  exact this
theorem Lds.takeK {w : World} {B : Nat} {A : Option Addr} {k : List Ld} (h : Lds w B A k) (j : Nat) : Lds w B A (k.take j) := fun hn => by
  obtain ⟨b, o, e, hb, hc⟩ := h (by intro e; rw [e] at hn; simp at hn)
  refine ⟨b, o, e, hb, fun i hi => ?_⟩
  have hi' : i < k.length := by simp at hi; omega
  rw [List.getElem_take]
  exact hc i hi'
theorem low_next_ {l : List Nd} {q : ByteArray} {k : Nat} (h : k < l.length) : (lowL (l.take (k + 1)) q).length = (lowL (l.take k) q).length + if kl l[k].key q = true then 1 else 0 := by
  unfold lowL
  rw [List.take_succ_eq_append_getElem h, List.filter_append, List.length_append]
  congr 1
  simp only [List.filter_cons, List.filter_nil]
  split <;> rfl
theorem low_le (l : List Nd) (q : ByteArray) : (lowL l q).length ≤ l.length := List.length_filter_le _ _
set_option maxRecDepth 100000 in
set_option maxHeartbeats 3200000 in
theorem cut_ok (A A2 : Option Addr) (l : List Nd) (k : List Ld) (q : ByteArray) (c c2 m : Nat) (w : World) (hl : Nds w w.heap.size A l) (hk : Lds w w.heap.size A2 k) (hc2 : k.length ≤ c2) (hc3 : c2 ≤ maxLen) (hex : exaB l k (m : Int) = true) (hq : vk q = true) (hm : m ≤ 16) :
    Calls Tryd.prog 24 #[.slice A l.length c, .slice A2 k.length c2, .string q, .int .i64 (m : Int)] w (CtOk (bldV (lowL l q) (m + 1)) (bldV (hghL l q) (m + 1)) w) := by
  obtain ⟨hc, ek⟩ := exaB_true hex
  have hsl := (chkV_zero.1 hc).1
  have hkl : k.length = l.length := by rw [ek, bld_len]
  have HI := Lib.hid (fun (W : World) => (isLevelB_any (m : Int) W).mono fun e w' h => (⟨by rw [h.1]; simp [lvB]; omega, h.2⟩ : e = .returned (.bool true) ∧ W = w'))
  have HE := Lib.hid ((exact_any A A2 l k c c2 (m : Int) w hl hk (by omega) (fun x hx => (wide_of hc x hx).2)).mono fun e w' h => (⟨by rw [h.1, hex], h.2⟩ : e = .returned (.bool true) ∧ Below w.heap.size w w'))
  have HV := Lib.hid (fun (W : World) => (vk_key q W).mono fun e w' h => (⟨by rw [h.1, hq], h.2⟩ : e = .returned (.bool true) ∧ W = w'))
  obtain ⟨hR1, hR2⟩ := cut_all hc q (M := m + 1) (by omega)
  rw [← ek] at hR1 hR2
  have hwd := bldV_wide (wide_of hc) (m + 1)
  rw [← ek] at hwd
  have HW1 := Lib.hid (fun (W : World) (j : Below w.heap.size w W) (c' : Nat) => within_any A2 (k.take (lowL l q).length) c' W (((hk.takeK _).below j).more j.size) (by rw [List.length_take]; omega) (fun x hx => by have := (hwd x (List.mem_of_mem_take hx)).2.1; omega) (fun x hx => ⟨(hwd x (List.mem_of_mem_take hx)).1, (hwd x (List.mem_of_mem_take hx)).2.2⟩))
  have HW2 := Lib.hid (fun (W : World) (j : Below w.heap.size w W) (A' : Option Addr) (c' : Nat) (h : Lds w w.heap.size A' (k.drop (lowL l q).length)) => within_any A' (k.drop (lowL l q).length) c' W ((h.below j).more j.size) (by rw [List.length_drop]; omega) (fun x hx => by have := (hwd x (List.mem_of_mem_drop hx)).2.1; omega) (fun x hx => ⟨(hwd x (List.mem_of_mem_drop hx)).1, (hwd x (List.mem_of_mem_drop hx)).2.2⟩))
  rw [hR1] at HW1
  rw [hR2] at HW2
  have HCT : Hid (∀ b o, A2 = some ⟨b, o, none⟩ → Lds w w.heap.size (some ⟨b, o + (lowL l q).length * 2, none⟩) (k.drop (lowL l q).length)) := Lib.hid fun b o e => by subst e; exact hk.cutK _
  have hlow := low_le l q
  have hA2 : k = [] ∨ ∃ b o, A2 = some ⟨b, o, none⟩ := by
    by_cases h : k = []
    · exact .inl h
    · obtain ⟨b, o, e, _⟩ := hk h
      exact .inr ⟨b, o, e⟩
  have HNX := Lib.hid (fun (i : Nat) (h : i < l.length) => low_next_ (q := q) h)
  have HLE := Lib.hid (fun (i : Nat) => Nat.le_trans (low_le (l.take i) q) (by rw [List.length_take]; exact Nat.min_le_left _ _ : (l.take i).length ≤ i))
  have HLF : Hid (lowL (l.take l.length) q = lowL l q) := Lib.hid (by rw [List.take_length])
  have HL := Lib.hid hl
  have HLT : Hid ((k.take (lowL l q).length).length = (lowL l q).length) := Lib.hid (by rw [List.length_take]; omega)
  have HLD : Hid ((k.drop (lowL l q).length).length = l.length - (lowL l q).length) := Lib.hid (by rw [List.length_drop]; omega)
  have HKE : Hid (k = [] → k.drop (lowL l q).length = []) := Lib.hid fun e => by simp [e]
  generalize bldV (lowL l q) (m + 1) = R1 at *
  generalize bldV (hghL l q) (m + 1) = R2 at *
  rw [hkl] at HE hc2 ⊢
  have HKL := Lib.hid hkl
  obtain ⟨N, hN⟩ : ∃ N, N = l.length := ⟨_, rfl⟩
  have HN := Lib.hid hN
  rw [← hN] at HE HLD hsl hlow hc2 ⊢
  clear hl hk hex hq hc ek hwd hR1 hR2 hkl hN
  go_enter Tryd.func24, Tryd.ntmps24
  go_wp2_with fail
  refine (HI.out _).mono ?_
  rintro e w1 ⟨rfl, rfl⟩
  go_wp2_with fail
  refine (HE.out).mono ?_
  rintro e w1 ⟨rfl, hb1⟩
  have HB1 := Lib.hid hb1
  clear hb1 HE HI
  go_wp2_with fail
  refine (HV.out _).mono ?_
  rintro e w2 ⟨rfl, rfl⟩
  go_wp2_with fail
  go_loopw [11, 29] (fun vs vi wr => ∃ i s : Nat, vi = .int .i64 (i : Int) ∧ vs = .int .i64 (s : Int) ∧ i ≤ N ∧ s ≤ i ∧ Hid (s = (lowL (l.take i) q).length) ∧ Below w.heap.size w wr) (fun _ vi _ => N - (intOf vi).toNat)
  case atStart => exact ⟨0, 0, rfl, rfl, by omega, by omega, Lib.hid rfl, HB1.out⟩
  case round =>
    clear HB1
    obtain ⟨i, s, rfl, rfl, hi, hs, HS, hB⟩ := hrel
    by_cases hlt : i < N
    · have k1 : i < l.length := by rw [← HN.out]; exact hlt
      obtain ⟨b, o, eA, hb, f1, f2, f3⟩ := HL.out.at_ k1
      replace f1 := (hB.cell (p := ⟨b, o + i * 3, none⟩) hb).trans f1
      replace f2 := (hB.cell (p := ⟨b, o + i * 3 + 1, none⟩) hb).trans f2
      replace f3 := (hB.cell (p := ⟨b, o + i * 3 + 2, none⟩) hb).trans f3
      have HNN := Lib.hid (HNX.out i k1)
      subst eA
      generalize l[i] = x at *
      obtain ⟨xi, xk, xw⟩ := x
      simp only at f1 f2 f3 HNN
      have i0 : (0 : Int) ≤ (i : Int) := by omega
      have i1 : (i : Int) < (N : Int) := by omega
      have hX := Has.new wr 39 #[.int .i64 xi, .string xk, .int .u32 (xw : Int)]
      have x1 := hX.cell 1
      have hbX := (Below.refl wr.heap.size wr).alloc (Nat.le_refl _) (.cells #[.int .i64 xi, .string xk, .int .u32 (xw : Int)] 39)
      have HBX := Lib.hid (hB.trans (hbX.mono hB.size))
      clear hX hbX hB
      cases hkk : kl xk q with
      | true =>
        have hbl : Op.bytesLess xk.toList q.toList = true := hkk
        rw [hkk] at HNN
        clear hkk
        have hw : IntKind.i64.wrap ((s : Int) + 1) = (s : Int) + 1 := IntWalk.i64_in _ (by omega)
        go_wp2_with fail
        exact ⟨⟨i + 1, s + 1, by go_num, by simp, hlt, by omega, Lib.hid (by rw [HNN.out, HS.out]; rfl), HBX.out⟩, by simp [intOf]; omega⟩
      | false =>
        have hbl : Op.bytesLess xk.toList q.toList = false := hkk
        rw [hkk] at HNN
        clear hkk
        go_wp2_with fail
        exact ⟨⟨i + 1, s, by go_num, rfl, hlt, by omega, Lib.hid (by rw [HNN.out, HS.out]; rfl), HBX.out⟩, by simp [intOf]; omega⟩
    · have ei : i = l.length := by rw [← HN.out]; omega
      have es : s = (lowL l q).length := by rw [HS.out, ei, HLF.out]
      have HBW := Lib.hid hB
      have HSS := Lib.hid es
      rw [← es] at HW1 HW2 HCT HLT HLD HKE hlow
      clear hB ei es HS HL
      go_upto_region 12 with fail
      rw [HLT.out] at HW1
      rw [HLD.out] at HW2
      have hS0 : Below w.heap.size w wr.drew := HBW.out.drew
      have s0 : (0 : Int) ≤ (s : Int) := by omega
      by_cases hNs : N = s
      · have HC0 : Hid (∀ A', Lds w w.heap.size A' (k.drop s)) := Lib.hid fun A' hn => absurd (List.eq_nil_of_length_eq_zero (by rw [HLD.out]; omega)) hn
        have hz0 : N = 0 ∨ ∃ b o, A2 = some ⟨b, o, none⟩ := hA2.imp (fun h => by have := HKL.out; rw [h] at this; have := HN.out; simp at *; omega) id
        subst hNs
        rw [Nat.sub_self] at HW2
        clear hA2 HCT hlow HLT HLD HKE
        have s3 : (N : Int) ≤ (c2 : Int) := by omega
        have s4 : ¬ ((c2 : Int) < (N : Int)) := by omega
        have s5 : ¬ (c2 < N) := by omega
        rcases hz0 with hz0 | ⟨b, o, eA⟩
        · subst hz0
          cases A2 with
          | none =>
            go_region_held3 (fun W => Below w.heap.size w W) (first | with_reducible exact hS8 | with_reducible exact hS7 | with_reducible exact hS0) (first | (go_at_call 55; refine (HW2.out _ hS7 _ _ (HC0.out _)).mono ?_; rintro e w8 ⟨v8, rfl, ho8, hb8⟩; have hS8 := hS7.trans (hb8.mono hS7.size)) | (go_at_call 55; refine (HW1.out _ hS0 _).mono ?_; rintro e w7 ⟨v7, rfl, ho7, hb7⟩; have hS7 := hS0.trans (hb7.mono hS0.size)))
            have HO7 := Lib.hid ((ho7.below hb8).low hS0.size)
            have HO8 := Lib.hid (ho8.low hS7.size)
            have HS8 := Lib.hid hS8
            clear ho7 ho8 hb7 hb8 hS7 hS8
            go_wp2_with fail
            go_ret3
            exact ⟨_, _, rfl, HO7.out, HO8.out, HS8.out⟩
          | some a =>
            by_cases hc0 : c2 = 0
            · subst hc0
              go_region_held3 (fun W => Below w.heap.size w W) (first | with_reducible exact hS8 | with_reducible exact hS7 | with_reducible exact hS0) (first | (go_at_call 55; refine (HW2.out _ hS7 _ _ (HC0.out _)).mono ?_; rintro e w8 ⟨v8, rfl, ho8, hb8⟩; have hS8 := hS7.trans (hb8.mono hS7.size)) | (go_at_call 55; refine (HW1.out _ hS0 _).mono ?_; rintro e w7 ⟨v7, rfl, ho7, hb7⟩; have hS7 := hS0.trans (hb7.mono hS0.size)))
              have HO7 := Lib.hid ((ho7.below hb8).low hS0.size)
              have HO8 := Lib.hid (ho8.low hS7.size)
              have HS8 := Lib.hid hS8
              clear ho7 ho8 hb7 hb8 hS7 hS8
              go_wp2_with fail
              go_ret3
              exact ⟨_, _, rfl, HO7.out, HO8.out, HS8.out⟩
            · have s7 : ¬ ((c2 : Int) = 0) := by omega
              go_region_held3 (fun W => Below w.heap.size w W) (first | with_reducible exact hS8 | with_reducible exact hS7 | with_reducible exact hS0) (first | (go_at_call 55; refine (HW2.out _ hS7 _ _ (HC0.out _)).mono ?_; rintro e w8 ⟨v8, rfl, ho8, hb8⟩; have hS8 := hS7.trans (hb8.mono hS7.size)) | (go_at_call 55; refine (HW1.out _ hS0 _).mono ?_; rintro e w7 ⟨v7, rfl, ho7, hb7⟩; have hS7 := hS0.trans (hb7.mono hS0.size)))
              have HO7 := Lib.hid ((ho7.below hb8).low hS0.size)
              have HO8 := Lib.hid (ho8.low hS7.size)
              have HS8 := Lib.hid hS8
              clear ho7 ho8 hb7 hb8 hS7 hS8
              go_wp2_with fail
              go_ret3
              exact ⟨_, _, rfl, HO7.out, HO8.out, HS8.out⟩
        · subst eA
          by_cases hcs : c2 = N
          · subst hcs
            go_region_held3 (fun W => Below w.heap.size w W) (first | with_reducible exact hS8 | with_reducible exact hS7 | with_reducible exact hS0) (first | (go_at_call 55; refine (HW2.out _ hS7 _ _ (HC0.out _)).mono ?_; rintro e w8 ⟨v8, rfl, ho8, hb8⟩; have hS8 := hS7.trans (hb8.mono hS7.size)) | (go_at_call 55; refine (HW1.out _ hS0 _).mono ?_; rintro e w7 ⟨v7, rfl, ho7, hb7⟩; have hS7 := hS0.trans (hb7.mono hS0.size)))
            have HO7 := Lib.hid ((ho7.below hb8).low hS0.size)
            have HO8 := Lib.hid (ho8.low hS7.size)
            have HS8 := Lib.hid hS8
            clear ho7 ho8 hb7 hb8 hS7 hS8
            go_wp2_with fail
            go_ret3
            exact ⟨_, _, rfl, HO7.out, HO8.out, HS8.out⟩
          · have s7 : ¬ ((c2 : Int) = (N : Int)) := by omega
            go_region_held3 (fun W => Below w.heap.size w W) (first | with_reducible exact hS8 | with_reducible exact hS7 | with_reducible exact hS0) (first | (go_at_call 55; refine (HW2.out _ hS7 _ _ (HC0.out _)).mono ?_; rintro e w8 ⟨v8, rfl, ho8, hb8⟩; have hS8 := hS7.trans (hb8.mono hS7.size)) | (go_at_call 55; refine (HW1.out _ hS0 _).mono ?_; rintro e w7 ⟨v7, rfl, ho7, hb7⟩; have hS7 := hS0.trans (hb7.mono hS0.size)))
            have HO7 := Lib.hid ((ho7.below hb8).low hS0.size)
            have HO8 := Lib.hid (ho8.low hS7.size)
            have HS8 := Lib.hid hS8
            clear ho7 ho8 hb7 hb8 hS7 hS8
            go_wp2_with fail
            go_ret3
            exact ⟨_, _, rfl, HO7.out, HO8.out, HS8.out⟩
      · have hA3 : ∃ b o, A2 = some ⟨b, o, none⟩ := hA2.resolve_left fun h => hNs (by have h1 := HKL.out; rw [h] at h1; have h2 := HN.out; simp only [List.length_nil] at h1; omega)
        obtain ⟨b, o, eA⟩ := hA3
        subst eA
        have HCC := Lib.hid (HCT.out b o rfl)
        have s1 : (s : Int) ≤ (c2 : Int) := by omega
        have s2 : (s : Int) ≤ (N : Int) := by omega
        have s3 : (N : Int) ≤ (c2 : Int) := by omega
        have s4 : ¬ ((c2 : Int) < (s : Int)) := by omega
        have s5 : ¬ (c2 < s) := by omega
        have s6 : ¬ (N < s) := by omega
        have hcs : ¬ c2 = s := by omega
        have s7 : ¬ ((c2 : Int) = (s : Int)) := by omega
        go_region_held3 (fun W => Below w.heap.size w W) (first | with_reducible exact hS8 | with_reducible exact hS7 | with_reducible exact hS0) (first | (go_at_call 55; refine (HW2.out _ hS7 _ _ HCC.out).mono ?_; rintro e w8 ⟨v8, rfl, ho8, hb8⟩; have hS8 := hS7.trans (hb8.mono hS7.size)) | (go_at_call 55; refine (HW1.out _ hS0 _).mono ?_; rintro e w7 ⟨v7, rfl, ho7, hb7⟩; have hS7 := hS0.trans (hb7.mono hS0.size)))
        have HO7 := Lib.hid ((ho7.below hb8).low hS0.size)
        have HO8 := Lib.hid (ho8.low hS7.size)
        have HS8 := Lib.hid hS8
        clear ho7 ho8 hb7 hb8 hS7 hS8
        go_wp2_with fail
        go_ret3
        exact ⟨_, _, rfl, HO7.out, HO8.out, HS8.out⟩
theorem ctE_cases (l : List Nd) (k : List Ld) (q : ByteArray) (h : Int) : (lvB h = false ∧ ctE l k q h = 2) ∨ (lvB h = true ∧ exaB l k h = false ∧ ctE l k q h = 1) ∨ (lvB h = true ∧ exaB l k h = true ∧ vk q = false ∧ ctE l k q h = 1) ∨ (lvB h = true ∧ exaB l k h = true ∧ vk q = true ∧ ctE l k q h = 0) := by
  unfold ctE
  cases h1 : lvB h <;> cases h2 : exaB l k h <;> cases h3 : vk q <;> simp
def Err3 (E : Int) (w : World) (e : Ending) (w' : World) : Prop := e = .returned (.tuple #[.slice none 0 0, .slice none 0 0, .int .i64 E]) ∧ Below w.heap.size w w'
set_option maxRecDepth 100000 in
set_option maxHeartbeats 1600000 in
theorem cut_any (A A2 : Option Addr) (l : List Nd) (k : List Ld) (q : ByteArray) (c c2 : Nat) (h : Int) (w : World) (hl : Nds w w.heap.size A l) (hk : Lds w w.heap.size A2 k) (hc2 : k.length ≤ c2) (hc3 : c2 ≤ maxLen) (hwd : ∀ x ∈ l, x.word < 4294967296) :
    Calls Tryd.prog 24 #[.slice A l.length c, .slice A2 k.length c2, .string q, .int .i64 h] w (CutP l k q h w) := by
  have HI := Lib.hid (isLevelB_any h w)
  have HE := Lib.hid (exact_any A A2 l k c c2 h w hl hk (by omega) hwd)
  have HV := Lib.hid (fun (W : World) => vk_key q W)
  rcases ctE_cases l k q h with ⟨h1, he⟩ | ⟨h1, h2, he⟩ | ⟨h1, h2, h3, he⟩ | ⟨h1, h2, h3, he⟩
  · refine (show Calls Tryd.prog 24 _ w (Err3 2 w) from ?_).mono fun e w' k => .inl ⟨by rw [he]; decide, by rw [he]; exact k.1, k.2⟩
    rw [h1] at HI
    clear hl hk hc2 hc3 hwd h1 he HE HV
    generalize l.length = an
    generalize k.length = kn
    go_enter Tryd.func24, Tryd.ntmps24
    go_wp2_with fail
    refine (HI.out).mono ?_
    rintro e w1 ⟨rfl, rfl⟩
    go_wp2_with fail
    go_ret3
    exact ⟨rfl, Below.refl _ _⟩
  · refine (show Calls Tryd.prog 24 _ w (Err3 1 w) from ?_).mono fun e w' k => .inl ⟨by rw [he]; decide, by rw [he]; exact k.1, k.2⟩
    rw [h1] at HI
    rw [h2] at HE
    clear hl hk hc2 hc3 hwd h1 h2 he HV
    generalize l.length = an at *
    generalize k.length = kn at *
    go_enter Tryd.func24, Tryd.ntmps24
    go_wp2_with fail
    refine (HI.out).mono ?_
    rintro e w1 ⟨rfl, rfl⟩
    go_wp2_with fail
    refine (HE.out).mono ?_
    rintro e w1 ⟨rfl, hb1⟩
    go_wp2_with fail
    go_ret3
    exact ⟨rfl, hb1⟩
  · refine (show Calls Tryd.prog 24 _ w (Err3 1 w) from ?_).mono fun e w' k => .inl ⟨by rw [he]; decide, by rw [he]; exact k.1, k.2⟩
    rw [h1] at HI
    rw [h2] at HE
    rw [h3] at HV
    clear hl hk hc2 hc3 hwd h1 h2 h3 he
    generalize l.length = an at *
    generalize k.length = kn at *
    go_enter Tryd.func24, Tryd.ntmps24
    go_wp2_with fail
    refine (HI.out).mono ?_
    rintro e w1 ⟨rfl, rfl⟩
    go_wp2_with fail
    refine (HE.out).mono ?_
    rintro e w1 ⟨rfl, hb1⟩
    go_wp2_with fail
    refine (HV.out _).mono ?_
    rintro e w2 ⟨rfl, rfl⟩
    go_wp2_with fail
    go_ret3
    exact ⟨rfl, hb1⟩
  · obtain ⟨m, rfl⟩ : ∃ m : Nat, h = (m : Int) := ⟨h.toNat, by have : 0 ≤ h := by { have := h1; simp [lvB] at this; omega }; omega⟩
    have hm : m ≤ 16 := by have := h1; simp [lvB] at this; omega
    refine (cut_ok A A2 l k q c c2 m w hl hk hc2 hc3 h2 h3 hm).mono fun e w' k => .inr ⟨he, ?_⟩
    rw [show ((m : Int) + 1).toNat = m + 1 by omega]
    exact k
end
end Go.Proofs.YtddcfiiahahkbaaDoor
