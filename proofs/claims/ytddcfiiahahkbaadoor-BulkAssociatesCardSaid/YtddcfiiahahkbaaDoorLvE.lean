/-
  Load of package bulk. Conditions: the nodes can be read, their words fit.
  Load of package bulk. Conditions: the nodes can be read, their words fit.
-/
import Derived.Test.YtddcfiiahahkbaaDoorLvB
import Derived.Test.YtddcfiiahahkbaaDoorLpC
import Derived.Test.YtddcfiiahahkbaaDoorKnE
import Derived.Test.YtddcfiiahahkbaaDoorLmG
import Derived.StillTailTactics
import Derived.Deep.DeepCutAuto
import Derived.Deep.CutBlock
namespace Go.Proofs.YtddcfiiahahkbaaDoor
section
open Go.RowKit Go.Maps

theorem isLevelB_any (h : Int) (w : World) : Calls Tryd.prog 45 #[.int .i64 h] w fun e w' => e = .returned (.bool (lvB h)) ∧ w = w' := by
  by_cases h0 : 0 ≤ h
  · by_cases h1 : h ≤ 16
    · have hr : lvB h = true := by simp [lvB, h0, h1]
      rw [hr]
      clear hr
      have d1 : ¬ h < 0 := by omega
      go_enter Tryd.func45, Tryd.ntmps45
      go_wp2_with fail
      go_ret
      exact ⟨rfl, rfl⟩
    · have hr : lvB h = false := by simp [lvB, h1]
      rw [hr]
      clear hr
      have d1 : ¬ h < 0 := by omega
      go_enter Tryd.func45, Tryd.ntmps45
      go_wp2_with fail
      go_ret
      exact ⟨rfl, rfl⟩
  · have hr : lvB h = false := by simp [lvB, h0]
    rw [hr]
    clear hr
    have d1 : h < 0 := by omega
    go_enter Tryd.func45, Tryd.ntmps45
    go_wp2_with fail
    go_ret
    exact ⟨rfl, rfl⟩
set_option maxRecDepth 100000 in
theorem ld1_any (x y : Nd) (w : World) : Calls Tryd.prog 61 #[x.val, y.val] w fun e w' => e = .returned (.int .i64 (cmpT x.key y.key)) ∧ Below w.heap.size w w' := by
  obtain ⟨xi, xk, xw⟩ := x
  obtain ⟨yi, yk, yw⟩ := y
  have hb2 := ((Below.refl w.heap.size w).alloc (Nat.le_refl _) (.cells #[.int .i64 xi, .string xk, .int .u32 (xw : Int)] 39)).alloc (by simp) (.cells #[.int .i64 yi, .string yk, .int .u32 (yw : Int)] 39)
  have HB2 := Lib.hid hb2
  have HC := Lib.hid (fun (W : World) => cmp_string xk yk W)
  clear hb2
  show Calls Tryd.prog 61 #[.agg #[.int .i64 xi, .string xk, .int .u32 (xw : Int)], .agg #[.int .i64 yi, .string yk, .int .u32 (yw : Int)]] w _
  simp only
  generalize cmpT xk yk = Z at *
  go_enter Tryd.func61, Tryd.ntmps61
  go_wp2_with fail
  refine (HC.out _).mono ?_
  rintro e w3 ⟨rfl, rfl⟩
  go_wp2_with fail
  go_ret
  exact ⟨rfl, HB2.out⟩
theorem cmpT_neg {a b : ByteArray} : cmpT a b < 0 ↔ kl a b = true := by
  unfold cmpT
  split
  · simp_all
  · split <;> simp_all
set_option maxRecDepth 100000 in
set_option maxHeartbeats 800000 in
theorem srtd_any (A : Option Addr) (l : List Nd) (c : Nat) (w : World) (hl : Nds w w.heap.size A l) (hn : l.length ≤ 100000) :
    Calls Tryd.prog 60 #[.slice A l.length c, .func (.func 61) #[] #[]] w (BoolN (ordB l) w) := by
  have HL := Lib.hid hl
  have HOY : Hid ((∀ j, j + 1 < l.length → kl (kyAt l (j + 1)) (kyAt l j) = false) → ordB l = true) := Lib.hid fun h => ordB_true.2 h
  have HON : Hid (∀ i, i + 1 < l.length → kl (kyAt l (i + 1)) (kyAt l i) = true → ordB l = false) := Lib.hid fun i hi h => ordB_false hi h
  have HKY : Hid (∀ i (h : i < l.length), kyAt l i = l[i].key) := Lib.hid fun i h => kyAt_lt h
  obtain ⟨N, hN⟩ : ∃ N, N = l.length := ⟨_, rfl⟩
  have HN := Lib.hid hN
  rw [← hN] at hn ⊢
  have hb0 := Lib.hid (Below.refl w.heap.size w)
  clear hl hN
  go_enter Tryd.func60, Tryd.ntmps60
  go_wp2_with fail
  go_loopw [5] (fun vi wr => ∃ i : Int, vi = .int .i64 i ∧ -1 ≤ i ∧ i < N ∧ Hid (∀ j : Nat, i ≤ (j : Int) → j + 1 < l.length → kl (kyAt l (j + 1)) (kyAt l j) = false) ∧ Below w.heap.size w wr) (fun vi _ => (intOf vi + 1).toNat)
  case atStart => exact ⟨(N : Int) - 1, rfl, by omega, by omega, Lib.hid fun j h1 h2 => by have := HN.out; omega, hb0.out⟩
  case round =>
    clear hb0
    obtain ⟨i, rfl, hi0, hiN, HS, hB⟩ := hrel
    by_cases hpos : 0 < i
    · obtain ⟨k, rfl⟩ : ∃ k : Nat, i = (k : Int) + 1 := ⟨(i - 1).toNat, by omega⟩
      have k1 : k + 1 < l.length := by rw [← HN.out]; omega
      obtain ⟨b, o, eA, hb, f1, f2, f3⟩ := HL.out.at_ k1
      obtain ⟨b2, o2, eB, -, g1, g2, g3⟩ := HL.out.at_ (show k < l.length by omega)
      rw [eA] at eB
      injection eB with eB
      injection eB with eB1 eB2
      subst eB1 eB2
      have HK1 := Lib.hid (HKY.out (k + 1) k1)
      have HK2 := Lib.hid (HKY.out k (by omega))
      have HON1 := Lib.hid (HON.out k k1)
      have hBd := hB.drew
      replace f1 : wr.drew.cell? ⟨b, o + (k + 1) * 3, none⟩ = _ := (hB.cell (p := ⟨b, o + (k + 1) * 3, none⟩) hb).trans f1
      replace f2 : wr.drew.cell? ⟨b, o + (k + 1) * 3 + 1, none⟩ = _ := (hB.cell (p := ⟨b, o + (k + 1) * 3 + 1, none⟩) hb).trans f2
      replace f3 : wr.drew.cell? ⟨b, o + (k + 1) * 3 + 2, none⟩ = _ := (hB.cell (p := ⟨b, o + (k + 1) * 3 + 2, none⟩) hb).trans f3
      replace g1 : wr.drew.cell? ⟨b, o + k * 3, none⟩ = _ := (hB.cell (p := ⟨b, o + k * 3, none⟩) hb).trans g1
      replace g2 : wr.drew.cell? ⟨b, o + k * 3 + 1, none⟩ = _ := (hB.cell (p := ⟨b, o + k * 3 + 1, none⟩) hb).trans g2
      replace g3 : wr.drew.cell? ⟨b, o + k * 3 + 2, none⟩ = _ := (hB.cell (p := ⟨b, o + k * 3 + 2, none⟩) hb).trans g3
      subst eA
      have hkn : k + 1 < N := by rw [HN.out]; exact k1
      generalize l[k + 1] = x at *
      generalize l[k] = y at *
      have HLD := Lib.hid (fun (W : World) => ld1_any x y W)
      obtain ⟨xi, xk, xw⟩ := x
      obtain ⟨yi, yk, yw⟩ := y
      simp only at f1 f2 f3 g1 g2 g3 HK1 HK2 HLD
      have ek : ((k : Int) + 1).toNat = k + 1 := by omega
      have i0 : (0 : Int) ≤ (k : Int) + 1 := by omega
      have i1 : (k : Int) + 1 < (N : Int) := by omega
      have i2 : (0 : Int) ≤ (k : Int) := by omega
      have i3 : (k : Int) < (N : Int) := by omega
      have hm1 : IntKind.i64.wrap (k : Int) = (k : Int) := IntWalk.i64_in _ (by omega)
      clear k1 hB hb
      go_wp2_with fail
      refine wp_region_still_tail 10 (by kernel_rfl) (by kernel_rfl) ?_
      simp only [List.take_succ_cons, List.take_zero, List.drop_succ_cons, List.drop_zero]
      change wpStill _ _ wr.drew (fun a' => wpList _ _ _ _ a' wr.drew) _ _
      generalize wr.drew = w9 at *
      repeat still_step
      refine wpStill_nil ?_
      go_wp2_with fail
      refine (HLD.out w9).mono ?_
      rintro e w10 ⟨rfl, hb10⟩
      have HB10 := Lib.hid (hBd.trans (hb10.mono hBd.size))
      clear f1 f2 f3 g1 g2 g3 hb10
      cases hk : kl xk yk with
      | true =>
        have hneg : cmpT xk yk < 0 := cmpT_neg.2 hk
        have HZ : Hid (ordB l = false) := Lib.hid (HON1.out (by rw [HK1.out, HK2.out]; exact hk))
        clear hk
        generalize cmpT xk yk = Z at *
        go_wp2_with fail
        go_ret
        exact ⟨ret_bool HZ.out.symm, HB10.out⟩
      | false =>
        have hneg : ¬ cmpT xk yk < 0 := fun h => by rw [cmpT_neg.1 h] at hk; cases hk
        have HS2 : Hid (∀ j : Nat, (k : Int) ≤ (j : Int) → j + 1 < l.length → kl (kyAt l (j + 1)) (kyAt l j) = false) := Lib.hid fun j h1 h2 => by
          by_cases e : j = k
          · subst e; rw [HK1.out, HK2.out]; exact hk
          · exact HS.out j (by omega) h2
        clear hk
        generalize cmpT xk yk = Z at *
        go_wp2_with fail
        exact ⟨⟨(k : Int), rfl, by omega, by omega, HS2, HB10.out⟩, by simp [intOf]; omega⟩
    · have HZ : Hid (ordB l = true) := Lib.hid (HOY.out fun j hj => HS.out j (by omega) hj)
      go_wp2_with fail
      go_ret
      exact ⟨ret_bool HZ.out.symm, hB⟩
end
section
open Go.RowKit Go.Maps

/-- The map of the networks: each node is one. -/
def idF (l : List Nd) (k : Nat) : Int → Option Value := fun i => if i ∈ (l.take k).map Nd.id then some (.int .i64 i) else none
theorem idF_zero (l : List Nd) : idF l 0 = fun _ => none := by
  funext i
  simp [idF]
theorem idF_next {l : List Nd} {k : Nat} (h : k < l.length) (i : Int) : updV (idF l k) l[k].id (.int .i64 l[k].id) i = idF l (k + 1) i := by
  unfold updV idF
  rw [List.take_succ_eq_append_getElem h, List.map_append]
  by_cases e : i = l[k].id
  · subst e
    simp
  · simp [e]
theorem idF_at {l : List Nd} {x : Nd} (h : x ∈ l) : (idF l l.length x.id).getD (.int .i64 0) = .int .i64 x.id := by
  unfold idF
  rw [List.take_length, if_pos (List.mem_map.2 ⟨x, h, rfl⟩)]
  rfl
theorem cSum_le (S : List Nd) (nw : Int → Int) : ∀ t, cSum S nw t ≤ t * (2 * S.length)
  | 0 => by simp [cSum]
  | t + 1 => by
    have := cSum_le S nw t
    have := cCnt_le S nw t S.length
    rw [cSum, Nat.succ_mul]
    omega
def ldE (l : List Nd) (h : Int) : Int := if lvB h = false then 2 else if chkV l ≠ 0 then 1 else if ordB l = false then 8 else 0
/-- What Load answers. -/
def LoadOk (R : List Ld) (w : World) (e : Ending) (w' : World) : Prop := ∃ v, e = .returned (.tuple #[v, .int .i64 (nzL R : Int), .int .i64 0]) ∧ OwnD w' w.heap.size v R ∧ Below w.heap.size w w'
def LoadP (l : List Nd) (h : Int) (w : World) (e : Ending) (w' : World) : Prop :=
  (ldE l h ≠ 0 ∧ e = .returned (.tuple #[.slice none 0 0, .int .i64 0, .int .i64 (ldE l h)]) ∧ Below w.heap.size w w') ∨ (ldE l h = 0 ∧ LoadOk (bldV l (h + 1).toNat) w e w')
set_option maxRecDepth 100000 in
set_option maxHeartbeats 3200000 in
theorem load_ok (A : Option Addr) (l : List Nd) (c m : Nat) (w : World) (hl : Nds w w.heap.size A l) (hchk : chkV l = 0) (hm : m ≤ 16) (hord : ordB l = true) :
    Calls Tryd.prog 29 #[.slice A l.length c, .int .i64 (m : Int)] w (LoadOk (bldV l (m + 1)) w) := by
  have hsl := (chkV_zero.1 hchk).1
  have hsrt := ord_srt hchk hord
  have HI := Lib.hid (fun (W : World) => (isLevelB_any (m : Int) W).mono fun e w' h => (⟨by rw [h.1]; simp [lvB]; omega, h.2⟩ : e = .returned (.bool true) ∧ W = w'))
  have HC := Lib.hid (fun (W : World) (j : Below w.heap.size w W) => (check_any A l c W ((hl.below j).more j.size) (fun x hx => (wide_of hchk x hx).2)).mono fun e w' h => (⟨by rw [h.1, hchk], h.2⟩ : e = .returned (.int .i64 0) ∧ Below W.heap.size W w'))
  have HO := Lib.hid (fun (W : World) (j : Below w.heap.size w W) => (srtd_any A l c W ((hl.below j).more j.size) (by omega)).mono fun e w' h => (⟨by rw [h.1, hord], h.2⟩ : e = .returned (.bool true) ∧ Below W.heap.size W w'))
  have HNM := Lib.hid (fun (W : World) (j : Below w.heap.size w W) => normal_ok A none l [] c 0 m W ((hl.below j).more j.size) (fun h => absurd rfl h) (fun x hx => by cases hx) (by simp) hchk hm)
  have HCN := Lib.hid (fun (v : Value) (base bm nm t : Nat) (ls : List Ld) (W : World) (j : Below w.heap.size w W) (hb : w.heap.size ≤ base) hv hbs hll hall ht hvm hbm => connect_any A l c v base bm nm ls (idF l l.length) (fun i => i) t (m + 1) W ((hl.below j).more hb) hsl (wide_of hchk) hv hbs hll hall ht (by omega) hvm hbm (fun x hx => idF_at hx))
  have HLA : Hid (cAll l (fun i => i) (m + 1) (nrmV l [] (m + 1)) = bldV l (m + 1) ∧ nzL (bldV l (m + 1)) = cSum l (fun i => i) (m + 1)) := Lib.hid (by
    have := load_all hchk (M := m + 1) (by omega) (nw := fun i => i) (fun x _ => rfl)
    rwa [hsrt] at this)
  have HNX := Lib.hid (fun (k : Nat) (h : k < l.length) (i : Int) => idF_next h i)
  have HCL := Lib.hid (fun t => cSum_le l (fun i => i) t)
  have HAL := Lib.hid (fun t => cAll_all (S := l) (nw := fun i => i) (nrm_all l [] (m + 1)) t)
  have HLN : Hid (∀ t, (cAll l (fun i => i) t (nrmV l [] (m + 1))).length = l.length) := Lib.hid fun t => by rw [cAll_len, nrm_len, hsrt]
  have HL := Lib.hid hl
  have HW := Lib.hid (wide_of hchk)
  have HB0 := Lib.hid (Below.refl w.heap.size w)
  obtain ⟨N, hN⟩ : ∃ N, N = l.length := ⟨_, rfl⟩
  have HN := Lib.hid hN
  rw [← hN] at hsl HC HO HNM HCN HLN ⊢
  generalize bldV l (m + 1) = R at *
  have hmm := @run_makeMap Tryd.prog
  clear hl hchk hord hsrt hN
  go_enter Tryd.func29, Tryd.ntmps29
  go_wp2_with fail
  refine (HI.out _).mono ?_
  rintro e w1 ⟨rfl, rfl⟩
  go_wp2_with fail
  refine (HC.out _ HB0.out).mono ?_
  rintro e w1 ⟨rfl, hb1⟩
  have HB1 := Lib.hid hb1
  clear hb1 HC HI HB0
  go_wp2_with fail
  refine (HO.out _ HB1.out).mono ?_
  rintro e w2 ⟨rfl, hb2⟩
  have HB2 := Lib.hid (HB1.out.trans (hb2.mono HB1.out.size))
  have HBM := Lib.hid ((Below.refl w2.heap.size w2).alloc (Nat.le_refl _) (.map #[] 0))
  have HB3 := Lib.hid (HB2.out.trans (HBM.out.mono HB2.out.size))
  have HM0 := Lib.hid (VMap.made w2 (.int .i64 0))
  obtain ⟨b, hb⟩ : ∃ b, b = w2.heap.size := ⟨_, rfl⟩
  have HBB : Hid (w.heap.size ≤ b) := Lib.hid (by rw [hb]; exact HB2.out.size)
  rw [← hb] at HM0
  clear hb2 HO HB1 HB2 HBM
  go_wp2_with fail
  rw [← hb]
  clear hb
  go_loopw [28] (fun vk wr => ∃ k : Nat, vk = .int .i64 (k : Int) ∧ k ≤ N ∧ Below w.heap.size w wr ∧ ∃ n, n ≤ k ∧ VMap wr b n (.int .i64 0) (idF l k)) (fun vk _ => N - (intOf vk).toNat)
  case atStart => exact ⟨0, rfl, by omega, HB3.out, 0, by omega, by rw [idF_zero]; exact HM0.out⟩
  case round =>
    clear HB3 HM0
    obtain ⟨k, rfl, hk, hB, n, hnk, hM⟩ := hrel
    by_cases hlt : k < N
    · have k1 : k < l.length := by rw [← HN.out]; exact hlt
      obtain ⟨b2, o2, e2, hb2, f1, f2, f3⟩ := HL.out.at_ k1
      replace f1 := (hB.cell (p := ⟨b2, o2 + k * 3, none⟩) hb2).trans f1
      replace f2 := (hB.cell (p := ⟨b2, o2 + k * 3 + 1, none⟩) hb2).trans f2
      replace f3 := (hB.cell (p := ⟨b2, o2 + k * 3 + 2, none⟩) hb2).trans f3
      have hxw := (HW.out _ (List.getElem_mem k1)).1
      have HFX := Lib.hid (HNX.out k k1)
      subst e2
      generalize l[k] = x at *
      obtain ⟨xi, xk, xw⟩ := x
      simp only at f1 f2 f3 hxw HFX
      have i0 : (0 : Int) ≤ (k : Int) := by omega
      have i1 : (k : Int) < (N : Int) := by omega
      have hX := Has.new wr 39 #[.int .i64 xi, .string xk, .int .u32 (xw : Int)]
      have x0 := hX.cell 0
      have hbX := (Below.refl wr.heap.size wr).alloc (Nat.le_refl _) (.cells #[.int .i64 xi, .string xk, .int .u32 (xw : Int)] 39)
      have HBX := Lib.hid (hB.trans (hbX.mono hB.size))
      have HMX := Lib.hid (hM.below hbX)
      clear hX hbX hM hB
      go_wp2_with (at_mapUpdate; refine wpList_vput _ rfl _ _ _ 80 rfl 3 Tryd.underlying80 b n _ _ HMX.out rfl (by unfold maxLen; omega) xi hxw (.int .i64 xi) rfl rfl ?_; intro w5 hm5 hgr5; have HM5 := Lib.hid hm5; have HB5 := Lib.hid (HBX.out.grown hgr5 HBX.out.size (fun j e => (by have := Option.some.inj e; have := HBB.out; omega))); clear hm5 hgr5)
      exact ⟨⟨k + 1, by go_num, hlt, HB5.out, n + 1, by omega, HM5.out.congr HFX.out⟩, by simp [intOf]; omega⟩
    · have ek : k = l.length := by rw [← HN.out]; omega
      have HM := Lib.hid hM
      have HB := Lib.hid hB
      rw [ek] at HM
      clear hM hB ek
      go_wp2_with fail
      refine (HNM.out _ HB.out).mono ?_
      rintro e w3 ⟨v, rfl, ho3, hb3⟩
      have HM3 := Lib.hid (HM.out.below hb3)
      have HB3 := Lib.hid (HB.out.trans (hb3.mono HB.out.size))
      have HD3 := Lib.hid ho3
      obtain ⟨bs, hbs⟩ : ∃ bs, bs = wr.heap.size := ⟨_, rfl⟩
      have hb1 : b < bs := by rw [hbs]; exact HM.out.lt
      have hb2 : bs ≤ w3.heap.size := by rw [hbs]; exact hb3.size
      have hb4 : w.heap.size ≤ bs := by rw [hbs]; exact HB.out.size
      rw [← hbs] at HD3
      have HBR := Lib.hid (Below.refl bs w3)
      have hmz : (m : Int) ≤ 16 := by omega
      have hm0 : (0 : Int) ≤ (m : Int) := by omega
      clear ho3 hb3 HM HB hbs HNM
      go_wp2_with fail
      go_loopw [11, 43] (fun vc vt wr => ∃ (t cn : Nat), vt = .int .i64 (t : Int) ∧ vc = .int .i64 (cn : Int) ∧ t ≤ m + 1 ∧ Hid (cn = cSum l (fun i => i) t) ∧ OwnD wr bs v (cAll l (fun i => i) t (nrmV l [] (m + 1))) ∧ Below bs w3 wr) (fun _ vt _ => m + 1 - (intOf vt).toNat)
      case atStart => exact ⟨0, 0, rfl, rfl, by omega, Lib.hid rfl, HD3.out, HBR.out⟩
      case round =>
        clear HD3 HBR
        obtain ⟨t, cn, rfl, rfl, ht, HCE, hD, hBw⟩ := hrel
        by_cases hltt : t < m + 1
        · have t1 : (t : Int) < (m : Int) + 1 := by omega
          have hBW := HB3.out.trans (hBw.mono hb4)
          have HCC := Lib.hid (HCN.out v bs b n t (cAll l (fun i => i) t (nrmV l [] (m + 1))) _ hBW hb4 hD (Nat.le_trans hb2 hBw.size) (by rw [HLN.out, HN.out]) (HAL.out t) hltt (by rw [HN.out]; exact HM3.out.blk (hBw.block b hb1)) hb1)
          obtain ⟨q, hq⟩ : ∃ q, q = cCnt l (fun i => i) t N := ⟨_, rfl⟩
          have HQ := Lib.hid hq
          have hq2 : q ≤ 2 * N := by rw [hq, HN.out]; exact cCnt_le _ _ _ _
          have hc2 : cn ≤ 2500 := by
            have h1 := HCL.out t
            have h2 := HCE.out
            have h3 := HN.out
            have h4 : t * (2 * l.length) ≤ 17 * (2 * 64) := Nat.mul_le_mul (by omega) (by omega)
            omega
          have HBW := Lib.hid hBw
          rw [← hq] at HCC
          clear hBW hD hBw hq
          have t0 : (0 : Int) ≤ (t : Int) := by omega
          go_wp2_with fail
          refine (HCC.out).mono ?_
          rintro e w4 ⟨rfl, hD4, hB4⟩
          have HD4 := Lib.hid hD4
          have HB4 := Lib.hid (HBW.out.trans hB4)
          clear hD4 hB4 HCC HBW
          have hcw : IntKind.i64.wrap ((cn : Int) + (q : Int)) = (cn : Int) + (q : Int) := IntWalk.i64_in _ (by omega)
          go_wp2_with fail
          exact ⟨⟨t + 1, cn + q, by go_num, by simp, hltt, Lib.hid (by rw [cSum, HCE.out, HQ.out, HN.out]), by have := HD4.out; rw [HN.out] at this; exact this, HB4.out⟩, by simp [intOf]; omega⟩
        · have et : t = m + 1 := by omega
          subst et
          have HZ : Hid (nzL R = cn) := Lib.hid (by rw [HCE.out, HLA.out.2])
          have HDR := Lib.hid (hD.low hb4)
          rw [HLA.out.1] at HDR
          have HBR := Lib.hid (HB3.out.trans (hBw.mono hb4))
          clear hD hBw
          have hcz : ¬ ((m : Int) + 1 < (m : Int) + 1) := by omega
          go_wp2_with fail
          go_ret3
          exact ⟨v, by rw [HZ.out]; rfl, HDR.out, HBR.out⟩
theorem ldE_cases (l : List Nd) (h : Int) : (lvB h = false ∧ ldE l h = 2) ∨ (lvB h = true ∧ chkV l ≠ 0 ∧ ldE l h = 1) ∨ (lvB h = true ∧ chkV l = 0 ∧ ordB l = false ∧ ldE l h = 8) ∨ (lvB h = true ∧ chkV l = 0 ∧ ordB l = true ∧ ldE l h = 0) := by
  unfold ldE
  cases h1 : lvB h <;> by_cases h2 : chkV l = 0 <;> cases h3 : ordB l <;> simp [h2]
set_option maxRecDepth 100000 in
set_option maxHeartbeats 1600000 in
theorem load_any (A : Option Addr) (l : List Nd) (c : Nat) (h : Int) (w : World) (hl : Nds w w.heap.size A l) (hwd : ∀ x ∈ l, x.word < 4294967296) :
    Calls Tryd.prog 29 #[.slice A l.length c, .int .i64 h] w (LoadP l h w) := by
  rcases ldE_cases l h with ⟨h1, he⟩ | ⟨h1, h2, he⟩ | ⟨h1, h2, h3, he⟩ | ⟨h1, h2, h3, he⟩
  · have HI := Lib.hid (isLevelB_any h w)
    rw [h1] at HI
    have HR : Hid (∀ e w', e = .returned (.tuple #[.slice none 0 0, .int .i64 0, .int .i64 2]) ∧ Below w.heap.size w w' → LoadP l h w e w') := Lib.hid fun e w' k => .inl ⟨by rw [he]; decide, by rw [he]; exact k.1, k.2⟩
    generalize LoadP l h w = P at *
    clear hl hwd h1 he
    go_enter Tryd.func29, Tryd.ntmps29
    go_wp2_with fail
    refine (HI.out).mono ?_
    rintro e w1 ⟨rfl, rfl⟩
    go_wp2_with fail
    go_ret3
    exact HR.out _ _ ⟨rfl, Below.refl _ _⟩
  · have HI := Lib.hid (isLevelB_any h w)
    rw [h1] at HI
    have HC := Lib.hid (check_any A l c w hl hwd)
    have HR : Hid (∀ e w', e = .returned (.tuple #[.slice none 0 0, .int .i64 0, .int .i64 1]) ∧ Below w.heap.size w w' → LoadP l h w e w') := Lib.hid fun e w' k => .inl ⟨by rw [he]; decide, by rw [he]; exact k.1, k.2⟩
    generalize LoadP l h w = P at *
    have hz : (chkV l != 0) = true := by simpa using h2
    generalize chkV l = cv at *
    clear hl hwd h1 he h2
    go_enter Tryd.func29, Tryd.ntmps29
    go_wp2_with fail
    refine (HI.out).mono ?_
    rintro e w1 ⟨rfl, rfl⟩
    go_wp2_with fail
    refine (HC.out).mono ?_
    rintro e w1 ⟨rfl, hb1⟩
    go_wp2_with fail
    go_ret3
    exact HR.out _ _ ⟨rfl, hb1⟩
  · have HI := Lib.hid (isLevelB_any h w)
    rw [h1] at HI
    have HC := Lib.hid (check_any A l c w hl hwd)
    rw [h2] at HC
    have hsl := (chkV_zero.1 h2).1
    have HS := Lib.hid (fun (W : World) (j : Below w.heap.size w W) => srtd_any A l c W ((hl.below j).more j.size) (by omega))
    rw [h3] at HS
    have HR : Hid (∀ e w', e = .returned (.tuple #[.slice none 0 0, .int .i64 0, .int .i64 8]) ∧ Below w.heap.size w w' → LoadP l h w e w') := Lib.hid fun e w' k => .inl ⟨by rw [he]; decide, by rw [he]; exact k.1, k.2⟩
    generalize LoadP l h w = P at *
    clear hl hwd h1 he h2 h3
    go_enter Tryd.func29, Tryd.ntmps29
    go_wp2_with fail
    refine (HI.out).mono ?_
    rintro e w1 ⟨rfl, rfl⟩
    go_wp2_with fail
    refine (HC.out).mono ?_
    rintro e w1 ⟨rfl, hb1⟩
    have HB1 := Lib.hid hb1
    clear hb1
    go_wp2_with fail
    refine (HS.out _ HB1.out).mono ?_
    rintro e w2 ⟨rfl, hb2⟩
    have HB2 := Lib.hid (HB1.out.trans (hb2.mono HB1.out.size))
    clear hb2
    go_wp2_with fail
    go_ret3
    exact HR.out _ _ ⟨rfl, HB2.out⟩
  · obtain ⟨m, rfl⟩ : ∃ m : Nat, h = (m : Int) := ⟨h.toNat, by have : 0 ≤ h := by { have := h1; simp [lvB] at this; omega }; omega⟩
    have hm : m ≤ 16 := by have := h1; simp [lvB] at this; omega
    refine (load_ok A l c m w hl h2 hm h3).mono fun e w' k => .inr ⟨he, ?_⟩
    rw [show ((m : Int) + 1).toNat = m + 1 by omega]
    exact k
end
end Go.Proofs.YtddcfiiahahkbaaDoor
