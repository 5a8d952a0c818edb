/-
  The reference's top, next, Route and Same of chapter 8. Conditions: the nodes and links can be read.
  The reference's Route and Same of chapter 8. Conditions: the nodes and links can be read.
  The reference's Route, with its errors, and Same of equal lists of hops. Conditions: what is read can be read.
-/
import Derived.Test.YtjokbdhineilcaaGreatDoorLuH
import Derived.Test.YtjokbdhineilcaaGreatDoorKqA
import Derived.Test.YtjokbdhineilcaaGreatDoorLmJ
import Derived.BigRegion
import Derived.BigQuiet
import Derived.Test.YtjokbdhineilcaaGreatDoorKdK
import Derived.Test.YtjokbdhineilcaaGreatDoorKsC
import Derived.Deep.DeepCutAuto
import Derived.Deep.CutBlock
namespace Go.Proofs.YtjokbdhineilcaaGreatDoor
section
open Go.RowKit


/-! the reference -/
def topV (k : List Ld) (id : Int) : Int := min (((levV k id).length : Int) - 1) 16
theorem lev_is {k : List Ld} {id : Int} {i : Nat} (hi : i < k.length) (h1 : k[i].id = id) (h2 : ∀ j (_ : j < i) (h : j < k.length), k[j].id ≠ id) : levV k id = k[i].levels := by
  have : k.find? (fun x => decide (x.id = id)) = some k[i] := by
    rw [List.find?_eq_some_iff_getElem]
    exact ⟨by simpa using h1, i, hi, rfl, fun j hj => by simpa using h2 j hj (by omega)⟩
  unfold levV
  rw [this]
  rfl
theorem lev_not {k : List Ld} {id : Int} (h : ∀ j (h : j < k.length), k[j].id ≠ id) : levV k id = [] := by
  have : k.find? (fun x => decide (x.id = id)) = none := by
    rw [List.find?_eq_none]
    intro x hx
    obtain ⟨j, hj, rfl⟩ := List.mem_iff_getElem.1 hx
    simpa using h j hj
  unfold levV
  rw [this]
  rfl
set_option maxRecDepth 100000 in
set_option maxHeartbeats 1600000 in
theorem rtop_any (A : Option Addr) (k : List Ld) (c : Nat) (id : Int) (w : World) (hl : Lds w w.heap.size A k) (hn : k.length ≤ maxLen) :
    Calls Tryz.prog 64 #[.slice A k.length c, .int .i64 id] w fun e w' => e = .returned (.int .i64 (topV k id)) ∧ w = w' := by
  have HIS := Lib.hid (fun (i : Nat) (hi : i < k.length) (h1 : k[i].id = id) (h2 : ∀ j (_ : j < i) (h : j < k.length), k[j].id ≠ id) => (by unfold topV; rw [lev_is hi h1 h2] : topV k id = min ((k[i].levels.length : Int) - 1) 16))
  have HNO := Lib.hid (fun (h : ∀ j (h : j < k.length), k[j].id ≠ id) => (by unfold topV; rw [lev_not h]; rfl : topV k id = -1))
  have HLK : Hid (∀ (i : Nat) (h : i < k.length), ∃ b o, A = some ⟨b, o, none⟩ ∧ b < w.heap.size ∧ w.cell? ⟨b, o + i * 2, none⟩ = some (.int .i64 k[i].id) ∧ ∃ (A' : Option Addr) (c' : Nat), w.cell? ⟨b, o + i * 2 + 1, none⟩ = some (.slice A' k[i].levels.length c') ∧ k[i].levels.length ≤ c' ∧ c' ≤ maxLen ∧ Lks w w.heap.size A' k[i].levels) := Lib.hid fun i h => hl.at_ h
  have hml : maxLen ≤ 9223372036854775807 := by decide
  generalize topV k id = V at *
  obtain ⟨n, hnn⟩ : ∃ n, n = k.length := ⟨_, rfl⟩
  have HN := Lib.hid hnn
  rw [← hnn] at hn ⊢
  clear hnn hl
  go_enter Tryz.func64, Tryz.ntmps64
  go_wp2_with fail
  go_loopw [5] (fun vi wr => ∃ i : Nat, i ≤ n ∧ vi = .int .i64 (i : Int) ∧ w = wr ∧ Hid (∀ j (_ : j < i) (h : j < k.length), k[j].id ≠ id)) (fun vi _ => n - (intOf vi).toNat)
  case atStart => exact ⟨0, Nat.zero_le _, rfl, rfl, Lib.hid (fun j h => absurd h (by omega))⟩
  case round =>
    obtain ⟨i, hi, rfl, rfl, HK⟩ := hrel
    by_cases hlt : i < n
    · have i2 : i < k.length := by rw [← HN.out]; exact hlt
      obtain ⟨b, o, hA2, hbl, f1, A', c', f2, hc1, hc2, hr⟩ := HLK.out i i2
      subst hA2
      have HYK := Lib.hid (fun (h : k[i].id = id) => HIS.out i i2 h HK.out)
      have HNK := Lib.hid (fun (h : k[i].id ≠ id) (j : Nat) (h1 : j < i + 1) (h2 : j < k.length) => (by
        by_cases e : j = i
        · subst e; exact h
        · exact HK.out j (by omega) h2 : k[j].id ≠ id))
      generalize k[i] = y at *
      obtain ⟨yi, ys⟩ := y
      simp only at f1 f2 hc1 HYK HNK
      have i0 : (0 : Int) ≤ (i : Int) := by omega
      have i1 : (i : Int) < (n : Int) := by omega
      clear hr i2
      by_cases he : yi = id
      · subst he
        have HV := Lib.hid (HYK.out rfl)
        have e1 : (yi == yi) = true := by simp
        generalize ys.length = p at *
        have hpm : (p : Int) ≤ 9223372036854775807 := by omega
        have e2 : IntKind.i64.wrap ((p : Int) - 1) = (p : Int) - 1 := IntWalk.i64_in _ (by omega)
        clear HYK HNK HK HIS HNO HLK
        go_wp2_with fail
        all_goals
          go_ret
          exact ⟨ret_int (by have := HV.out; omega), rfl⟩
      · have HZ := Lib.hid (HNK.out he)
        have e1 : (yi == id) = false := by simpa using he
        clear HYK HNK HK
        go_wp2_with fail
        exact ⟨⟨i + 1, hlt, by go_num, trivial, HZ⟩, by simp [intOf]; omega⟩
    · have HV := Lib.hid (HNO.out fun j h => HK.out j (by have := HN.out; omega) h)
      have i1 : ¬ (i : Int) < (n : Int) := by omega
      clear HK HIS HNO
      go_wp2_with fail
      go_ret
      exact ⟨ret_int HV.out.symm, rfl⟩
/-- Whether a search hops. -/
def nxB (l : List Nd) (k : List Ld) (q : ByteArray) (r : Bool) (x : Nd) (t : Int) : Bool :=
  decide (plc l (lkS r (atV k x.id t)) < l.length) && (far r x (fndV l (lkS r (atV k x.id t))) && (kl q (fndV l (lkS r (atV k x.id t))).key == !r))
theorem nxB_yes {l : List Nd} {k : List Ld} {q : ByteArray} {r : Bool} {x : Nd} {t : Nat} (h : nxB l k q r x (t : Int) = true) : nxO l k q r x t = some (fndV l (lkS r (atV k x.id (t : Int)))) := by
  unfold nxB at h
  simp only [Bool.and_eq_true, decide_eq_true_eq, beq_iff_eq] at h
  unfold nxO
  rw [if_pos ⟨h.1, h.2.1, h.2.2⟩]
theorem nxB_no {l : List Nd} {k : List Ld} {q : ByteArray} {r : Bool} {x : Nd} {t : Nat} (h : nxB l k q r x (t : Int) = false) : nxO l k q r x t = none := by
  unfold nxO
  rw [if_neg]
  rintro ⟨h1, h2, h3⟩
  unfold nxB at h
  rw [decide_eq_true h1, h2, h3] at h
  simp at h
set_option maxRecDepth 100000 in
set_option maxHeartbeats 3200000 in
theorem rnext_any (A A2 : Option Addr) (l : List Nd) (k : List Ld) (c c2 : Nat) (x : Nd) (q : ByteArray) (t : Int) (r : Bool) (w : World) (hl : Nds w w.heap.size A l) (hln : l.length ≤ 100000) (hk : Lds w w.heap.size A2 k) (hkn : k.length ≤ maxLen) :
    Calls Tryz.prog 65 #[.slice A l.length c, .slice A2 k.length c2, x.val, .string q, .int .i64 t, .bool r] w fun e w' => e = .returned (.tuple #[(fndV l (lkS r (atV k x.id t))).val, .bool (nxB l k q r x t)]) ∧ Below w.heap.size w w' := by
  have HAT := Lib.hid (fun (W : World) (j : Below w.heap.size w W) => rat_any A2 k c2 x.id t W ((hk.below j).more j.size) hkn)
  have HFD := Lib.hid (fun (W : World) (j : Below w.heap.size w W) => rfind_any A l c (lkS r (atV k x.id t)) W ((hl.below j).more j.size) hln)
  unfold AtP at HAT
  unfold FndP at HFD
  have HB : Hid (nxB l k q r x t = (decide (plc l (lkS r (atV k x.id t)) < l.length) && (far r x (fndV l (lkS r (atV k x.id t))) && (kl q (fndV l (lkS r (atV k x.id t))).key == !r)))) := Lib.hid rfl
  generalize nxB l k q r x t = ZB at *
  generalize hy : atV k x.id t = yy at *
  generalize decide (plc l (lkS r yy) < l.length) = fb at *
  generalize fndV l (lkS r yy) = z at *
  obtain ⟨n, hn⟩ : ∃ n, n = l.length := ⟨_, rfl⟩
  obtain ⟨m, hm⟩ : ∃ m, m = k.length := ⟨_, rfl⟩
  rw [← hn] at HFD ⊢
  rw [← hm] at HAT ⊢
  obtain ⟨yl, yr⟩ := yy
  obtain ⟨xi, xk, xw⟩ := x
  obtain ⟨zi, zk, zw⟩ := z
  have hbX := (Below.refl w.heap.size w).alloc (Nat.le_refl _) (.cells #[.int .i64 xi, .string xk, .int .u32 (xw : Int)] 25)
  have hX := Has.new w 25 #[.int .i64 xi, .string xk, .int .u32 (xw : Int)]
  obtain ⟨W1, hW1⟩ : ∃ W : World, W = w.alloc (.cells #[.int .i64 xi, .string xk, .int .u32 (xw : Int)] 25) := ⟨_, rfl⟩
  rw [← hW1] at hbX hX
  have hbR := (Below.refl W1.heap.size W1).alloc (Nat.le_refl _) (.cells #[.int .i64 0, .string ByteArray.empty, .int .u32 0] 25)
  have hR := Has.new W1 25 #[.int .i64 0, .string ByteArray.empty, .int .u32 0]
  have HX2 := Lib.hid (hX.below hbR)
  have HR2 := Lib.hid hR
  have HB2 := Lib.hid (hbX.trans (hbR.mono hbX.size))
  have hsz : W1.heap.size = w.heap.size + 1 := by rw [hW1, World.size_alloc]
  have HSZ := Lib.hid hsz
  have HC1 := Lib.hid (HAT.out _ HB2.out)
  simp only at HC1 HB HFD
  rw [hW1] at HX2 HR2 HB2 HC1 HSZ
  clear hl hln hk hkn hy hn hm hbX hX hbR hR hsz hW1 HAT
  go_enter Tryz.func65, Tryz.ntmps65
  go_wp2_with fail
  refine (HC1.out).mono ?_
  rintro e w1 ⟨rfl, hb1⟩
  have hbL := (Below.refl w1.heap.size w1).alloc (Nat.le_refl _) (.cells #[.int .i64 yl, .int .i64 yr] 53)
  have hL := Has.new w1 53 #[.int .i64 yl, .int .i64 yr]
  have l0 := hL.cell 0
  have l1 := hL.cell 1
  have HX3 := Lib.hid ((HX2.out.below hb1).below hbL)
  have HR3 := Lib.hid ((HR2.out.below hb1).below hbL)
  have HB3 := Lib.hid ((HB2.out.trans (hb1.mono HB2.out.size)).trans (hbL.mono (Nat.le_trans HB2.out.size hb1.size)))
  rw [HSZ.out] at HR3
  clear hb1 HX2 HR2 HB2 HC1 hbL hL
  have hl2 := gtr_kl zk q
  have hl3 : (Op.bytesLess zk.toList q.toList || zk.toList == q.toList) = !kl q zk := by rw [← gtr_kl zk q, Bool.not_not]
  have hl4 := gtr_kl zk xk
  have hl5 : Op.bytesLess zk.toList xk.toList = kl zk xk := rfl
  cases r
  · have HC2 := Lib.hid (HFD.out _ HB3.out)
    simp only [lkS, far, Bool.false_eq_true, if_false, Bool.not_false] at HC2 HB
    generalize kl q zk = K1 at *
    generalize kl zk xk = K2 at *
    clear hl3 hl4 HFD
    cases fb <;> cases K1 <;> cases K2
    all_goals
      go_wp2_with fail
      refine (HC2.out).mono ?_
      rintro e w2 ⟨rfl, hb2⟩
      have hbY := (Below.refl w2.heap.size w2).alloc (Nat.le_refl _) (.cells #[.int .i64 zi, .string zk, .int .u32 (zw : Int)] 25)
      have hY := Has.new w2 25 #[.int .i64 zi, .string zk, .int .u32 (zw : Int)]
      have hX4 := (HX3.out.below hb2).below hbY
      have hR4 := (HR3.out.below hb2).below hbY
      have HB4 := Lib.hid ((HB3.out.trans (hb2.mono HB3.out.size)).trans (hbY.mono (Nat.le_trans HB3.out.size hb2.size)))
      obtain ⟨WY, hWY⟩ : ∃ W : World, W = w2.alloc (.cells #[.int .i64 zi, .string zk, .int .u32 (zw : Int)] 25) := ⟨_, rfl⟩
      obtain ⟨Yb, hYb⟩ : ∃ Y, Y = w2.heap.size := ⟨_, rfl⟩
      have hlt : w.heap.size + 1 < Yb := by rw [hYb]; exact (HR3.out.below hb2).lt
      have hne1 : ¬ Yb = w.heap.size + 1 := by omega
      have hne2 : ¬ w.heap.size + 1 = Yb := by omega
      clear hlt hb2 hbY HX3 HR3 HB3 HC2
      go_upto_region 6 with fail
      rw [← hWY] at hY hX4 hR4 HB4 ⊢
      rw [← hYb] at hY ⊢
      clear hWY hYb l0 l1
      have hY5 := hY
      have hX5 := hX4
      have hR5 := hR4
      have HB5 := Lib.hid HB4.out.drew
      clear hY hX4 hR4 HB4
      have y0 := hY5.cell 0
      have y1 := hY5.cell 1
      have y2 := hY5.cell 2
      have x1 := hX5.cell 1
      have r0 := hR5.cell 0
      have r1 := hR5.cell 1
      have r2 := hR5.cell 2
      have rf := fun o => hR5.frozen o
      clear hY5 hX5 hR5
      go_region
      go_wp2_with fail
      refine bodyPost_ret (v := .tuple #[.agg #[.int .i64 zi, .string zk, .int .u32 (zw : Int)], .bool ZB]) (by simp [results, Tryz.results65, go_sem, HB.out, *]) rfl ⟨rfl, ?_⟩
      exact ((HB5.out.setCell (Nat.le_succ _) _).setCell (Nat.le_succ _) _).setCell (Nat.le_succ _) _
  · have HC2 := Lib.hid (HFD.out _ HB3.out)
    simp only [lkS, far, if_true, Bool.not_true] at HC2 HB
    generalize kl q zk = K1 at *
    generalize kl xk zk = K2 at *
    clear hl2 hl5 HFD
    cases fb <;> cases K1 <;> cases K2
    all_goals
      go_wp2_with fail
      refine (HC2.out).mono ?_
      rintro e w2 ⟨rfl, hb2⟩
      have hbY := (Below.refl w2.heap.size w2).alloc (Nat.le_refl _) (.cells #[.int .i64 zi, .string zk, .int .u32 (zw : Int)] 25)
      have hY := Has.new w2 25 #[.int .i64 zi, .string zk, .int .u32 (zw : Int)]
      have hX4 := (HX3.out.below hb2).below hbY
      have hR4 := (HR3.out.below hb2).below hbY
      have HB4 := Lib.hid ((HB3.out.trans (hb2.mono HB3.out.size)).trans (hbY.mono (Nat.le_trans HB3.out.size hb2.size)))
      obtain ⟨WY, hWY⟩ : ∃ W : World, W = w2.alloc (.cells #[.int .i64 zi, .string zk, .int .u32 (zw : Int)] 25) := ⟨_, rfl⟩
      obtain ⟨Yb, hYb⟩ : ∃ Y, Y = w2.heap.size := ⟨_, rfl⟩
      have hlt : w.heap.size + 1 < Yb := by rw [hYb]; exact (HR3.out.below hb2).lt
      have hne1 : ¬ Yb = w.heap.size + 1 := by omega
      have hne2 : ¬ w.heap.size + 1 = Yb := by omega
      clear hlt hb2 hbY HX3 HR3 HB3 HC2
      go_upto_region 4 with fail
      rw [← hWY] at hY hX4 hR4 HB4 ⊢
      rw [← hYb] at hY ⊢
      clear hWY hYb l0 l1
      have hY5 := hY
      have hX5 := hX4
      have hR5 := hR4
      have HB5 := Lib.hid HB4.out.drew
      clear hY hX4 hR4 HB4
      have y0 := hY5.cell 0
      have y1 := hY5.cell 1
      have y2 := hY5.cell 2
      have x1 := hX5.cell 1
      have r0 := hR5.cell 0
      have r1 := hR5.cell 1
      have r2 := hR5.cell 2
      have rf := fun o => hR5.frozen o
      clear hY5 hX5 hR5
      go_region
      go_wp2_with fail
      refine bodyPost_ret (v := .tuple #[.agg #[.int .i64 zi, .string zk, .int .u32 (zw : Int)], .bool ZB]) (by simp [results, Tryz.results65, go_sem, HB.out, *]) rfl ⟨rfl, ?_⟩
      exact ((HB5.out.setCell (Nat.le_succ _) _).setCell (Nat.le_succ _) _).setCell (Nat.le_succ _) _
end
section
open Go.RowKit


theorem topV_lev (k : List Ld) (id : Int) : ∃ L : Nat, topV k id = (L : Int) - 1 ∧ L ≤ 17 ∧ ∀ t : Nat, L ≤ t → t < 17 → atV k id (t : Int) = ⟨0, 0⟩ := by
  refine ⟨min (levV k id).length 17, by unfold topV; omega, by omega, fun t h1 h2 => ?_⟩
  rw [at_lev, List.getElem?_eq_none (by omega)]
  rfl
theorem rt_top {l : List Nd} {k : List Ld} {q : ByteArray} {r : Bool} (hc : chkV l = 0) {x : Nd} {L : Nat} (hL : L ≤ 17) (h : ∀ t : Nat, L ≤ t → t < 17 → atV k x.id (t : Int) = ⟨0, 0⟩) : rtW l k q r x 17 = rtW l k q r x L := by
  have : ∀ n : Nat, L ≤ n → n ≤ 17 → rtW l k q r x n = rtW l k q r x L := by
    intro n
    induction n with
    | zero =>
      intro h1 _
      obtain rfl : L = 0 := by omega
      rfl
    | succ n ih =>
      intro h1 h2
      rcases Nat.lt_or_ge n L with g | g
      · obtain rfl : L = n + 1 := by omega
        rfl
      · rw [rt_down (nx_zero hc (h n g (by omega))), ih g (by omega)]
  exact this 17 hL (Nat.le_refl _)
theorem field_left (a b : Int) (w : World) : (Instr.field 53 (.agg #[.int .i64 a, .int .i64 b]) 0).run Tryz.prog w = .ok (.int .i64 a) w := by kernel_rfl
theorem geq_kl (a b : ByteArray) : (!(Op.bytesLess a.toList b.toList)) = !kl a b := rfl
theorem set3 {w : World} {X : Nat} {t : TypeId} {a0 a1 a2 : Value} (h : Has w X t #[a0, a1, a2]) (b0 b1 b2 : Value) : Has (((w.setCell ⟨X, 0, none⟩ b0).setCell ⟨X, 1, none⟩ b1).setCell ⟨X, 2, none⟩ b2) X t #[b0, b1, b2] :=
  ((h.set_ 0 b0).set_ 1 b1).set_ 2 b2
theorem heap3 (w : World) (X : Nat) (b0 b1 b2 : Value) (i : Nat) (hi : i ≠ X) : (((w.setCell ⟨X, 0, none⟩ b0).setCell ⟨X, 1, none⟩ b1).setCell ⟨X, 2, none⟩ b2).heap[i]? = w.heap[i]? := by
  rw [Below.heap_setCell _ ⟨X, 2, none⟩ _ i hi, Below.heap_setCell _ ⟨X, 1, none⟩ _ i hi, Below.heap_setCell _ ⟨X, 0, none⟩ _ i hi]
set_option maxRecDepth 100000 in
set_option maxHeartbeats 3200000 in
theorem rroute_ok (A A2 : Option Addr) (l : List Nd) (k : List Ld) (c c2 : Nat) (id : Int) (q : ByteArray) (w : World) (hl : Nds w w.heap.size A l) (hk : Lds w w.heap.size A2 k) (hkn : k.length ≤ maxLen) (hc : chkV l = 0) (hv : vk q = true) (hp : plc l id < l.length) :
    Calls Tryz.prog 41 #[.slice A l.length c, .slice A2 k.length c2, .int .i64 id, .string q] w (RteP 0 (rteW l k q (fndV l id)) w) := by
  obtain ⟨inf, hif, hif1, hif2, hif3⟩ := infoH_parts
  have hll : l.length ≤ 64 := (chkV_zero.1 hc).1
  have HIS := Lib.hid (ris_any A l c w hl (fun x hx => (wide_of hc x hx).2))
  have HVK := Lib.hid (fun (W : World) => vk_ref q W)
  rw [hv] at HVK
  rw [hc, show ((0 : Int) == 0) = true from rfl] at HIS
  have HFD := Lib.hid (fun (W : World) (j : Below w.heap.size w W) (i : Int) => rfind_any A l c i W ((hl.below j).more j.size) (by omega))
  have HAT := Lib.hid (fun (W : World) (j : Below w.heap.size w W) (i t : Int) => rat_any A2 k c2 i t W ((hk.below j).more j.size) hkn)
  have HTP := Lib.hid (fun (W : World) (j : Below w.heap.size w W) => rtop_any A2 k c2 id W ((hk.below j).more j.size) hkn)
  have HNX := Lib.hid (fun (W : World) (j : Below w.heap.size w W) (x : Nd) (t : Int) (r : Bool) => rnext_any A A2 l k c c2 x q t r W ((hl.below j).more j.size) (by omega) ((hk.below j).more j.size) hkn)
  unfold FndP at HFD
  unfold AtP at HAT
  obtain ⟨hxl, hxi⟩ := fnd_in hp
  have HF0 := Lib.hid (fun (W : World) (j : Below w.heap.size w W) => HFD.out W j id)
  rw [decide_eq_true hp] at HF0
  obtain ⟨L0, hL0, hL17, hLz⟩ := topV_lev k id
  rw [hL0] at HTP
  have HRT : Hid (rteW l k q (fndV l id) = (rtW l k q (!kl q (fndV l id).key) (fndV l id) L0).1 ++ lstO l k q (!kl q (fndV l id).key) (rtW l k q (!kl q (fndV l id).key) (fndV l id) L0).2) := Lib.hid (by
    unfold rteW
    rw [rt_top hc hL17 (by rw [hxi]; exact hLz)])
  generalize fndV l id = x at *
  generalize hr : (!kl q x.key) = r at *
  have HDS := Lib.hid (fun (y : Nd) (i : Int) (h : y.id = i) (hy : y ∈ l) => (by
    subst h
    show dsV r l (fndV l y.id) = dsV r l y
    rw [fnd_self (chkV_zero.1 hc).2.2 hy] : dsC r l (some (.int .i64 i)) = dsV r l y))
  have HD1 := Lib.hid (fun (y z : Nd) (t : Nat) (e : nxO l k q r y t = some z) => nxO_ds e)
  have HR0 := Lib.hid (fun (y : Nd) => rt_zero (l := l) (k := k) (q := q) (r := r) y)
  have HR1 := Lib.hid (fun (y : Nd) (t : Nat) (e : nxO l k q r y t = none) => rt_down e)
  have HR2 := Lib.hid (fun (y z : Nd) (t : Nat) (e : nxO l k q r y t = some z) => rt_hop e)
  have HSO := Lib.hid (fun (y z : Nd) (t : Nat) (e : nxO l k q r y t = some z) => nxO_some e)
  have HBY := Lib.hid (fun (y : Nd) (t : Nat) (e : nxB l k q r y (t : Int) = true) => nxB_yes e)
  have HBN := Lib.hid (fun (y : Nd) (t : Nat) (e : nxB l k q r y (t : Int) = false) => nxB_no e)
  have HDL := Lib.hid (fun (y : Nd) => Nat.le_trans (ds_le r l y) hll)
  have HPZ := Lib.hid (fun (i : Int) (h : plc l i < l.length) => fnd_in h)
  rw [HRT.out]
  obtain ⟨n, hn⟩ : ∃ n, n = l.length := ⟨_, rfl⟩
  obtain ⟨m, hm⟩ : ∃ m, m = k.length := ⟨_, rfl⟩
  rw [← hn] at HIS HFD HF0 HNX ⊢
  rw [← hm] at HAT HTP HNX ⊢
  have HNL := Lib.hid hn
  have HXL := Lib.hid hxl
  have HXI := Lib.hid hxi
  have hsq : (!(Op.bytesLess q.toList x.key.toList)) = r := hr
  obtain ⟨Tt, hTt⟩ : ∃ T, T = rtW l k q r x L0 := ⟨_, rfl⟩
  have HTT := Lib.hid hTt
  rw [← hTt]
  have HE : Hid (∀ (v : Value) (w' : World) (R : List Hp) (b : Nat), w.heap.size ≤ b → OwnH w' b v R → Below w.heap.size w w' → R = Tt.1 ++ lstO l k q r Tt.2 → RteP 0 (Tt.1 ++ lstO l k q r Tt.2) w (.returned (.tuple #[v, .int .i64 0])) w') := Lib.hid fun v w' R b hb h1 h2 h3 => ⟨v, rfl, by rw [← h3]; exact h1.low hb, h2⟩
  generalize hPO : RteP 0 (Tt.1 ++ lstO l k q r Tt.2) w = POST at *
  obtain ⟨xi, xk, xw⟩ := x
  simp only at hsq hxi HF0
  clear hl hk hkn hc hv hp hll hxl hxi hLz hL0 HRT hr hn hm hTt hPO
  go_enter Tryz.func41, Tryz.ntmps41
  go_wp2_with fail
  refine (HIS.out).mono ?_
  rintro e w1 ⟨rfl, hb1⟩
  have HB1 := Lib.hid hb1
  clear hb1 HIS
  go_wp2_with fail
  refine (HVK.out _).mono ?_
  rintro e w2 ⟨rfl, rfl⟩
  go_wp2_with fail
  refine (HF0.out _ HB1.out).mono ?_
  rintro e w2 ⟨rfl, hb2⟩
  have hbX := (Below.refl w2.heap.size w2).alloc (Nat.le_refl _) (.cells #[.int .i64 xi, .string xk, .int .u32 (xw : Int)] 25)
  have hX := Has.new w2 25 #[.int .i64 xi, .string xk, .int .u32 (xw : Int)]
  have x1 := hX.cell 1
  have HX2 := Lib.hid hX
  have HB2 := Lib.hid (HB1.out.trans ((hb2.trans (hbX.mono hb2.size)).mono HB1.out.size))
  obtain ⟨X, hXe⟩ : ∃ X, X = w2.heap.size := ⟨_, rfl⟩
  have hwX : w.heap.size ≤ X := by rw [hXe]; exact Nat.le_trans HB1.out.size hb2.size
  rw [← hXe] at HX2
  obtain ⟨W2, hW2⟩ : ∃ W : World, W = w2.alloc (.cells #[.int .i64 xi, .string xk, .int .u32 (xw : Int)] 25) := ⟨_, rfl⟩
  rw [← hW2] at HX2 HB2
  clear hb2 hbX hX HB1 HF0 HVK
  have HTQ : Hid (Calls Tryz.prog 64 #[.slice A2 m c2, .int .i64 id] W2 fun e w' => e = .returned (.int .i64 ((L0 : Int) - 1)) ∧ W2 = w') := Lib.hid (HTP.out W2 HB2.out)
  rw [hW2] at HTQ
  clear HTP
  go_wp2_with fail
  refine (HTQ.out).mono ?_
  rintro e w3 ⟨rfl, hw3⟩
  rw [← hW2] at hw3
  subst hw3
  clear hW2 HTQ x1
  go_wp2_with fail
  try rw [← hXe]
  clear hXe
  go_loopw [13, 14] (fun vo vt wr => ∃ (v1 : Value) (L : Nat) (y : Nd) (hs : List Hp), v1 = vo ∧ vt = .int .i64 ((L : Int) - 1) ∧ L ≤ 17 ∧ OwnH wr (X + 1) v1 hs ∧ Has wr X 25 #[.int .i64 y.id, .string y.key, .int .u32 (y.word : Int)] ∧ Below w.heap.size w wr ∧ y ∈ l ∧ Hid (Tt = (hs ++ (rtW l k q r y L).1, (rtW l k q r y L).2) ∧ hs.length + dsV r l y ≤ 64)) (fun _ vt wr => (intOf vt + 1).toNat + dsC r l (wr.cell? ⟨X, 0, none⟩))
  case atStart => exact ⟨_, L0, ⟨xi, xk, xw⟩, [], rfl, rfl, hL17, OwnH.nil _ _, HX2.out, HB2.out, HXL.out, Lib.hid ⟨by rw [HTT.out]; rfl, by have := HDL.out ⟨xi, xk, xw⟩; simpa using this⟩⟩
  case round =>
    clear HX2 HB2 HXL HTT
    obtain ⟨v1, L, y, hs, rfl, rfl, hL, ho, hX, hB, hy, hI⟩ := hrel
    obtain ⟨hTT, hbd⟩ := hI.out
    have HMEA : Hid (dsC r l (wr.cell? ⟨X, 0, none⟩) = dsV r l y) := Lib.hid (by rw [hX.cell 0]; exact HDS.out y y.id rfl hy)
    cases L with
    | zero =>
      have t0 : (((0 : Nat) : Int) - 1) = -1 := rfl
      rw [t0]
      have HTT : Hid (Tt = (hs, y)) := Lib.hid (by rw [hTT, HR0.out, List.append_nil])
      have HC := Lib.hid (HAT.out wr hB y.id 0)
      have HLO : Hid (lstO l k q r y = if r = false ∧ plc l (atV k y.id 0).left < l.length ∧ kl q (fndV l (atV k y.id 0).left).key = false then [⟨y.id, (fndV l (atV k y.id 0).left).id, 0⟩] else []) := Lib.hid rfl
      generalize atV k y.id 0 = yy at *
      obtain ⟨i0, i9⟩ := yy
      simp only at HC HLO
      have HF := Lib.hid (fun (W : World) (j : Below w.heap.size w W) => HFD.out W j i0)
      have hdz : decide (plc l i0 < n) = true ↔ plc l i0 < l.length := by rw [← HNL.out]; simp
      have HPD := Lib.hid hdz
      generalize hfbe : decide (plc l i0 < n) = fb at *
      generalize fndV l i0 = z at *
      obtain ⟨yi, yk, yw⟩ := y
      obtain ⟨zi, zk, zw⟩ := z
      simp only at hX HLO HTT HC HF
      have HLX : Hid (Tt.1 ++ lstO l k q r Tt.2 = hs ++ if r = false ∧ plc l i0 < l.length ∧ kl q zk = false then [⟨yi, zi, 0⟩] else []) := Lib.hid (by rw [HTT.out]; simp only; rw [HLO.out])
      have HO1 := Lib.hid ho
      have HX1 := Lib.hid hX
      have HB1 := Lib.hid hB
      have x0 := hX.cell 0
      have hln : hs.length < 1000000 := by omega
      obtain ⟨A5, c5, hv5⟩ := ho.shape
      subst hv5
      have hl7 : (Op.bytesLess zk.toList q.toList || zk.toList == q.toList) = !kl q zk := by rw [← gtr_kl zk q, Bool.not_not]
      clear ho hX hB hy hI hTT hbd hdz hfbe HAT HFD HNX HDS HD1 HR0 HR1 HR2 HSO HBY HBN HDL HPZ HTT HLO HMEA
      go_wp2_with fail
      refine (HC.out).mono ?_
      rintro e w3 ⟨rfl, hb3⟩
      have HB3 := Lib.hid (HB1.out.trans (hb3.mono HB1.out.size))
      have HX3 := Lib.hid (HX1.out.below hb3)
      have HO3 := Lib.hid (HO1.out.below hb3)
      clear hb3 HC x0 HB1 HX1 HO1
      have hfl := field_left i0 i9 w3
      go_wp2_with fail
      refine (HF.out _ HB3.out).mono ?_
      rintro e w4 ⟨rfl, hb4⟩
      have hbY := (Below.refl w4.heap.size w4).alloc (Nat.le_refl _) (.cells #[.int .i64 zi, .string zk, .int .u32 (zw : Int)] 25)
      have hY := Has.new w4 25 #[.int .i64 zi, .string zk, .int .u32 (zw : Int)]
      have hX5 := (HX3.out.below hb4).below hbY
      have HB5 := Lib.hid ((HB3.out.trans (hb4.mono HB3.out.size)).trans (hbY.mono (Nat.le_trans HB3.out.size hb4.size)))
      have HO5 := Lib.hid ((HO3.out.below hb4).below hbY)
      have y0 := hY.cell 0
      have y1 := hY.cell 1
      have x0 := hX5.cell 0
      have hXl := hX5.lt
      clear hb4 hbY hY hX5 HB3 HX3 HO3 HF
      have HFN := Lib.hid (fun (h : ¬ (r = false ∧ plc l i0 < l.length ∧ kl q zk = false)) => HE.out _ _ hs (X + 1) (by omega) HO5.out HB5.out (by rw [HLX.out, if_neg h, List.append_nil]))
      have HFY := Lib.hid (fun (h : r = false ∧ plc l i0 < l.length ∧ kl q zk = false) (v : Value) (w' : World) (h1 : OwnH w' (X + 1) v (hs ++ [⟨yi, zi, 0⟩])) (h2 : Below w.heap.size w w') => HE.out v w' _ (X + 1) (by omega) h1 h2 (by rw [HLX.out, if_pos h]))
      clear HE HLX
      cases fb
      · have HF := Lib.hid (HFN.out (fun e => by have := HPD.out.2 e.2.1; cases this))
        clear HFN HFY HPD hl7 HO5 HB5
        go_wp2_with fail
        exact HF.out
      · have hpd := HPD.out.1 rfl
        cases r
        · cases hk2 : kl q zk
          · rw [hk2] at hl7
            have HF := Lib.hid (HFY.out ⟨rfl, hpd, hk2⟩)
            clear HFN HFY HPD hpd hk2
            go_wp2_with (at_builtin; refine wpList_pushH rfl _ _ 63 rfl (X + 1) inf Tryz.underlying63 hif hif1 hif2 hif3 (.slice A5 hs.length c5) hs (w4.alloc (.cells #[.int .i64 zi, .string zk, .int .u32 (zw : Int)] 25)) ⟨yi, zi, 0⟩ rfl HO5.out (by rw [World.size_alloc]; rfl) hln hXl ?_; intro v9 w9 ho9 hb9 _ _; have HX9 := Lib.hid (HF.out v9 w9 ho9 (HB5.out.trans (hb9.mono (by omega)))); clear ho9 hb9)
            exact HX9.out
          · rw [hk2] at hl7
            have HF := Lib.hid (HFN.out (fun e => by have := e.2.2; rw [hk2] at this; cases this))
            clear HFN HFY HPD hpd hk2 HO5 HB5
            go_wp2_with fail
            exact HF.out
        · have HF := Lib.hid (HFN.out (fun e => by cases e.1))
          clear HFN HFY HPD hpd hl7 HO5 HB5
          go_wp2_with fail
          exact HF.out
    | succ t =>
      have t0 : (((t + 1 : Nat) : Int) - 1) = (t : Int) := by omega
      rw [t0]
      have HTT := Lib.hid hTT
      have HBD := Lib.hid hbd
      have HC := Lib.hid (HNX.out wr hB y (t : Int) r)
      have HNY := Lib.hid (HBY.out y t)
      have HNN := Lib.hid (HBN.out y t)
      have HR1Y := Lib.hid (HR1.out y t)
      have HR2Y := Lib.hid (fun z => HR2.out y z t)
      have HD1Y := Lib.hid (fun z => HD1.out y z t)
      have HSOY := Lib.hid (fun z => HSO.out y z t)
      generalize fndV l (lkS r (atV k y.id (t : Int))) = z at *
      generalize nxB l k q r y (t : Int) = fb at *
      obtain ⟨yi, yk, yw⟩ := y
      obtain ⟨zi, zk, zw⟩ := z
      simp only at HC hX
      have x0 := hX.cell 0
      have x1 := hX.cell 1
      have x2 := hX.cell 2
      have HO1 := Lib.hid ho
      have HX1 := Lib.hid hX
      have HB1 := Lib.hid hB
      have HY1 := Lib.hid hy
      have hln : hs.length < 1000000 := by omega
      have HVL := Lib.hid (fun (kk : Nat) (e : v1.ownBlock = some kk) => ho.lt kk e)
      obtain ⟨A5, c5, hv5⟩ := ho.shape
      subst hv5
      have t1 : (0 : Int) ≤ (t : Int) := by omega
      clear ho hX hB hy hI hTT hbd
      go_wp2_with fail
      refine (HC.out).mono ?_
      rintro e w3 ⟨rfl, hb3⟩
      have hbY := (Below.refl w3.heap.size w3).alloc (Nat.le_refl _) (.cells #[.int .i64 zi, .string zk, .int .u32 (zw : Int)] 25)
      have hY := Has.new w3 25 #[.int .i64 zi, .string zk, .int .u32 (zw : Int)]
      have hXY := (HX1.out.below hb3).below hbY
      have HX5 := Lib.hid hXY
      have HY5 := Lib.hid hY
      have HB5 := Lib.hid ((HB1.out.trans (hb3.mono HB1.out.size)).trans (hbY.mono (Nat.le_trans HB1.out.size hb3.size)))
      have HO5 := Lib.hid ((HO1.out.below hb3).below hbY)
      have HVX : Hid ((Value.slice A5 hs.length c5).ownBlock ≠ some X) := Lib.hid (fun e => by have := HVL.out _ e; omega)
      have HVY : Hid ((Value.slice A5 hs.length c5).ownBlock ≠ some w3.heap.size) := Lib.hid (fun e => by have := HVL.out _ e; have := hb3.size; omega)
      have x0 := hXY.cell 0
      have y0 := hY.cell 0
      have y1 := hY.cell 1
      have y2 := hY.cell 2
      clear hb3 hbY hXY hY HC HO1 HB1 HX1 x1 x2 HVL
      cases hfb : fb
      · have hnx := HNN.out hfb
        have HT2 := Lib.hid (HTT.out.trans (by rw [HR1Y.out hnx] : _ = (hs ++ (rtW l k q r ⟨yi, yk, yw⟩ t).1, (rtW l k q r ⟨yi, yk, yw⟩ t).2)))
        have e1 : IntKind.i64.wrap ((t : Int) - 1) = (t : Int) - 1 := IntWalk.i64_in _ (by omega)
        have HMF : Hid (dsC r l ((w3.alloc (.cells #[.int .i64 zi, .string zk, .int .u32 (zw : Int)] 25)).cell? ⟨X, 0, none⟩) = dsV r l ⟨yi, yk, yw⟩) := Lib.hid (by rw [HX5.out.cell 0]; exact HDS.out ⟨yi, yk, yw⟩ yi rfl HY1.out)
        clear hnx HNY HNN HTT HR1Y HR2Y HD1Y HSOY
        subst hfb
        go_wp2_with fail
        exact ⟨⟨_, t, ⟨yi, yk, yw⟩, hs, rfl, by go_num, by omega, HO5.out, HX5.out, HB5.out, HY1.out, Lib.hid ⟨HT2.out, HBD.out⟩⟩, by rw [HMEA.out, HMF.out]; simp [intOf]; try omega⟩
      · have hnx := HNY.out hfb
        have hds := HD1Y.out _ hnx
        have hz5 := HSOY.out _ hnx
        have HT2 := Lib.hid (HTT.out.trans (by rw [HR2Y.out _ hnx] : _ = (hs ++ (⟨yi, zi, (t : Int)⟩ :: (rtW l k q r ⟨zi, zk, zw⟩ (t + 1)).1), (rtW l k q r ⟨zi, zk, zw⟩ (t + 1)).2)))
        have HDZ := Lib.hid hds
        have HZ5 := Lib.hid hz5
        obtain ⟨W5, hW5⟩ : ∃ W : World, W = w3.alloc (.cells #[.int .i64 zi, .string zk, .int .u32 (zw : Int)] 25) := ⟨_, rfl⟩
        obtain ⟨Yb, hYb⟩ : ∃ Y, Y = w3.heap.size := ⟨_, rfl⟩
        clear hnx HNY HNN HTT HR1Y HR2Y HD1Y HSOY hds hz5
        subst hfb
        rw [← hW5] at HX5 HY5 HB5 HO5 x0 y0 y1 y2
        rw [← hYb] at HY5 HVY y0 y1 y2
        go_upto_region 13 with fail
        rw [← hW5, ← hYb]
        clear hW5 hYb
        go_wp2_with (at_builtin; refine wpList_pushH rfl _ _ 63 rfl (X + 1) inf Tryz.underlying63 hif hif1 hif2 hif3 (.slice A5 hs.length c5) hs W5 ⟨yi, zi, (t : Int)⟩ rfl HO5.out rfl hln (by have := HX5.out.lt; omega) ?_; intro v9 w9 ho9 hb9 hkp hat; have hX9 := (hkp X HX5.out.lt HVX.out).trans HX5.out; have hY9 := (hkp Yb HY5.out.lt HVY.out).trans HY5.out; have HX9 : Hid (Has w9 X 25 _) := Lib.hid hX9; have HY9 : Hid (Has w9 Yb 25 _) := Lib.hid hY9; have HO9 := Lib.hid ho9; have HB9 := Lib.hid (HB5.out.trans (hb9.mono (by omega))); have y0 := HY9.out.cell 0; have y1 := HY9.out.cell 1; have y2 := HY9.out.cell 2; have x0 := HX9.out.cell 0; have x1 := HX9.out.cell 1; have x2 := HX9.out.cell 2; have zf := fun o => HX9.out.frozen o; obtain ⟨lw, hlw⟩ : ∃ lw, lw = hs ++ [(⟨yi, zi, (t : Int)⟩ : Hp)] := ⟨_, rfl⟩; rw [← hlw] at HO9; have HLW := Lib.hid hlw; clear hX9 hY9 ho9 hb9 hkp hat hlw)
        have hBF := ((HB9.out.setCell (p := ⟨X, 0, none⟩) hwX (.int .i64 zi)).setCell (p := ⟨X, 1, none⟩) hwX (.string zk)).setCell (p := ⟨X, 2, none⟩) hwX (.int .u32 (zw : Int))
        refine ⟨⟨v9, t + 1, ⟨zi, zk, zw⟩, lw, rfl, congrArg (Value.int .i64) (by omega), hL, HO9.out.keep (fun j h1 _ => heap3 _ _ _ _ _ j (by omega)), set3 HX9.out _ _ _, hBF, HZ5.out.1, Lib.hid ⟨?_, ?_⟩⟩, ?_⟩
        · rw [HT2.out, HLW.out, List.append_assoc]; rfl
        · rw [HLW.out, List.length_append]
          have := HDZ.out
          have := HBD.out
          simp only [List.length_cons, List.length_nil]
          omega
        · rw [HMEA.out, (set3 HX9.out (.int .i64 zi) (.string zk) (.int .u32 (zw : Int))).cell 0]
          have h6 : dsC r l (some (.int .i64 zi)) = dsV r l ⟨zi, zk, zw⟩ := HDS.out ⟨zi, zk, zw⟩ zi rfl HZ5.out.1
          show _ + dsC r l (some (.int .i64 zi)) < _
          rw [h6]
          have := HDZ.out
          omega
end
section
open Go.RowKit


set_option maxRecDepth 100000 in
set_option maxHeartbeats 1600000 in
theorem rroute_any (A A2 : Option Addr) (l : List Nd) (k : List Ld) (c c2 : Nat) (id : Int) (q : ByteArray) (w : World) (hl : Nds w w.heap.size A l) (hk : Lds w w.heap.size A2 k) (hkn : k.length ≤ maxLen) (hwd : ∀ x ∈ l, x.word < 4294967296) :
    Calls Tryz.prog 41 #[.slice A l.length c, .slice A2 k.length c2, .int .i64 id, .string q] w (RteP (rteE l id q) (rteR l k id q) w) := by
  by_cases hc : chkV l = 0
  · by_cases hv : vk q = true
    · by_cases hp : plc l id < l.length
      · have HE := rteE_ok (l := l) (id := id) hc hv hp
        rw [HE, rteR_ok (k := k) HE]
        exact rroute_ok A A2 l k c c2 id q w hl hk hkn hc hv hp
      · have HE := Lib.hid (rteE_unk (l := l) (id := id) hc hv hp)
        have HR := Lib.hid (rteR_no (l := l) (k := k) (id := id) (q := q) (by rw [HE.out]; decide))
        have HIS := Lib.hid (ris_any A l c w hl hwd)
        have HVK := Lib.hid (fun (W : World) => vk_ref q W)
        have HF := Lib.hid (fun (W : World) (j : Below w.heap.size w W) => rfind_any A l c id W ((hl.below j).more j.size) (by have := (chkV_zero.1 hc).1; omega))
        unfold FndP at HF
        rw [decide_eq_false hp] at HF
        rw [hv] at HVK
        rw [hc, show ((0 : Int) == 0) = true from rfl] at HIS
        rw [HE.out, HR.out]
        generalize fndV l id = x at *
        obtain ⟨n, hn⟩ : ∃ n, n = l.length := ⟨_, rfl⟩
        obtain ⟨m, hm⟩ : ∃ m, m = k.length := ⟨_, rfl⟩
        rw [← hn] at HIS HF ⊢
        rw [← hm]
        obtain ⟨xi, xk, xw⟩ := x
        clear hl hk hkn hwd hc hv hp HE HR hn hm
        go_enter Tryz.func41, Tryz.ntmps41
        go_wp2_with fail
        refine (HIS.out).mono ?_
        rintro e w1 ⟨rfl, hb1⟩
        have HB1 := Lib.hid hb1
        clear hb1 HIS
        go_wp2_with fail
        refine (HVK.out _).mono ?_
        rintro e w2 ⟨rfl, rfl⟩
        go_wp2_with fail
        refine (HF.out _ HB1.out).mono ?_
        rintro e w2 ⟨rfl, hb2⟩
        have HB2 := Lib.hid (HB1.out.trans ((hb2.trans (((Below.refl w2.heap.size w2).alloc (Nat.le_refl _) (.cells #[.int .i64 xi, .string xk, .int .u32 (xw : Int)] 25)).mono hb2.size)).mono HB1.out.size))
        clear hb2 HB1 HF HVK
        go_wp2_with fail
        go_ret2
        exact ⟨_, rfl, OwnH.nil _ _, HB2.out⟩
    · have hz : vk q = false := by simpa using hv
      have HE := Lib.hid (rteE_inv (l := l) (id := id) (q := q) (fun e => hv e.2))
      have HR := Lib.hid (rteR_no (l := l) (k := k) (id := id) (q := q) (by rw [HE.out]; decide))
      have HIS := Lib.hid (ris_any A l c w hl hwd)
      have HVK := Lib.hid (fun (W : World) => vk_ref q W)
      rw [hz] at HVK
      rw [hc, show ((0 : Int) == 0) = true from rfl] at HIS
      rw [HE.out, HR.out]
      obtain ⟨n, hn⟩ : ∃ n, n = l.length := ⟨_, rfl⟩
      obtain ⟨m, hm⟩ : ∃ m, m = k.length := ⟨_, rfl⟩
      rw [← hn] at HIS ⊢
      rw [← hm]
      clear hl hk hkn hwd hc hv hz HE HR hn hm
      go_enter Tryz.func41, Tryz.ntmps41
      go_wp2_with fail
      refine (HIS.out).mono ?_
      rintro e w1 ⟨rfl, hb1⟩
      have HB1 := Lib.hid hb1
      clear hb1 HIS
      go_wp2_with fail
      refine (HVK.out _).mono ?_
      rintro e w2 ⟨rfl, rfl⟩
      go_wp2_with fail
      go_ret2
      exact ⟨_, rfl, OwnH.nil _ _, HB1.out⟩
  · have hz : (chkV l == 0) = false := by simpa using hc
    have HE := Lib.hid (rteE_inv (l := l) (id := id) (q := q) (fun e => hc e.1))
    have HR := Lib.hid (rteR_no (l := l) (k := k) (id := id) (q := q) (by rw [HE.out]; decide))
    have HIS := Lib.hid (ris_any A l c w hl hwd)
    rw [hz] at HIS
    rw [HE.out, HR.out]
    obtain ⟨n, hn⟩ : ∃ n, n = l.length := ⟨_, rfl⟩
    obtain ⟨m, hm⟩ : ∃ m, m = k.length := ⟨_, rfl⟩
    rw [← hn] at HIS ⊢
    rw [← hm]
    clear hl hk hkn hwd hc hz HE HR hn hm
    go_enter Tryz.func41, Tryz.ntmps41
    go_wp2_with fail
    refine (HIS.out).mono ?_
    rintro e w1 ⟨rfl, hb1⟩
    have HB1 := Lib.hid hb1
    clear hb1 HIS
    go_wp2_with fail
    go_ret2
    exact ⟨_, rfl, OwnH.nil _ _, HB1.out⟩
end
end Go.Proofs.YtjokbdhineilcaaGreatDoor
