/-
  Same of the reference of chapter 11, Has and SameInts of that of chapter 5: for what is the same, or any numbers. Condition: what is read can be read.
-/
import Derived.Test.YtgmffgdhijcfcaaDoorKzW
namespace Go.Proofs.YtgmffgdhijcfcaaDoor
open Go.RowKit Go.Maps
namespace Lk

theorem eq_ce (x : Ce) (w : World) : (Op.equalIn 10000 58 x.val x.val).run Tryd.prog w = .ok true w := by
  unfold Ce.val
  rw [run_equalIn_agg w 9999 58 _ _ (by kernel_rfl) (by kernel_rfl)]
  simp [go_sem, Tryd.underlying58, Tryd.underlying3, Tryd.underlying9, Tryd.underlying4]
theorem neq_ce (x : Ce) (w : World) : (binOp .neq 58 x.val x.val).run Tryd.prog w = .ok (.bool false) w := by
  unfold Ce.val
  rw [run_neq_struct]
  have := eq_ce x w
  unfold Ce.val at this
  rw [this]
  rfl
theorem eq_po (x : Po) (w : World) : (Op.equalIn 10000 52 x.val x.val).run Tryd.prog w = .ok true w := by
  unfold Po.val
  rw [run_equalIn_agg w 9999 52 _ _ (by kernel_rfl) (by kernel_rfl)]
  simp [go_sem, Tryd.underlying52, Tryd.underlying3, Tryd.underlying4]
theorem neq_po (x : Po) (w : World) : (binOp .neq 52 x.val x.val).run Tryd.prog w = .ok (.bool false) w := by
  unfold Po.val
  rw [run_neq_struct]
  have := eq_po x w
  unfold Po.val at this
  rw [this]
  rfl
set_option maxRecDepth 100000 in
set_option maxHeartbeats 3200000 in
theorem rsame_self (A1 A2 B1 B2 : Option Addr) (l : Ls) (n m c1 c2 d1 d2 lo1 lo2 : Nat) (w : World) (hn : l.cs.length = n) (hm : l.ps.length = m) (h1 : RdL w lo1 A1 A2 l) (h2 : RdL w lo2 B1 B2 l) (n6 : n ≤ 1000000) (m6 : m ≤ 1000000) :
    Calls Tryd.prog 16 #[.agg #[.slice A1 n c1, .slice A2 m c2], .agg #[.slice B1 n d1, .slice B2 m d2]] w (Quiet (.bool true) w) := by
  have hb1 := (Below.refl w.heap.size w).alloc (Nat.le_refl _) (.cells #[.slice A1 n c1, .slice A2 m c2] 35)
  have hb2 := (Below.refl (w.alloc (.cells #[.slice A1 n c1, .slice A2 m c2] 35)).heap.size _).alloc (Nat.le_refl _) (.cells #[.slice B1 n d1, .slice B2 m d2] 35)
  have hb := hb1.trans (hb2.mono hb1.size)
  have HB := Lib.hid hb
  have HX := Lib.hid ((Has.new w 35 #[.slice A1 n c1, .slice A2 m c2]).below hb2)
  have HY := Lib.hid (Has.new (w.alloc (.cells #[.slice A1 n c1, .slice A2 m c2] 35)) 35 #[.slice B1 n d1, .slice B2 m d2])
  have H1 := Lib.hid (h1.below hb)
  have H2 := Lib.hid (h2.below hb)
  have HN := Lib.hid hn
  have HM := Lib.hid hm
  have hz : ((n : Int) != (n : Int)) = false := by simp
  have hz2 : ((m : Int) != (m : Int)) = false := by simp
  have hNE := fun x V => neq_ce x V
  have hNP := fun x V => neq_po x V
  clear hb1 hb2 hb h1 h2 hn hm
  go_enter Tryd.func16, Tryd.ntmps16
  go_upto_region 1 with fail
  have hsz : w.heap.size + 1 + 1 = ((w.alloc (.cells #[.slice A1 n c1, .slice A2 m c2] 35)).alloc (.cells #[.slice B1 n d1, .slice B2 m d2] 35)).heap.size := by rw [World.size_alloc, World.size_alloc]
  rw [World.size_alloc] at HY
  generalize (w.alloc (.cells #[.slice A1 n c1, .slice A2 m c2] 35)).alloc (.cells #[.slice B1 n d1, .slice B2 m d2] 35) = W at *
  have x0 := HX.out.cell 0
  have x1 := HX.out.cell 1
  have y0 := HY.out.cell 0
  have y1 := HY.out.cell 1
  go_wp2_with fail
  go_loopw [5] (fun i wr => ∃ k : Nat, i = .int .i64 (k : Int) ∧ k ≤ n ∧ Below W.heap.size W wr) (fun i _ => n - (intOf i).toNat)
  case atStart => exact ⟨0, rfl, by omega, Below.refl _ _⟩
  case round =>
    obtain ⟨k, rfl, hk, hB⟩ := hrel
    clear x0 x1 y0 y1
    have x0 := (HX.out.below hB).cell 0
    have x1 := (HX.out.below hB).cell 1
    have y0 := (HY.out.below hB).cell 0
    have y1 := (HY.out.below hB).cell 1
    by_cases hlt : k < n
    · obtain ⟨b1, o1, e1, -, q1, f0, f1, f2, f3, f4⟩ := H1.out.cell (i := k) (by rw [HN.out]; exact hlt)
      obtain ⟨b2, o2, e2, -, q2, g0, g1, g2, g3, g4⟩ := H2.out.cell (i := k) (by rw [HN.out]; exact hlt)
      subst e1 e2
      replace f0 := (hB.cell (p := ⟨b1, o1 + k * 5, none⟩) q1).trans f0
      replace f1 := (hB.cell (p := ⟨b1, o1 + k * 5 + 1, none⟩) q1).trans f1
      replace f2 := (hB.cell (p := ⟨b1, o1 + k * 5 + 2, none⟩) q1).trans f2
      replace f3 := (hB.cell (p := ⟨b1, o1 + k * 5 + 3, none⟩) q1).trans f3
      replace f4 := (hB.cell (p := ⟨b1, o1 + k * 5 + 4, none⟩) q1).trans f4
      replace g0 := (hB.cell (p := ⟨b2, o2 + k * 5, none⟩) q2).trans g0
      replace g1 := (hB.cell (p := ⟨b2, o2 + k * 5 + 1, none⟩) q2).trans g1
      replace g2 := (hB.cell (p := ⟨b2, o2 + k * 5 + 2, none⟩) q2).trans g2
      replace g3 := (hB.cell (p := ⟨b2, o2 + k * 5 + 3, none⟩) q2).trans g3
      replace g4 := (hB.cell (p := ⟨b2, o2 + k * 5 + 4, none⟩) q2).trans g4
      have hne := fun V => hNE (l.at_ k) V
      generalize l.at_ k = x at *
      obtain ⟨xk, xl, xr, xo, xg⟩ := x
      unfold Ce.val at hne
      simp only at f0 f1 f2 f3 f4 g0 g1 g2 g3 g4 hne
      have i0 : (0 : Int) ≤ (k : Int) := by omega
      have i1 : (k : Int) < (n : Int) := by omega
      have HB1 := Lib.hid hB
      clear hB hNE hNP q1 q2
      go_wp2_with fail
      go_quiet (fail)
      go_wp2_with fail
      exact ⟨⟨k + 1, by go_num, hlt, below_drw HB1.out _⟩, by simp [intOf]; omega⟩
    · obtain rfl : k = n := by omega
      have HB1 := Lib.hid hB
      clear hB hlt
      go_wp2_with fail
      go_loopw [6] (fun i wr => ∃ k : Nat, i = .int .i64 (k : Int) ∧ k ≤ m ∧ Below W.heap.size W wr) (fun i _ => m - (intOf i).toNat)
      case atStart => exact ⟨0, rfl, by omega, HB1.out⟩
      case round =>
        obtain ⟨j, rfl, hj, hB⟩ := hrel
        clear x0 x1 y0 y1
        have x0 := (HX.out.below hB).cell 0
        have x1 := (HX.out.below hB).cell 1
        have y0 := (HY.out.below hB).cell 0
        have y1 := (HY.out.below hB).cell 1
        by_cases hlt : j < m
        · obtain ⟨b1, o1, e1, -, q1, f0, f1, f2, f3, f4, f5, f6⟩ := H1.out.proc (i := j) (by rw [HM.out]; exact hlt)
          obtain ⟨b2, o2, e2, -, q2, g0, g1, g2, g3, g4, g5, g6⟩ := H2.out.proc (i := j) (by rw [HM.out]; exact hlt)
          subst e1 e2
          replace f0 := (hB.cell (p := ⟨b1, o1 + j * 7, none⟩) q1).trans f0
          replace f1 := (hB.cell (p := ⟨b1, o1 + j * 7 + 1, none⟩) q1).trans f1
          replace f2 := (hB.cell (p := ⟨b1, o1 + j * 7 + 2, none⟩) q1).trans f2
          replace f3 := (hB.cell (p := ⟨b1, o1 + j * 7 + 3, none⟩) q1).trans f3
          replace f4 := (hB.cell (p := ⟨b1, o1 + j * 7 + 4, none⟩) q1).trans f4
          replace f5 := (hB.cell (p := ⟨b1, o1 + j * 7 + 5, none⟩) q1).trans f5
          replace f6 := (hB.cell (p := ⟨b1, o1 + j * 7 + 6, none⟩) q1).trans f6
          replace g0 := (hB.cell (p := ⟨b2, o2 + j * 7, none⟩) q2).trans g0
          replace g1 := (hB.cell (p := ⟨b2, o2 + j * 7 + 1, none⟩) q2).trans g1
          replace g2 := (hB.cell (p := ⟨b2, o2 + j * 7 + 2, none⟩) q2).trans g2
          replace g3 := (hB.cell (p := ⟨b2, o2 + j * 7 + 3, none⟩) q2).trans g3
          replace g4 := (hB.cell (p := ⟨b2, o2 + j * 7 + 4, none⟩) q2).trans g4
          replace g5 := (hB.cell (p := ⟨b2, o2 + j * 7 + 5, none⟩) q2).trans g5
          replace g6 := (hB.cell (p := ⟨b2, o2 + j * 7 + 6, none⟩) q2).trans g6
          have hne := fun V => hNP (l.pr j) V
          generalize l.pr j = x at *
          obtain ⟨xk, xc, xp, xd, xs, xx, xr⟩ := x
          unfold Po.val at hne
          simp only at f0 f1 f2 f3 f4 f5 f6 g0 g1 g2 g3 g4 g5 g6 hne
          have i0 : (0 : Int) ≤ (j : Int) := by omega
          have i1 : (j : Int) < (m : Int) := by omega
          have HB2 := Lib.hid hB
          clear hB hNE hNP q1 q2
          go_wp2_with fail
          go_quiet (fail)
          go_wp2_with fail
          exact ⟨⟨j + 1, by go_num, hlt, below_drw HB2.out _⟩, by simp [intOf]; omega⟩
        · have HB2 := Lib.hid hB
          clear hB
          go_wp2_with fail
          go_ret
          exact ⟨rfl, HB.out.trans (HB2.out.mono (by rw [← hsz]; omega))⟩
set_option maxRecDepth 100000 in
set_option maxHeartbeats 1600000 in
theorem rhas_num (A : Option Addr) (ids : List Int) (m c lo : Nat) (id : Int) (w : World) (hm : ids.length = m) (hl : RdR nrow 1 w lo A ids) (hn : m ≤ 100000) :
    Calls Tryd.prog 50 #[.slice A m c, .int .i64 id] w fun e w' => e = .returned (.bool (ids.contains id)) ∧ w = w' := by
  have HNO : Hid ((∀ j (h : j < ids.length), ids[j] ≠ id) → ids.contains id = false) := Lib.hid fun h => by
    rw [← Bool.not_eq_true, List.contains_iff_mem]
    intro hm
    obtain ⟨j, hj, e⟩ := List.getElem_of_mem hm
    exact h j hj e
  have HYES : Hid (∀ j (h : j < ids.length), ids[j] = id → ids.contains id = true) := Lib.hid fun j h e => by
    rw [List.contains_iff_mem, ← e]
    exact List.getElem_mem h
  generalize ids.contains id = V at *
  have HM := Lib.hid hm
  clear hm
  go_enter Tryd.func50, Tryd.ntmps50
  go_wp2_with fail
  go_loopw [5] (fun i wr => ∃ k : Nat, k ≤ m ∧ i = .int .i64 (k : Int) ∧ w = wr ∧ Hid (∀ j (_ : j < k) (h : j < ids.length), ids[j] ≠ id)) (fun i _ => m - (intOf i).toNat)
  case atStart => exact ⟨0, Nat.zero_le _, rfl, rfl, Lib.hid (fun j h => absurd h (by omega))⟩
  case round =>
    obtain ⟨k, hk, rfl, rfl, HK⟩ := hrel
    by_cases hlt : k < m
    · have k2 : k < ids.length := by rw [HM.out]; exact hlt
      obtain ⟨b, o, hA2, -, -, f1⟩ := num_at hl k2
      subst hA2
      have HYK := Lib.hid (HYES.out k k2)
      have HNK := Lib.hid (fun (h : ids[k] ≠ id) (j : Nat) (h1 : j < k + 1) (h2 : j < ids.length) => (by
        by_cases e : j = k
        · subst e; exact h
        · exact HK.out j (by omega) h2 : ids[j] ≠ id))
      generalize ids[k] = y at *
      have i0 : (0 : Int) ≤ (k : Int) := by omega
      have i1 : (k : Int) < (m : Int) := by omega
      clear k2
      by_cases he : y = id
      · subst he
        have HV := Lib.hid (HYK.out rfl)
        have e1 : (y == y) = true := by simp
        clear HYK HNK HK HYES HNO
        go_wp2_with fail
        go_ret
        exact ⟨ret_bool HV.out.symm, rfl⟩
      · have HZ := Lib.hid (HNK.out he)
        have e1 : (y == id) = false := by simpa using he
        clear HYK HNK HK
        go_wp2_with fail
        exact ⟨⟨k + 1, hlt, by go_num, trivial, HZ⟩, by simp [intOf]; omega⟩
    · have HV := Lib.hid (HNO.out fun j h => HK.out j (by have := HM.out; omega) h)
      have i1 : ¬ (k : Int) < (m : Int) := by omega
      clear HK HYES HNO
      go_wp2_with fail
      go_ret
      exact ⟨ret_bool HV.out.symm, rfl⟩
set_option maxRecDepth 100000 in
set_option maxHeartbeats 800000 in
theorem rsameInts_self (A1 A2 : Option Addr) (a : List Int) (n c1 c2 lo1 lo2 : Nat) (w : World) (hn : a.length = n) (h1 : RdR nrow 1 w lo1 A1 a) (h2 : RdR nrow 1 w lo2 A2 a) (n6 : n ≤ 1000000) :
    Calls Tryd.prog 26 #[.slice A1 n c1, .slice A2 n c2] w (Quiet (.bool true) w) := by
  have hnn : ((n : Int) != (n : Int)) = false := by simp
  have HN := Lib.hid hn
  clear hn
  go_enter Tryd.func26, Tryd.ntmps26
  go_wp2_with fail
  go_loopw [5] (fun i wr => ∃ k : Nat, i = .int .i64 (k : Int) ∧ k ≤ n ∧ Below w.heap.size w wr) (fun i _ => n - (intOf i).toNat)
  case atStart => exact ⟨0, rfl, by omega, Below.refl _ _⟩
  case round =>
    clear hnn
    obtain ⟨k, rfl, hk, hB⟩ := hrel
    by_cases hlt : k < n
    · have k1 : k < a.length := by rw [HN.out]; exact hlt
      obtain ⟨b1, o1, e1, -, hb1, f1⟩ := num_at h1 k1
      obtain ⟨b2, o2, e2, -, hb2, f2⟩ := num_at h2 k1
      subst e1 e2
      replace f1 := (hB.cell (p := ⟨b1, o1 + k, none⟩) hb1).trans f1
      replace f2 := (hB.cell (p := ⟨b2, o2 + k, none⟩) hb2).trans f2
      generalize a[k] = x at *
      have hx : ((x : Int) != x) = false := by simp
      have i0 : (0 : Int) ≤ (k : Int) := by omega
      have i1 : (k : Int) < (n : Int) := by omega
      clear k1
      go_wp2_with fail
      go_quiet (fail)
      go_wp2_with fail
      exact ⟨⟨k + 1, by go_num, hlt, below_drw hB _⟩, by simp [intOf]; omega⟩
    · go_wp2_with fail
      go_ret
      exact ⟨rfl, hB⟩
end Lk
end Go.Proofs.YtgmffgdhijcfcaaDoor
