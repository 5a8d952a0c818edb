/-
  has, unlinking, Bound of the reference of chapter 11. Conditions: what is read can be read; no list is long.
-/
import Derived.Test.YtmhbloefmknikaaGreatDoorMbH
import Derived.Test.YtmhbloefmknikaaGreatDoorMaA
namespace Go.Proofs.YtmhbloefmknikaaGreatDoor
open Go.RowKit Go.Maps
namespace Lk
set_option maxRecDepth 100000 in
set_option maxHeartbeats 1600000 in
theorem rhasI_any (A : Option Addr) (l : List Int) (n c lo : Nat) (i : Int) (w : World) (hn : l.length = n) (h : RdR nrow 1 w lo A l) (hm : n ≤ maxLen) :
    Calls Tryz.prog 67 #[.slice A n c, .int .i64 i] w (BoolQ (i ∈ l) w) := by
  have hml : maxLen ≤ 9223372036854775807 := by decide
  have HN := Lib.hid hn
  have HR := Lib.hid h
  clear h hn
  go_enter Tryz.func67, Tryz.ntmps67
  go_wp2_with fail
  go_loopw [5] (fun vk wr => ∃ k : Nat, vk = .int .i64 (k : Int) ∧ k ≤ n ∧ w = wr ∧ Hid (∀ j (h : j < k) (h2 : j < l.length), l[j] ≠ i)) (fun vk _ => n - (intOf vk).toNat)
  case atStart => exact ⟨0, rfl, by omega, rfl, Lib.hid fun j h => by omega⟩
  case round =>
    obtain ⟨k, rfl, hk, rfl, HS⟩ := hrel
    by_cases hlt : k < n
    · have k1 : k < l.length := by rw [HN.out]; exact hlt
      obtain ⟨b, o, e, -, hb, f1⟩ := num_at HR.out k1
      subst e
      have i0 : (0 : Int) ≤ (k : Int) := by omega
      have i1 : (k : Int) < (n : Int) := by omega
      have HM := Lib.hid (List.getElem_mem k1)
      have HNX := Lib.hid (fun (h1 : l[k] ≠ i) (j : Nat) (h : j < k + 1) (h2 : j < l.length) => (show l[j] ≠ i from by
        rcases Nat.lt_or_ge j k with h3 | h3
        · exact HS.out j h3 h2
        · obtain rfl : j = k := by omega
          exact h1))
      generalize l[k] = y at *
      clear k1 HS
      by_cases he : y = i
      · subst he
        go_wp2_with fail
        go_ret
        exact ⟨true, rfl, ⟨fun _ => HM.out, fun _ => rfl⟩, rfl⟩
      · have hz : (y == i) = false := by simpa using he
        have HR2 := Lib.hid (HNX.out he)
        clear he HNX HM
        go_wp2_with fail
        exact ⟨⟨k + 1, by go_num, hlt, (by first | rfl | trivial), Lib.hid HR2.out⟩, by simp [intOf]; omega⟩
    · go_wp2_with fail
      go_ret
      refine ⟨false, rfl, ⟨fun q => Bool.noConfusion q, fun q => ?_⟩, rfl⟩
      obtain ⟨j, hj, rfl⟩ := List.mem_iff_getElem.1 q
      exact absurd rfl (HS.out j (by have := HN.out; omega) hj)
theorem unlB_at (l : Ls) (i m : Nat) (hm : l.ps.length = m) : unlB l i = true ↔ ∃ p, p < m ∧ (l.pr p).phase = 11 ∧ (l.pr p).cell = (i : Int) := by
  unfold unlB
  rw [List.any_eq_true]
  constructor
  · rintro ⟨x, hx, h⟩
    obtain ⟨p, hp, rfl⟩ := List.mem_iff_getElem.1 hx
    rw [l.pr_lt hp] at h
    simp only [Bool.and_eq_true, decide_eq_true_eq] at h
    exact ⟨p, by omega, h⟩
  · rintro ⟨p, hp, h⟩
    refine ⟨l.pr p, ?_, by simpa using h⟩
    rw [← l.pr_lt (by omega)]
    exact List.getElem_mem _
set_option maxRecDepth 100000 in
set_option maxHeartbeats 1600000 in
theorem runl_any (A1 A2 : Option Addr) (l : Ls) (n m c1 c2 lo i : Nat) (w : World) (hm : l.ps.length = m) (h : RdL w lo A1 A2 l) (m9 : m ≤ 1000000) :
    Calls Tryz.prog 68 #[.agg #[.slice A1 n c1, .slice A2 m c2], .int .i64 (i : Int)] w (BoolI (unlB l i = true) w) := by
  have hb := (Below.refl w.heap.size w).alloc (Nat.le_refl _) (.cells #[.slice A1 n c1, .slice A2 m c2] 28)
  have hx := Has.new w 28 #[.slice A1 n c1, .slice A2 m c2]
  have HB := Lib.hid hb
  have HL := Lib.hid (h.below hb)
  have HM := Lib.hid hm
  have HU := Lib.hid (unlB_at l i m hm)
  have x0 := hx.cell 0
  have x1 := hx.cell 1
  clear hb hx h hm
  go_enter Tryz.func68, Tryz.ntmps68
  go_upto_region 1 with fail
  generalize w.alloc (.cells #[.slice A1 n c1, .slice A2 m c2] 28) = W at *
  go_wp2_with fail
  go_loopw [5] (fun vk wr => ∃ k : Nat, vk = .int .i64 (k : Int) ∧ k ≤ m ∧ W = wr ∧ Hid (∀ j, j < k → ¬ ((l.pr j).phase = 11 ∧ (l.pr j).cell = (i : Int)))) (fun vk _ => m - (intOf vk).toNat)
  case atStart => exact ⟨0, rfl, by omega, (by first | rfl | trivial), Lib.hid fun j h => by omega⟩
  case round =>
    obtain ⟨k, rfl, hk, rfl, HS⟩ := hrel
    by_cases hlt : k < m
    · obtain ⟨b, o, e, -, -, -, f1, f2, -⟩ := HL.out.proc (i := k) (by rw [HM.out]; exact hlt)
      subst e
      have i0 : (0 : Int) ≤ (k : Int) := by omega
      have i1 : (k : Int) < (m : Int) := by omega
      have HY := Lib.hid (fun q : (l.pr k).phase = 11 ∧ (l.pr k).cell = (i : Int) => HU.out.2 ⟨k, hlt, q⟩)
      have HNX := Lib.hid (fun (q : ¬ ((l.pr k).phase = 11 ∧ (l.pr k).cell = (i : Int))) (j : Nat) (h : j < k + 1) => (show ¬ ((l.pr j).phase = 11 ∧ (l.pr j).cell = (i : Int)) from by
        rcases Nat.lt_or_ge j k with h3 | h3
        · exact HS.out j h3
        · obtain rfl : j = k := by omega
          exact q))
      generalize (l.pr k).phase = y at *
      generalize (l.pr k).cell = z at *
      clear HS
      by_cases h1 : y = 11
      · subst h1
        by_cases h2 : z = (i : Int)
        · subst h2
          have HE := Lib.hid (HY.out ⟨rfl, rfl⟩)
          go_wp2_with fail
          go_ret
          exact ⟨true, rfl, ⟨fun _ => HE.out, fun _ => rfl⟩, HB.out⟩
        · have e2 : (z == (i : Int)) = false := by simpa using h2
          have HE := Lib.hid (HNX.out fun q => h2 q.2)
          clear h2 HY HNX
          go_wp2_with fail
          exact ⟨⟨k + 1, by go_num, hlt, (by first | rfl | trivial), HE⟩, by simp [intOf]; omega⟩
      · have e1 : (y == 11) = false := by simpa using h1
        have HE := Lib.hid (HNX.out fun q => h1 q.1)
        clear h1 HY HNX
        go_wp2_with fail
        exact ⟨⟨k + 1, by go_num, hlt, (by first | rfl | trivial), HE⟩, by simp [intOf]; omega⟩
    · have HE : Hid (¬ unlB l i = true) := Lib.hid fun q => by
        obtain ⟨p, hp, h⟩ := HU.out.1 q
        exact HS.out p (by omega) h
      go_wp2_with fail
      go_ret
      exact ⟨false, rfl, ⟨fun q => Bool.noConfusion q, fun q => (HE.out q).elim⟩, HB.out⟩
set_option maxHeartbeats 1600000 in
theorem rbound_any (A1 A2 : Option Addr) (l : Ls) (n m c1 c2 : Nat) (w : World) (hn : l.cs.length = n) (hm : l.ps.length = m) (h : RdL w 0 A1 A2 l) (n9 : n ≤ 1000000) (m9 : m ≤ 1000000) :
    Calls Tryz.prog 25 #[.agg #[.slice A1 n c1, .slice A2 m c2]] w (Quiet (.int .i64 (if vldB l then (bndV l : Int) else 0)) w) := by
  have hb := (Below.refl w.heap.size w).alloc (Nat.le_refl _) (.cells #[.slice A1 n c1, .slice A2 m c2] 28)
  have HB := Lib.hid hb
  have HX := Lib.hid (Has.new w 28 #[.slice A1 n c1, .slice A2 m c2])
  have HL := Lib.hid (h.below hb)
  have HVA := Lib.hid (rvalid_any A1 A2 l n m c1 c2 _ hn hm HL.out n9 m9)
  have x0 := HX.out.cell 0
  have x1 := HX.out.cell 1
  by_cases v : Vld l
  · have H1 := Lib.hid (HVA.out.mono fun e w' h => h.yes v)
    have HBU := Lib.hid (fun V (q : Below _ (w.alloc (.cells #[.slice A1 n c1, .slice A2 m c2] 28)) V) => rbusy_any A1 A2 l n m c1 c2 0 V hm (RdR.below HL.out.ps q) v)
    have m8 : m ≤ 8 := by rw [← hm]; exact v.m8
    have n66 : n ≤ 66 := by rw [← hn]; exact v.n66
    have HRB : Hid ((if vldB l then (bndV l : Int) else 0) = (busV l : Int) * (((busV l : Int) + 1) * ((n : Int) + 5) + 6)) := Lib.hid (by
      rw [vldB_yes v, if_pos rfl, ← hn]
      show ((busV l * ((busV l + 1) * (l.cs.length + 5) + 6) : Nat) : Int) = _
      push_cast
      rfl)
    have hbl : busV l ≤ m := by
      have := busT_le l m
      rwa [show busT l m = busV l from by rw [← hm]; rfl] at this
    generalize (if vldB l then (bndV l : Int) else 0) = R at *
    obtain ⟨bs, hbs⟩ : ∃ bs, bs = busV l := ⟨_, rfl⟩
    rw [← hbs] at HRB hbl HBU
    have hb8 : bs ≤ 8 := Nat.le_trans hbl m8
    have HR := HRB
    clear hb h hn hm v HVA hbs HRB
    go_enter Tryz.func25, Tryz.ntmps25
    go_upto_region 1 with fail
    generalize w.alloc (.cells #[.slice A1 n c1, .slice A2 m c2] 28) = W at *
    go_wp2_with fail
    refine (H1.out).mono ?_
    rintro e w2 ⟨rfl, hb2⟩
    have HX2 := Lib.hid (HX.out.below hb2)
    have HB2 := Lib.hid (HB.out.trans (hb2.mono HB.out.size))
    have HBV := Lib.hid (HBU.out w2 hb2)
    clear x0 x1 hb2 H1 HBU
    have x0 := HX2.out.cell 0
    have x1 := HX2.out.cell 1
    go_wp2_with fail
    refine (HBV.out).mono ?_
    rintro e w3 ⟨rfl, hb3⟩
    have HX3 := Lib.hid (HX2.out.below hb3)
    have HB3 := Lib.hid (HB2.out.trans (hb3.mono HB2.out.size))
    clear x0 x1 hb3
    have x0 := HX3.out.cell 0
    have x1 := HX3.out.cell 1
    have w1 : IntKind.i64.wrap ((bs : Int) + 1) = (bs : Int) + 1 := IntWalk.i64_in _ (by omega)
    have w2' : IntKind.i64.wrap ((n : Int) + 5) = (n : Int) + 5 := IntWalk.i64_in _ (by omega)
    have hz1 : 0 ≤ ((bs : Int) + 1) * ((n : Int) + 5) ∧ ((bs : Int) + 1) * ((n : Int) + 5) ≤ 9 * 71 := ⟨Int.mul_nonneg (by omega) (by omega), Int.mul_le_mul (by omega) (by omega) (by omega) (by omega)⟩
    obtain ⟨z, hz⟩ : ∃ z, z = ((bs : Int) + 1) * ((n : Int) + 5) := ⟨_, rfl⟩
    have w3 : IntKind.i64.wrap (((bs : Int) + 1) * ((n : Int) + 5)) = z := by rw [← hz] at hz1 ⊢; exact IntWalk.i64_in _ (by omega)
    have w4 : IntKind.i64.wrap (z + 6) = z + 6 := IntWalk.i64_in _ (by rw [← hz] at hz1; omega)
    have hz2 : 0 ≤ (bs : Int) * (z + 6) ∧ (bs : Int) * (z + 6) ≤ 8 * 645 := ⟨Int.mul_nonneg (by omega) (by rw [← hz] at hz1; omega), Int.mul_le_mul (by omega) (by rw [← hz] at hz1; omega) (by rw [← hz] at hz1; omega) (by omega)⟩
    obtain ⟨y, hy⟩ : ∃ y, y = (bs : Int) * (z + 6) := ⟨_, rfl⟩
    have w5 : IntKind.i64.wrap ((bs : Int) * (z + 6)) = y := by rw [← hy] at hz2 ⊢; exact IntWalk.i64_in _ (by omega)
    have HY : Hid (R = y) := Lib.hid (by rw [HR.out, hy, hz])
    clear hz1 hz2 hz hy HR
    go_wp2_with fail
    go_ret
    exact ⟨by rw [HY.out]; rfl, HB3.out⟩
  · have H1 := Lib.hid (HVA.out.mono fun e w' h => h.no v)
    rw [vldB_no v, if_neg Bool.false_ne_true]
    clear hb h hn hm v HVA
    go_enter Tryz.func25, Tryz.ntmps25
    go_upto_region 1 with fail
    generalize w.alloc (.cells #[.slice A1 n c1, .slice A2 m c2] 28) = W at *
    go_wp2_with fail
    refine (H1.out).mono ?_
    rintro e w2 ⟨rfl, hb2⟩
    have HB2 := Lib.hid (HB.out.trans (hb2.mono HB.out.size))
    clear hb2
    go_wp2_with fail
    go_ret
    exact ⟨rfl, HB2.out⟩
end Lk
end Go.Proofs.YtmhbloefmknikaaGreatDoor
