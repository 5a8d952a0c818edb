/-
  The reference of chapter 2: which schemas are valid and which lists fit: as the program says. Conditions: the arguments can be read.
-/
import Derived.Test.YtlnmpiigmedgkaaDoorKcB
import Derived.Test.YtlnmpiigmedgkaaDoorKcK
import Derived.Test.YtlnmpiigmedgkaaDoorKcI
namespace Go.Proofs.YtlnmpiigmedgkaaDoor
open Go.RowKit

set_option maxRecDepth 100000 in
set_option maxHeartbeats 800000 in
theorem rvalid_any (A : Option Addr) (s : List Col) (c : Nat) (w : World) (hs : Cols w w.heap.size A s) :
    Calls Tryd.prog 68 #[.slice A s.length c] w (BoolB (schOk s) w) := by
  by_cases hlen : 1 ≤ s.length ∧ s.length ≤ 6
  · obtain ⟨hl1, hl2⟩ := hlen
    have hsch : schOk s = s.all Col.ok := by simp [schOk, hl1, hl2]
    rw [hsch]
    have hne : ((s.length : Int) == 0) = false := by rw [beq_eq_false_iff_ne]; omega
    clear hsch
    go_enter Tryd.func68, Tryd.ntmps68
    go_wp2_with fail
    go_loopw [3] (fun i wr => ∃ k : Nat, k ≤ s.length ∧ i = .int .i64 (k : Int) ∧ Below w.heap.size w wr ∧ Hid (s.all Col.ok = (s.drop k).all Col.ok)) (fun i _ => s.length - (intOf i).toNat)
    case atStart => exact ⟨0, Nat.zero_le _, rfl, Below.refl _ _, rfl⟩
    case round =>
      obtain ⟨k, hk, rfl, hB, HE⟩ := hrel
      by_cases hlt : k < s.length
      · obtain ⟨b, o, rfl, hb, hc1, hc2⟩ := hs.at_ hlt
        replace hc1 := (hB.cell (p := ⟨b, o + k * 2, none⟩) hb).trans hc1
        replace hc2 := (hB.cell (p := ⟨b, o + k * 2 + 1, none⟩) hb).trans hc2
        have he := HE.out
        rw [all_drop _ hlt] at he
        have HE' := Lib.hid he
        clear he HE
        generalize s[k] = y at *
        obtain ⟨yk, yd⟩ := y
        by_cases h1 : yk = 1
        · subst h1
          go_wp2_with fail
          exact ⟨⟨k + 1, hlt, by go_num, hB, Lib.hid (by rw [HE'.out]; rfl)⟩, by simp [intOf]; omega⟩
        · by_cases h2 : yk = 2
          · subst h2
            go_wp2_with fail
            exact ⟨⟨k + 1, hlt, by go_num, hB, Lib.hid (by rw [HE'.out]; rfl)⟩, by simp [intOf]; omega⟩
          · have e1 : (yk != 1) = true := by simpa using h1
            have e2 : (yk != 2) = true := by simpa using h2
            go_wp2_with fail
            go_ret
            refine ⟨ret_bool ?_, hB⟩
            rw [HE'.out]
            simp [Col.ok, h1, h2]
      · have he := HE.out
        rw [List.drop_eq_nil_of_le (by omega)] at he
        have HE' := Lib.hid he
        clear he HE
        go_wp2_with fail
        go_ret
        exact ⟨ret_bool (by rw [HE'.out]; rfl), hB⟩
  · have hsch : schOk s = false := by
      cases h : schOk s
      · rfl
      · exact absurd (schOk_len h) hlen
    rw [hsch]
    by_cases hl1 : s.length = 0
    · have hne : ((s.length : Int) == 0) = true := by rw [hl1]; rfl
      clear hl1 hlen
      go_enter Tryd.func68, Tryd.ntmps68
      go_wp2_with fail
      go_ret
      exact ⟨rfl, Below.refl _ _⟩
    · have hne : ((s.length : Int) == 0) = false := by rw [beq_eq_false_iff_ne]; omega
      have hgt : 6 < s.length := by omega
      have hgt2 : (6 : Int) < (s.length : Int) := by omega
      clear hl1 hlen
      go_enter Tryd.func68, Tryd.ntmps68
      go_wp2_with fail
      go_ret
      exact ⟨rfl, Below.refl _ _⟩

set_option maxRecDepth 100000 in
set_option maxHeartbeats 1600000 in
theorem rfits_any (y : Col) (f : Fd) (w : World) (hy : y.ok = true) :
    Calls Tryd.prog 116 #[y.val, f.val] w (BoolB (f.fits y) w) := by
  obtain ⟨yk, yd⟩ := y
  obtain ⟨k, n, t⟩ := f
  have hyk : yk = 1 ∨ yk = 2 := by simp [Col.ok] at hy; exact hy
  have hte : (t.toList == []) = (t.size == 0) := by
    rw [Bool.eq_iff_iff, beq_iff_eq, beq_iff_eq, toList_data]
    constructor
    · intro h
      show t.data.toList.length = 0
      rw [h]; rfl
    · intro h
      exact List.eq_nil_of_length_eq_zero h
  rcases hyk with rfl | rfl
  all_goals
    clear hy
    go_enter Tryd.func116, Tryd.ntmps116
    go_wp2_with fail
    all_goals
      go_ret
      refine ⟨ret_bool ?_, ((Below.refl _ _).alloc (Nat.le_refl _) _).alloc (by simp) _⟩
      first | (simp_all [Fd.fits]; done) | (simp_all [Fd.fits]; omega)

set_option maxRecDepth 100000 in
set_option maxHeartbeats 1600000 in
theorem rfitsL_any (A1 A2 : Option Addr) (s : List Col) (l : List Fd) (c1 c2 : Nat) (w : World) (hs : Cols w w.heap.size A1 s) (hl : Fds w w.heap.size A2 l) :
    Calls Tryd.prog 70 #[.slice A1 s.length c1, .slice A2 l.length c2] w (BoolB (fitsL s l) w) := by
  have RV := rvalid_any A1 s c1 w hs
  cases hv : schOk s
  · have hfl : fitsL s l = false := by simp [fitsL, hv]
    rw [hfl]
    rw [hv] at RV
    have H := Lib.hid RV
    clear hfl hv RV hs hl
    go_enter Tryd.func70, Tryd.ntmps70
    go_wp2_with fail
    refine (H.out).mono ?_
    rintro e w1 ⟨rfl, hb1⟩
    go_wp2_with fail
    go_ret
    exact ⟨rfl, hb1⟩
  · rw [hv] at RV
    have H := Lib.hid RV
    have hok := List.all_eq_true.1 (by simp only [schOk, Bool.and_eq_true] at hv; exact hv.2 : s.all Col.ok = true)
    have HOK := Lib.hid hok
    have hs6 := (schOk_len hv).2
    by_cases hlen : l.length ≤ s.length
    · have hfl : fitsL s l = fitsR s l := by simp [fitsL, hv]
      rw [hfl]
      have hdl : decide (s.length < l.length) = false := by simpa using hlen
      have hdn : ¬ (s.length < l.length) := by omega
      clear hv hfl RV hok
      go_enter Tryd.func70, Tryd.ntmps70
      go_wp2_with fail
      refine (H.out).mono ?_
      rintro e w1 ⟨rfl, hb1⟩
      clear H
      go_wp2_with fail
      go_loopw [5] (fun i wr => ∃ k : Nat, k ≤ l.length ∧ i = .int .i64 (k : Int) ∧ Below w.heap.size w wr ∧ Hid (fitsR s l = fitsR (s.drop k) (l.drop k))) (fun i _ => l.length - (intOf i).toNat)
      case atStart => exact ⟨0, Nat.zero_le _, rfl, hb1, rfl⟩
      case round =>
        clear hb1
        obtain ⟨k, hk, rfl, hB, HE⟩ := hrel
        by_cases hlt : k < l.length
        · have hks : k < s.length := by omega
          obtain ⟨b, o, hA2, hb, f1, f2, f3⟩ := hl.at_ hlt
          subst hA2
          obtain ⟨b', o', hA1, hb', g1, g2⟩ := hs.at_ hks
          subst hA1
          have hyo := HOK.out _ (List.getElem_mem hks)
          have he := HE.out
          rw [fitsR_drop hks hlt] at he
          have HE' := Lib.hid he
          clear he HE
          have hBd := hB.drew
          replace f1 : wr.drew.cell? ⟨b, o + k * 3, none⟩ = _ := (hB.cell (p := ⟨b, o + k * 3, none⟩) hb).trans f1
          replace f2 : wr.drew.cell? ⟨b, o + k * 3 + 1, none⟩ = _ := (hB.cell (p := ⟨b, o + k * 3 + 1, none⟩) hb).trans f2
          replace f3 : wr.drew.cell? ⟨b, o + k * 3 + 2, none⟩ = _ := (hB.cell (p := ⟨b, o + k * 3 + 2, none⟩) hb).trans f3
          replace g1 : wr.drew.cell? ⟨b', o' + k * 2, none⟩ = _ := (hB.cell (p := ⟨b', o' + k * 2, none⟩) hb').trans g1
          replace g2 : wr.drew.cell? ⟨b', o' + k * 2 + 1, none⟩ = _ := (hB.cell (p := ⟨b', o' + k * 2 + 1, none⟩) hb').trans g2
          generalize s[k] = y at *
          generalize l[k] = f at *
          obtain ⟨yk, yd⟩ := y
          obtain ⟨fk, fn, ft⟩ := f
          have i0 : (0 : Int) ≤ (k : Int) := by omega
          have i1 : (k : Int) < (s.length : Int) := by omega
          have i2 : (k : Int) < (l.length : Int) := by omega
          go_wp2_with fail
          refine wp_region_still_tail 8 (by kernel_rfl) (by kernel_rfl) ?_
          simp only [List.take_succ_cons, List.take_zero, List.drop_succ_cons, List.drop_zero]
          change wpStill _ _ wr.drew (fun a' => wpList _ _ _ _ a' wr.drew) _ _
          generalize wr.drew = w9 at *
          repeat still_step
          refine wpStill_nil ?_
          go_wp2_with fail
          refine (rfits_any ⟨yk, yd⟩ ⟨fk, fn, ft⟩ w9 hyo).mono ?_
          rintro e w10 ⟨he, hb10⟩
          have hBn := hBd.trans (hb10.mono hBd.size)
          clear f1 f2 f3 g1 g2 hb10 hBd
          cases hfit : Fd.fits ⟨yk, yd⟩ ⟨fk, fn, ft⟩
          · rw [hfit] at he
            subst he
            have he2 := HE'.out
            rw [hfit] at he2
            have HE2 := Lib.hid he2
            clear he2 hfit HE'
            go_wp2_with fail
            go_ret
            exact ⟨ret_bool HE2.out.symm, hBn⟩
          · rw [hfit] at he
            subst he
            have he2 := HE'.out
            rw [hfit] at he2
            have HE2 := Lib.hid he2
            clear he2 hfit HE'
            go_wp2_with fail
            exact ⟨⟨k + 1, hlt, by go_num, hBn, Lib.hid HE2.out⟩, by simp [intOf]; omega⟩
        · have he := HE.out
          rw [List.drop_eq_nil_of_le (show l.length ≤ k by omega)] at he
          have he2 : fitsR s l = true := by rw [he]; cases s.drop k <;> rfl
          have HE2 := Lib.hid he2
          clear he he2 HE
          go_wp2_with fail
          go_ret
          exact ⟨ret_bool HE2.out.symm, hB⟩
    · have hfl : fitsL s l = false := by simp [fitsL, fitsR_long hlen]
      rw [hfl]
      have hdl : decide (s.length < l.length) = true := by simp; omega
      have hdn : s.length < l.length := by omega
      clear hfl hv RV hs hl
      go_enter Tryd.func70, Tryd.ntmps70
      go_wp2_with fail
      refine (H.out).mono ?_
      rintro e w1 ⟨rfl, hb1⟩
      go_wp2_with fail
      go_ret
      exact ⟨rfl, hb1⟩
end Go.Proofs.YtlnmpiigmedgkaaDoor
