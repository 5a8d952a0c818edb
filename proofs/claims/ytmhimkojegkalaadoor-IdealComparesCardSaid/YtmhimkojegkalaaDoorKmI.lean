/-
  Same of the reference of chapter 6. Condition: the links can be read.
-/
import Derived.Test.YtmhimkojegkalaaDoorKmH
import Derived.StillTailTactics
import Derived.Deep.DeepCutAuto
import Derived.Deep.CutBlock
namespace Go.Proofs.YtmhimkojegkalaaDoor
open Go.RowKit

theorem take_eq_next {α : Type} {a b : List α} {k : Nat} (h1 : k < a.length) (h2 : k < b.length) (h : a.take k = b.take k) (e : a[k] = b[k]) : a.take (k + 1) = b.take (k + 1) := by
  rw [List.take_succ_eq_append_getElem h1, List.take_succ_eq_append_getElem h2, h, e]
theorem take_eq_all {α : Type} {a b : List α} {k : Nat} (h1 : a.length ≤ k) (h2 : b.length ≤ k) (h : a.take k = b.take k) : a = b := by
  rwa [List.take_of_length_le h1, List.take_of_length_le h2] at h
theorem get_ne {α : Type} {a b : List α} {k : Nat} (h1 : k < a.length) (h2 : k < b.length) (e : a[k] ≠ b[k]) : a ≠ b := fun h => e (by subst h; rfl)
set_option maxRecDepth 100000 in
set_option maxHeartbeats 1600000 in
theorem rsame6_any (A1 A2 : Option Addr) (a b : List Ld) (c1 c2 : Nat) (w : World) (h1 : Lds w w.heap.size A1 a) (h2 : Lds w w.heap.size A2 b) (h63 : a.length ≤ 1000000) :
    Calls Tryd.prog 22 #[.slice A1 a.length c1, .slice A2 b.length c2] w (BoolN (decide (a = b)) w) := by
  by_cases hlen : a.length = b.length
  · have HLN := Lib.hid hlen
    have hn : ((a.length : Int) != (b.length : Int)) = false := by simp [hlen]
    have HFN : Hid (a ≠ b → decide (a = b) = false) := Lib.hid fun h => by simp [h]
    have HFY : Hid (a = b → decide (a = b) = true) := Lib.hid fun h => by simp [h]
    clear hlen
    generalize decide (a = b) = Z at *
    generalize hla : a.length = la at *
    generalize hlb : b.length = lb at *
    have hz : (la : Int) ≤ (lb : Int) := by have := HLN.out; omega
    have HA := Lib.hid hla
    have HB := Lib.hid hlb
    clear hla hlb
    go_enter Tryd.func22, Tryd.ntmps22
    go_wp2_with fail
    go_loopw [5] (fun i wr => ∃ k : Nat, i = .int .i64 (k : Int) ∧ k ≤ la ∧ Below w.heap.size w wr ∧ Hid (a.take k = b.take k)) (fun i _ => la - (intOf i).toNat)
    case atStart => exact ⟨0, rfl, by omega, Below.refl _ _, Lib.hid rfl⟩
    case round =>
      obtain ⟨k, rfl, hk, hB, HS⟩ := hrel
      by_cases hlt : k < la
      · have k1 : k < a.length := by rw [HA.out]; exact hlt
        have k2 : k < b.length := by rw [HB.out, ← HLN.out]; exact hlt
        obtain ⟨b1, o1, e1, hb1, f1, B1, d1, f2, hc1, hm1, hr1⟩ := h1.at_ k1
        obtain ⟨b2, o2, e2, hb2, g1, B2, d2, g2, hc2, hm2, hr2⟩ := h2.at_ k2
        subst e1 e2
        have HNE := Lib.hid (fun (e : a[k] ≠ b[k]) => get_ne k1 k2 e)
        have HNX := Lib.hid (fun (e : a[k] = b[k]) => take_eq_next k1 k2 HS.out e)
        replace f1 := (hB.cell (p := ⟨b1, o1 + k * 2, none⟩) hb1).trans f1
        replace f2 := (hB.cell (p := ⟨b1, o1 + k * 2 + 1, none⟩) hb1).trans f2
        replace g1 := (hB.cell (p := ⟨b2, o2 + k * 2, none⟩) hb2).trans g1
        replace g2 := (hB.cell (p := ⟨b2, o2 + k * 2 + 1, none⟩) hb2).trans g2
        generalize a[k] = x at *
        generalize b[k] = y at *
        obtain ⟨xi, xs⟩ := x
        obtain ⟨yi, ys⟩ := y
        simp only at f1 f2 g1 g2 hc1 hc2 hr1 hr2
        have i0 : (0 : Int) ≤ (k : Int) := by omega
        have i1 : (k : Int) < (la : Int) := by omega
        have i2 : (k : Int) < (lb : Int) := by omega
        have hBd : Below w.heap.size w wr.drew := hB.drew
        clear k1 k2 hn
        obtain ⟨p, hp⟩ : ∃ p, p = xs.length := ⟨_, rfl⟩
        obtain ⟨q, hq⟩ : ∃ q, q = ys.length := ⟨_, rfl⟩
        rw [← hp] at f2 hc1
        rw [← hq] at g2 hc2
        have HP := Lib.hid hp
        have HQ := Lib.hid hq
        clear hp hq
        by_cases hid : xi = yi
        · subst hid
          have s1 : ((xi : Int) != xi) = false := by simp
          by_cases hpq : p = q
          · have s2 : ((p : Int) != (q : Int)) = false := by simp [hpq]
            have hpm : p ≤ maxLen := Nat.le_trans hc1 hm1
            unfold maxLen at hpm
            have HPQ := Lib.hid hpq
            have HR1 : Hid (∀ W, Below w.heap.size w W → W.cell? ⟨b1, o1 + k * 2 + 1, none⟩ = some (.slice B1 p d1) ∧ W.cell? ⟨b2, o2 + k * 2 + 1, none⟩ = some (.slice B2 q d2)) := Lib.hid fun W h => ⟨(h.cell (p := ⟨b1, o1 + k * 2 + 1, none⟩) hb1).trans ((hB.cell (p := ⟨b1, o1 + k * 2 + 1, none⟩) hb1).symm.trans f2), (h.cell (p := ⟨b2, o2 + k * 2 + 1, none⟩) hb2).trans ((hB.cell (p := ⟨b2, o2 + k * 2 + 1, none⟩) hb2).symm.trans g2)⟩
            clear hpq
            go_wp2_with fail
            go_quiet (fail)
            go_wp2_with fail
            go_loopw [6] (fun vt wr => ∃ t : Nat, vt = .int .i64 (t : Int) ∧ t ≤ p ∧ Below w.heap.size w wr ∧ Hid (xs.take t = ys.take t)) (fun vt _ => p - (intOf vt).toNat)
            case atStart => exact ⟨0, rfl, by omega, ⟨hB.os, hB.tape, hB.output, hB.size, hB.block⟩, Lib.hid rfl⟩
            case round =>
              clear f1 f2 g1 g2 hB hBd
              obtain ⟨t, rfl, ht, hB, HT⟩ := hrel
              obtain ⟨f2, g2⟩ := HR1.out wr hB
              by_cases hltt : t < p
              · have t1 : t < xs.length := by rw [← HP.out]; exact hltt
                have t2 : t < ys.length := by rw [← HQ.out, ← HPQ.out]; exact hltt
                obtain ⟨b3, o3, e3, hb3, l1, l2⟩ := hr1.at_ t1
                obtain ⟨b4, o4, e4, hb4, m1, m2⟩ := hr2.at_ t2
                subst e3 e4
                have HME := Lib.hid (fun (e : xs[t] ≠ ys[t]) => get_ne t1 t2 e)
                have HMX := Lib.hid (fun (e : xs[t] = ys[t]) => take_eq_next t1 t2 HT.out e)
                have hBd := hB.drew
                replace l1 : wr.drew.cell? ⟨b3, o3 + t * 2, none⟩ = _ := (hB.cell (p := ⟨b3, o3 + t * 2, none⟩) hb3).trans l1
                replace l2 : wr.drew.cell? ⟨b3, o3 + t * 2 + 1, none⟩ = _ := (hB.cell (p := ⟨b3, o3 + t * 2 + 1, none⟩) hb3).trans l2
                replace m1 : wr.drew.cell? ⟨b4, o4 + t * 2, none⟩ = _ := (hB.cell (p := ⟨b4, o4 + t * 2, none⟩) hb4).trans m1
                replace m2 : wr.drew.cell? ⟨b4, o4 + t * 2 + 1, none⟩ = _ := (hB.cell (p := ⟨b4, o4 + t * 2 + 1, none⟩) hb4).trans m2
                have f2d : wr.drew.cell? ⟨b1, o1 + k * 2 + 1, none⟩ = some (.slice (some ⟨b3, o3, none⟩) p d1) := f2
                have g2d : wr.drew.cell? ⟨b2, o2 + k * 2 + 1, none⟩ = some (.slice (some ⟨b4, o4, none⟩) q d2) := g2
                generalize xs[t] = u at *
                generalize ys[t] = v at *
                obtain ⟨ul, ur⟩ := u
                obtain ⟨vl, vr⟩ := v
                have j0 : (0 : Int) ≤ (t : Int) := by omega
                have j1 : (t : Int) < (p : Int) := by omega
                have j2 : (t : Int) < (q : Int) := by have := HPQ.out; omega
                have j3 : (p : Int) ≤ 9223372036854775807 := by omega
                clear t1 t2
                by_cases huv : (⟨ul, ur⟩ : Lk) = ⟨vl, vr⟩
                · injection huv with e1 e2
                  subst e1 e2
                  have HX := Lib.hid (HMX.out rfl)
                  have hNE : ∀ W, (binOp .neq 61 (.agg #[.int .i64 ul, .int .i64 ur]) (.agg #[.int .i64 ul, .int .i64 ur])).run Tryd.prog W = .ok (.bool false) W := fun W => by rw [neq_lk ⟨ul, ur⟩ ⟨ul, ur⟩]; simp
                  clear HME HMX
                  go_wp2_with fail
                  refine wp_region_still_tail 16 (by kernel_rfl) (by kernel_rfl) ?_
                  simp only [List.take_succ_cons, List.take_zero, List.drop_succ_cons, List.drop_zero]
                  change wpStill _ _ wr.drew (fun a' => wpList _ _ _ _ a' wr.drew) _ _
                  generalize wr.drew = w9 at *
                  repeat still_step
                  refine wpStill_nil ?_
                  go_wp2_with fail
                  exact ⟨⟨t + 1, by go_num, hltt, hBd, HX⟩, by simp [intOf]; omega⟩
                · have HX : Hid (Z = false) := Lib.hid (HFN.out (HNE.out (fun e => HME.out huv (by injection e))))
                  have hNE : ∀ W, (binOp .neq 61 (.agg #[.int .i64 ul, .int .i64 ur]) (.agg #[.int .i64 vl, .int .i64 vr])).run Tryd.prog W = .ok (.bool true) W := fun W => by rw [neq_lk ⟨ul, ur⟩ ⟨vl, vr⟩]; simp [huv]
                  clear HME HMX huv
                  go_wp2_with fail
                  refine wp_region_still_tail 16 (by kernel_rfl) (by kernel_rfl) ?_
                  simp only [List.take_succ_cons, List.take_zero, List.drop_succ_cons, List.drop_zero]
                  change wpStill _ _ wr.drew (fun a' => wpList _ _ _ _ a' wr.drew) _ _
                  generalize wr.drew = w9 at *
                  repeat still_step
                  refine wpStill_nil ?_
                  go_wp2_with fail
                  go_ret
                  exact ⟨ret_bool HX.out.symm, hBd⟩
              · have HX := Lib.hid (HNX.out (by rw [take_eq_all (a := xs) (b := ys) (by rw [← HP.out]; omega) (by rw [← HQ.out, ← HPQ.out]; omega) HT.out]))
                go_wp2_with fail
                exact ⟨⟨k + 1, by go_num, hlt, hB, HX⟩, by simp [intOf]; omega⟩
          · have s2 : ((p : Int) != (q : Int)) = true := by simp; omega
            have HX : Hid (Z = false) := Lib.hid (HFN.out (HNE.out (fun e => hpq (by rw [HP.out, HQ.out]; injection e with _ e; rw [e]))))
            clear hpq HNE HNX
            go_wp2_with fail
            go_quiet (fail)
            go_wp2_with fail
            go_ret
            exact ⟨ret_bool HX.out.symm, ⟨hB.os, hB.tape, hB.output, hB.size, hB.block⟩⟩
        · have s1 : ((xi : Int) != yi) = true := by simpa using hid
          have HX : Hid (Z = false) := Lib.hid (HFN.out (HNE.out (fun e => hid (by injection e))))
          clear hid HNE HNX
          go_wp2_with fail
          go_quiet (fail)
          go_wp2_with fail
          go_ret
          exact ⟨ret_bool HX.out.symm, ⟨hB.os, hB.tape, hB.output, hB.size, hB.block⟩⟩
      · have HE : Hid (Z = true) := Lib.hid (HFY.out (take_eq_all (by have := HA.out; omega) (by have := HB.out; have := HLN.out; omega) HS.out))
        go_wp2_with fail
        go_ret
        exact ⟨ret_bool HE.out.symm, hB⟩
  · have HE : Hid (decide (a = b) = false) := Lib.hid (by simp; intro e; exact hlen (by rw [e]))
    have hn : ((a.length : Int) == (b.length : Int)) = false := by simp; omega
    generalize decide (a = b) = Z at *
    go_enter Tryd.func22, Tryd.ntmps22
    go_wp2_with fail
    go_ret
    exact ⟨ret_bool HE.out.symm, Below.refl _ _⟩
end Go.Proofs.YtmhimkojegkalaaDoor
