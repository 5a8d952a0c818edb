/-
  NewError of the reference of chapter 11. Condition: keys and truths can be read.
-/
import Derived.Test.YtgmffgdhijcfcaaDoorKzX
namespace Go.Proofs.YtgmffgdhijcfcaaDoor
open Go.RowKit Go.Maps
namespace Lk
def difT (ks : List ByteArray) (k j : Nat) : Prop := (∀ a b, a < k → b < a → ks.getD a ⟨#[]⟩ ≠ ks.getD b ⟨#[]⟩) ∧ ∀ b, b < j → ks.getD k ⟨#[]⟩ ≠ ks.getD b ⟨#[]⟩
theorem difT_zero (ks : List ByteArray) : difT ks 0 0 := ⟨fun a b h => by omega, fun b h => by omega⟩
theorem difT_next {ks : List ByteArray} {k j : Nat} (h : difT ks k j) (hj : ks.getD k ⟨#[]⟩ ≠ ks.getD j ⟨#[]⟩) : difT ks k (j + 1) := ⟨h.1, fun b hb => by
  rcases Nat.lt_or_ge b j with q | q
  · exact h.2 b q
  · obtain rfl : b = j := by omega
    exact hj⟩
theorem difT_row {ks : List ByteArray} {k : Nat} (h : difT ks k k) : difT ks (k + 1) 0 := ⟨fun a b ha hb => by
  rcases Nat.lt_or_ge a k with q | q
  · exact h.1 a b q hb
  · obtain rfl : a = k := by omega
    exact h.2 b hb, fun b hb => by omega⟩
theorem difT_end {ks : List ByteArray} (h : difT ks ks.length 0) : ks.Nodup := by
  rw [List.nodup_iff_pairwise_ne, List.pairwise_iff_getElem]
  intro i j hi hj hij e
  have := h.1 j i hj hij
  rw [List.getD_eq_getElem?_getD, List.getD_eq_getElem?_getD, List.getElem?_eq_getElem hi, List.getElem?_eq_getElem hj] at this
  exact this e.symm
theorem dif_same {ks : List ByteArray} {k j : Nat} (hk : k < ks.length) (hj : j < k) (e : ks.getD k ⟨#[]⟩ = ks.getD j ⟨#[]⟩) : ¬ ks.Nodup := by
  intro h
  rw [List.nodup_iff_pairwise_ne, List.pairwise_iff_getElem] at h
  rw [List.getD_eq_getElem?_getD, List.getD_eq_getElem?_getD, List.getElem?_eq_getElem hk, List.getElem?_eq_getElem (by omega : j < ks.length)] at e
  exact h j k (by omega) hk hj e.symm
set_option maxRecDepth 100000 in
set_option maxHeartbeats 3200000 in
theorem rnewE_any (A1 A2 : Option Addr) (ks : List ByteArray) (is : List Bool) (kn bn c1 c2 : Nat) (m : Int) (w : World) (hk : ks.length = kn) (hi : is.length = bn) (h1 : RdR trow 1 w 0 A1 ks) (hk2 : kn ≤ 9223372036854775807) (hb2 : bn ≤ 9223372036854775807) :
    Calls Tryd.prog 36 #[.slice A1 kn c1, .slice A2 bn c2, .int .i64 m] w (Quiet (.int .i64 (newE ks is m)) w) := by
  have HK := Lib.hid hk
  have HI := Lib.hid hi
  have HR1 := Lib.hid h1
  clear hk hi h1
  by_cases q1 : kn > 64
  · have q1i : ((kn : Int) > 64) := by omega
    have HE : Hid (newE ks is m = 3) := Lib.hid (by unfold newE; rw [if_pos (by rw [HK.out]; exact q1)])
    clear q1
    go_enter Tryd.func36, Tryd.ntmps36
    go_wp2_with fail
    go_ret
    exact ⟨by rw [HE.out]; rfl, Below.refl _ _⟩
  · have q1i : ¬ ((kn : Int) > 64) := by omega
    have q1n : Hid (¬ ks.length > 64) := Lib.hid (by rw [HK.out]; exact q1)
    by_cases q2 : 1 ≤ m ∧ m ≤ 8
    · have q2a : ¬ (m < 1) := by omega
      have q2b : ¬ (m > 8) := by omega
      have Q2 := Lib.hid q2
      clear q2
      by_cases q3 : kn = bn
      · subst q3
        have e3 : ((kn : Int) != (kn : Int)) = false := by simp
        have HLE : Hid (ks.length = is.length) := Lib.hid (by rw [HK.out, HI.out])
        have HB1 : Hid (∀ x ∈ ks, vk x = false → newE ks is m = 1) := Lib.hid (fun x hx hv => by
          unfold newE
          rw [if_neg q1n.out, if_neg (fun q => q Q2.out), if_pos (.inr (fun q => by rw [q x hx] at hv; cases hv))])
        have HB5 : Hid ((∀ x ∈ ks, vk x = true) → ¬ ks.Nodup → newE ks is m = 5) := Lib.hid (fun h1 h2 => by
          unfold newE
          rw [if_neg q1n.out, if_neg (fun q => q Q2.out), if_neg (fun q => q.elim (fun q => q HLE.out) (fun q => q h1)), if_pos h2])
        have HB0 : Hid ((∀ x ∈ ks, vk x = true) → ks.Nodup → newE ks is m = 0) := Lib.hid (fun h1 h2 => by
          unfold newE
          rw [if_neg q1n.out, if_neg (fun q => q Q2.out), if_neg (fun q => q.elim (fun q => q HLE.out) (fun q => q h1)), if_neg (fun q => q h2)])
        generalize newE ks is m = E at *
        go_enter Tryd.func36, Tryd.ntmps36
        go_wp2_with fail
        go_loopw [7] (fun vj wr => ∃ j : Nat, vj = .int .i64 (j : Int) ∧ j ≤ kn ∧ w = wr ∧ Hid (∀ x ∈ ks.take j, vk x = true)) (fun vj _ => kn - (intOf vj).toNat)
        case atStart => exact ⟨0, rfl, Nat.zero_le _, rfl, Lib.hid (fun x h => by simp at h)⟩
        case round =>
          obtain ⟨j, rfl, hj, rfl, HV⟩ := hrel
          by_cases hjn : j < kn
          · have j2 : j < ks.length := by rw [HK.out]; exact hjn
            obtain ⟨b, o, e, -, -, t1⟩ := text_at HR1.out j2
            subst e
            have HY : Hid (ks[j] ∈ ks) := Lib.hid (List.getElem_mem j2)
            have HT : Hid (ks.take (j + 1) = ks.take j ++ [ks[j]]) := Lib.hid (List.take_succ_eq_append_getElem j2)
            generalize ks[j] = y at *
            have i0 : (0 : Int) ≤ (j : Int) := by omega
            have i1 : (j : Int) < (kn : Int) := by omega
            clear j2
            cases hv : vk y with
            | true =>
              have HVY := Lib.hid hv
              have HC := Lib.hid (vk_ref y w)
              rw [hv] at HC
              clear hv
              go_wp2_with (go_at_call 58; refine (HC.out).mono ?_; rintro e w' ⟨rfl, rfl⟩)
              exact ⟨⟨j + 1, by go_num, hjn, (by first | rfl | trivial), Lib.hid (fun x hx => by
                rw [HT.out] at hx
                rcases List.mem_append.1 hx with q | q
                · exact HV.out x q
                · simp at q; subst q; exact HVY.out)⟩, by simp [intOf]; omega⟩
            | false =>
              have HE := Lib.hid (HB1.out y HY.out hv)
              have HC := Lib.hid (vk_ref y w)
              rw [hv] at HC
              clear hv
              go_wp2_with (go_at_call 58; refine (HC.out).mono ?_; rintro e w' ⟨rfl, rfl⟩)
              go_ret
              exact ⟨by rw [HE.out]; rfl, Below.refl _ _⟩
          · obtain rfl : j = kn := by omega
            have HVA : Hid (∀ x ∈ ks, vk x = true) := Lib.hid (by
              have := HV.out
              rw [← HK.out, List.take_length] at this
              exact this)
            clear hjn HV
            go_wp2_with fail
            go_loopw [8] (fun vj wr => ∃ k : Nat, vj = .int .i64 (k : Int) ∧ k ≤ j ∧ Below w.heap.size w wr ∧ Hid (difT ks k 0)) (fun vj _ => j - (intOf vj).toNat)
            case atStart => exact ⟨0, rfl, Nat.zero_le _, Below.refl _ _, Lib.hid (difT_zero ks)⟩
            case round =>
              obtain ⟨k, rfl, hkj, hB, HD⟩ := hrel
              by_cases hlt : k < j
              · have k2 : k < ks.length := by rw [HK.out]; exact hlt
                obtain ⟨b, o, e, -, hbw, t1⟩ := text_at HR1.out k2
                subst e
                have HX : Hid (ks.getD k ⟨#[]⟩ = ks[k]) := Lib.hid (by rw [List.getD_eq_getElem?_getD, List.getElem?_eq_getElem k2]; rfl)
                generalize ks[k] = x at *
                have i0 : (0 : Int) ≤ (k : Int) := by omega
                have i1 : (k : Int) < (j : Int) := by omega
                have K2 := Lib.hid k2
                have HBR := Lib.hid hB
                clear k2 hB
                go_wp2_with fail
                go_loopw [9] (fun vi wq => ∃ i : Nat, vi = .int .i64 (i : Int) ∧ i ≤ k ∧ Below w.heap.size w wq ∧ Hid (difT ks k i)) (fun vi _ => k - (intOf vi).toNat)
                case atStart => exact ⟨0, rfl, Nat.zero_le _, HBR.out, HD⟩
                case round =>
                  obtain ⟨i, rfl, hik, hB2, HDI⟩ := hrel
                  have HBQ := Lib.hid hB2
                  by_cases hli : i < k
                  · have i2 : i < ks.length := by rw [HK.out]; omega
                    obtain ⟨b', o', e, -, hbw', t2⟩ := text_at HR1.out i2
                    injection e with e
                    injection e with e3 e4
                    subst e3 e4
                    have HY : Hid (ks.getD i ⟨#[]⟩ = ks[i]) := Lib.hid (by rw [List.getD_eq_getElem?_getD, List.getElem?_eq_getElem i2]; rfl)
                    generalize ks[i] = y at *
                    have g1 := (hB2.cell (p := ⟨b, o + k, none⟩) hbw).trans t1
                    have g2 := (hB2.cell (p := ⟨b, o + i, none⟩) hbw).trans t2
                    have z0 : (0 : Int) ≤ (i : Int) := by omega
                    have z1 : (i : Int) < (k : Int) := by omega
                    have z2 : (i : Int) < (j : Int) := by omega
                    have LI := Lib.hid hli
                    clear i2 hB2 t2
                    cases he : (x.toList == y.toList) with
                    | true =>
                      have HE := Lib.hid (HB5.out HVA.out (dif_same K2.out LI.out (by rw [HX.out, HY.out]; exact toList_inj (by simpa using he))))
                      go_wp2_with fail
                      go_quiet (fail)
                      go_wp2_with fail
                      go_ret
                      exact ⟨by rw [HE.out]; rfl, below_drw HBQ.out _⟩
                    | false =>
                      have HDN := Lib.hid (difT_next HDI.out (by rw [HX.out, HY.out]; intro q; rw [q] at he; simp at he))
                      go_wp2_with fail
                      go_quiet (fail)
                      go_wp2_with fail
                      exact ⟨⟨i + 1, by go_num, hli, below_drw HBQ.out _, HDN⟩, by simp [intOf]; omega⟩
                  · obtain rfl : i = k := by omega
                    clear hB2
                    go_wp2_with fail
                    exact ⟨⟨i + 1, by go_num, hlt, HBQ.out, Lib.hid (difT_row HDI.out)⟩, by simp [intOf]; omega⟩
              · obtain rfl : k = j := by omega
                have HE := Lib.hid (HB0.out HVA.out (difT_end (by rw [HK.out]; exact HD.out)))
                have HBR := Lib.hid hB
                clear hB
                go_wp2_with fail
                go_ret
                exact ⟨by rw [HE.out]; rfl, HBR.out⟩
      · have q3i : ((kn : Int) != (bn : Int)) = true := by simp; omega
        have q3j : ¬ ((kn : Int) = (bn : Int)) := by omega
        have HE : Hid (newE ks is m = 1) := Lib.hid (by unfold newE; rw [if_neg q1n.out, if_neg (fun q => q Q2.out), if_pos (.inl (by rw [HK.out, HI.out]; exact q3))])
        clear q3
        go_enter Tryd.func36, Tryd.ntmps36
        go_wp2_with fail
        go_ret
        exact ⟨by rw [HE.out]; rfl, Below.refl _ _⟩
    · have HE : Hid (newE ks is m = 2) := Lib.hid (by unfold newE; rw [if_neg q1n.out, if_pos q2])
      by_cases q2a : m < 1
      · clear q2
        go_enter Tryd.func36, Tryd.ntmps36
        go_wp2_with fail
        go_ret
        exact ⟨by rw [HE.out]; rfl, Below.refl _ _⟩
      · have q2b : m > 8 := by omega
        clear q2
        go_enter Tryd.func36, Tryd.ntmps36
        go_wp2_with fail
        go_ret
        exact ⟨by rw [HE.out]; rfl, Below.refl _ _⟩
end Lk
end Go.Proofs.YtgmffgdhijcfcaaDoor
