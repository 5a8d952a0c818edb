/-
  NewError of the reference of chapter 11. Condition: keys and truths can be read.
  Chained of the reference of chapter 11, plain: cells as they are appended, an order as it is inserted into. No condition.
  Chained of the reference of chapter 11. Condition: keys and truths can be read.
  Chained of the reference of chapter 11, the walk. Condition: keys and truths can be read.
  New of the reference of chapter 11. Condition: keys and truths can be read.
-/
import Derived.Test.YtmhbloefmknikaaGreatDoorLzX
import Derived.Test.YtmhbloefmknikaaGreatDoorMaA
import Derived.Laws.CopyRow
import Derived.Deep.RegionLaw
import Derived.Test.YtmhbloefmknikaaGreatDoorMaT
import Derived.StillTailTactics
namespace Go.Proofs.YtmhbloefmknikaaGreatDoor
section
open Go.RowKit Go.Maps
namespace Lk
def difT (ks : List ByteArray) (k j : Nat) : Prop := (∀ a b, a < k → b < a → ks.getD a ⟨#[]⟩ ≠ ks.getD b ⟨#[]⟩) ∧ ∀ b, b < j → ks.getD k ⟨#[]⟩ ≠ ks.getD b ⟨#[]⟩
theorem difT_zero (ks : List ByteArray) : difT ks 0 0 := ⟨fun a b h => by omega, fun b h => by omega⟩
theorem difT_next {ks : List ByteArray} {k j : Nat} (h : difT ks k j) (hj : ks.getD k ⟨#[]⟩ ≠ ks.getD j ⟨#[]⟩) : difT ks k (j + 1) := ⟨h.1, fun b hb => by
  rcases Nat.lt_or_ge b j with q | q
  · exact h.2 b q
  · obtain rfl : b = j := by omega
    exact hj⟩
theorem difT_row {ks : List ByteArray} {k : Nat} (h : difT ks k k) : difT ks (k + 1) 0 := ⟨fun a b ha hb => by
  rcases Nat.lt_or_ge a k with q | q
  · exact h.1 a b q hb
  · obtain rfl : a = k := by omega
    exact h.2 b hb, fun b hb => by omega⟩
theorem difT_end {ks : List ByteArray} (h : difT ks ks.length 0) : ks.Nodup := by
  rw [List.nodup_iff_pairwise_ne, List.pairwise_iff_getElem]
  intro i j hi hj hij e
  have := h.1 j i hj hij
  rw [List.getD_eq_getElem?_getD, List.getD_eq_getElem?_getD, List.getElem?_eq_getElem hi, List.getElem?_eq_getElem hj] at this
  exact this e.symm
theorem dif_same {ks : List ByteArray} {k j : Nat} (hk : k < ks.length) (hj : j < k) (e : ks.getD k ⟨#[]⟩ = ks.getD j ⟨#[]⟩) : ¬ ks.Nodup := by
  intro h
  rw [List.nodup_iff_pairwise_ne, List.pairwise_iff_getElem] at h
  rw [List.getD_eq_getElem?_getD, List.getD_eq_getElem?_getD, List.getElem?_eq_getElem hk, List.getElem?_eq_getElem (by omega : j < ks.length)] at e
  exact h j k (by omega) hk hj e.symm
set_option maxRecDepth 100000 in
set_option maxHeartbeats 3200000 in
theorem rnewE_any (A1 A2 : Option Addr) (ks : List ByteArray) (is : List Bool) (kn bn c1 c2 : Nat) (m : Int) (w : World) (hk : ks.length = kn) (hi : is.length = bn) (h1 : RdR trow 1 w 0 A1 ks) (hk2 : kn ≤ 9223372036854775807) (hb2 : bn ≤ 9223372036854775807) :
    Calls Tryz.prog 91 #[.slice A1 kn c1, .slice A2 bn c2, .int .i64 m] w (Quiet (.int .i64 (newE ks is m)) w) := by
  have HK := Lib.hid hk
  have HI := Lib.hid hi
  have HR1 := Lib.hid h1
  clear hk hi h1
  by_cases q1 : kn > 64
  · have q1i : ((kn : Int) > 64) := by omega
    have HE : Hid (newE ks is m = 3) := Lib.hid (by unfold newE; rw [if_pos (by rw [HK.out]; exact q1)])
    clear q1
    go_enter Tryz.func91, Tryz.ntmps91
    go_wp2_with fail
    go_ret
    exact ⟨by rw [HE.out]; rfl, Below.refl _ _⟩
  · have q1i : ¬ ((kn : Int) > 64) := by omega
    have q1n : Hid (¬ ks.length > 64) := Lib.hid (by rw [HK.out]; exact q1)
    by_cases q2 : 1 ≤ m ∧ m ≤ 8
    · have q2a : ¬ (m < 1) := by omega
      have q2b : ¬ (m > 8) := by omega
      have Q2 := Lib.hid q2
      clear q2
      by_cases q3 : kn = bn
      · subst q3
        have e3 : ((kn : Int) != (kn : Int)) = false := by simp
        have HLE : Hid (ks.length = is.length) := Lib.hid (by rw [HK.out, HI.out])
        have HB1 : Hid (∀ x ∈ ks, vk x = false → newE ks is m = 1) := Lib.hid (fun x hx hv => by
          unfold newE
          rw [if_neg q1n.out, if_neg (fun q => q Q2.out), if_pos (.inr (fun q => by rw [q x hx] at hv; cases hv))])
        have HB5 : Hid ((∀ x ∈ ks, vk x = true) → ¬ ks.Nodup → newE ks is m = 5) := Lib.hid (fun h1 h2 => by
          unfold newE
          rw [if_neg q1n.out, if_neg (fun q => q Q2.out), if_neg (fun q => q.elim (fun q => q HLE.out) (fun q => q h1)), if_pos h2])
        have HB0 : Hid ((∀ x ∈ ks, vk x = true) → ks.Nodup → newE ks is m = 0) := Lib.hid (fun h1 h2 => by
          unfold newE
          rw [if_neg q1n.out, if_neg (fun q => q Q2.out), if_neg (fun q => q.elim (fun q => q HLE.out) (fun q => q h1)), if_neg (fun q => q h2)])
        generalize newE ks is m = E at *
        go_enter Tryz.func91, Tryz.ntmps91
        go_wp2_with fail
        go_loopw [7] (fun vj wr => ∃ j : Nat, vj = .int .i64 (j : Int) ∧ j ≤ kn ∧ w = wr ∧ Hid (∀ x ∈ ks.take j, vk x = true)) (fun vj _ => kn - (intOf vj).toNat)
        case atStart => exact ⟨0, rfl, Nat.zero_le _, rfl, Lib.hid (fun x h => by simp at h)⟩
        case round =>
          obtain ⟨j, rfl, hj, rfl, HV⟩ := hrel
          by_cases hjn : j < kn
          · have j2 : j < ks.length := by rw [HK.out]; exact hjn
            obtain ⟨b, o, e, -, -, t1⟩ := text_at HR1.out j2
            subst e
            have HY : Hid (ks[j] ∈ ks) := Lib.hid (List.getElem_mem j2)
            have HT : Hid (ks.take (j + 1) = ks.take j ++ [ks[j]]) := Lib.hid (List.take_succ_eq_append_getElem j2)
            generalize ks[j] = y at *
            have i0 : (0 : Int) ≤ (j : Int) := by omega
            have i1 : (j : Int) < (kn : Int) := by omega
            clear j2
            cases hv : vk y with
            | true =>
              have HVY := Lib.hid hv
              have HC := Lib.hid (vk_ref y w)
              rw [hv] at HC
              clear hv
              go_wp2_with (go_at_call 131; refine (HC.out).mono ?_; rintro e w' ⟨rfl, rfl⟩)
              exact ⟨⟨j + 1, by go_num, hjn, (by first | rfl | trivial), Lib.hid (fun x hx => by
                rw [HT.out] at hx
                rcases List.mem_append.1 hx with q | q
                · exact HV.out x q
                · simp at q; subst q; exact HVY.out)⟩, by simp [intOf]; omega⟩
            | false =>
              have HE := Lib.hid (HB1.out y HY.out hv)
              have HC := Lib.hid (vk_ref y w)
              rw [hv] at HC
              clear hv
              go_wp2_with (go_at_call 131; refine (HC.out).mono ?_; rintro e w' ⟨rfl, rfl⟩)
              go_ret
              exact ⟨by rw [HE.out]; rfl, Below.refl _ _⟩
          · obtain rfl : j = kn := by omega
            have HVA : Hid (∀ x ∈ ks, vk x = true) := Lib.hid (by
              have := HV.out
              rw [← HK.out, List.take_length] at this
              exact this)
            clear hjn HV
            go_wp2_with fail
            go_loopw [8] (fun vj wr => ∃ k : Nat, vj = .int .i64 (k : Int) ∧ k ≤ j ∧ Below w.heap.size w wr ∧ Hid (difT ks k 0)) (fun vj _ => j - (intOf vj).toNat)
            case atStart => exact ⟨0, rfl, Nat.zero_le _, Below.refl _ _, Lib.hid (difT_zero ks)⟩
            case round =>
              obtain ⟨k, rfl, hkj, hB, HD⟩ := hrel
              by_cases hlt : k < j
              · have k2 : k < ks.length := by rw [HK.out]; exact hlt
                obtain ⟨b, o, e, -, hbw, t1⟩ := text_at HR1.out k2
                subst e
                have HX : Hid (ks.getD k ⟨#[]⟩ = ks[k]) := Lib.hid (by rw [List.getD_eq_getElem?_getD, List.getElem?_eq_getElem k2]; rfl)
                generalize ks[k] = x at *
                have i0 : (0 : Int) ≤ (k : Int) := by omega
                have i1 : (k : Int) < (j : Int) := by omega
                have K2 := Lib.hid k2
                have HBR := Lib.hid hB
                clear k2 hB
                go_wp2_with fail
                go_loopw [9] (fun vi wq => ∃ i : Nat, vi = .int .i64 (i : Int) ∧ i ≤ k ∧ Below w.heap.size w wq ∧ Hid (difT ks k i)) (fun vi _ => k - (intOf vi).toNat)
                case atStart => exact ⟨0, rfl, Nat.zero_le _, HBR.out, HD⟩
                case round =>
                  obtain ⟨i, rfl, hik, hB2, HDI⟩ := hrel
                  have HBQ := Lib.hid hB2
                  by_cases hli : i < k
                  · have i2 : i < ks.length := by rw [HK.out]; omega
                    obtain ⟨b', o', e, -, hbw', t2⟩ := text_at HR1.out i2
                    injection e with e
                    injection e with e3 e4
                    subst e3 e4
                    have HY : Hid (ks.getD i ⟨#[]⟩ = ks[i]) := Lib.hid (by rw [List.getD_eq_getElem?_getD, List.getElem?_eq_getElem i2]; rfl)
                    generalize ks[i] = y at *
                    have g1 := (hB2.cell (p := ⟨b, o + k, none⟩) hbw).trans t1
                    have g2 := (hB2.cell (p := ⟨b, o + i, none⟩) hbw).trans t2
                    have z0 : (0 : Int) ≤ (i : Int) := by omega
                    have z1 : (i : Int) < (k : Int) := by omega
                    have z2 : (i : Int) < (j : Int) := by omega
                    have LI := Lib.hid hli
                    clear i2 hB2 t2
                    cases he : (x.toList == y.toList) with
                    | true =>
                      have HE := Lib.hid (HB5.out HVA.out (dif_same K2.out LI.out (by rw [HX.out, HY.out]; exact toList_inj (by simpa using he))))
                      go_wp2_with fail
                      go_quiet (fail)
                      go_wp2_with fail
                      go_ret
                      exact ⟨by rw [HE.out]; rfl, below_drw HBQ.out _⟩
                    | false =>
                      have HDN := Lib.hid (difT_next HDI.out (by rw [HX.out, HY.out]; intro q; rw [q] at he; simp at he))
                      go_wp2_with fail
                      go_quiet (fail)
                      go_wp2_with fail
                      exact ⟨⟨i + 1, by go_num, hli, below_drw HBQ.out _, HDN⟩, by simp [intOf]; omega⟩
                  · obtain rfl : i = k := by omega
                    clear hB2
                    go_wp2_with fail
                    exact ⟨⟨i + 1, by go_num, hlt, HBQ.out, Lib.hid (difT_row HDI.out)⟩, by simp [intOf]; omega⟩
              · obtain rfl : k = j := by omega
                have HE := Lib.hid (HB0.out HVA.out (difT_end (by rw [HK.out]; exact HD.out)))
                have HBR := Lib.hid hB
                clear hB
                go_wp2_with fail
                go_ret
                exact ⟨by rw [HE.out]; rfl, HBR.out⟩
      · have q3i : ((kn : Int) != (bn : Int)) = true := by simp; omega
        have q3j : ¬ ((kn : Int) = (bn : Int)) := by omega
        have HE : Hid (newE ks is m = 1) := Lib.hid (by unfold newE; rw [if_neg q1n.out, if_neg (fun q => q Q2.out), if_pos (.inl (by rw [HK.out, HI.out]; exact q3))])
        clear q3
        go_enter Tryz.func91, Tryz.ntmps91
        go_wp2_with fail
        go_ret
        exact ⟨by rw [HE.out]; rfl, Below.refl _ _⟩
    · have HE : Hid (newE ks is m = 2) := Lib.hid (by unfold newE; rw [if_neg q1n.out, if_pos q2])
      by_cases q2a : m < 1
      · clear q2
        go_enter Tryz.func91, Tryz.ntmps91
        go_wp2_with fail
        go_ret
        exact ⟨by rw [HE.out]; rfl, Below.refl _ _⟩
      · have q2b : m > 8 := by omega
        clear q2
        go_enter Tryz.func91, Tryz.ntmps91
        go_wp2_with fail
        go_ret
        exact ⟨by rw [HE.out]; rfl, Below.refl _ _⟩
end Lk
end
section
open Go.RowKit Go.Maps
namespace Lk
/-- The cells of the first i keys, nothing but keys. -/
def chC (ks : List ByteArray) (i : Nat) : List Ce := Ce.zero :: Ce.zero :: (List.range i).map (fun j => ⟨ks.getD j ⟨#[]⟩, 0, 0, 0, false⟩)
theorem chC_len (ks : List ByteArray) (i : Nat) : (chC ks i).length = i + 2 := by simp [chC]
theorem chC_next (ks : List ByteArray) (i : Nat) : chC ks (i + 1) = chC ks i ++ [⟨ks.getD i ⟨#[]⟩, 0, 0, 0, false⟩] := by
  unfold chC
  rw [List.range_succ, List.map_append]
  rfl
theorem chC_key (ks : List ByteArray) (m : Nat) {i j : Nat} (hi : i ≤ ks.length) (hj : j < i + 2) : ((Ls.mk (chC ks i) []).at_ j).key = ((nwB ks m).at_ j).key := by
  match j, hj with
  | 0, _ => rfl
  | 1, _ => rfl
  | j + 2, hj =>
    rw [nwB_at ks m (by omega)]
    unfold chC Ls.at_
    have h1 : j < i := by omega
    have h2 : j < ks.length := by omega
    simp [List.getD_eq_getElem?_getD, h1, h2]
theorem blw_cells {l l' : Ls} {a b : Nat} (ha : (l'.at_ a).key = (l.at_ a).key) (hb : (l'.at_ b).key = (l.at_ b).key) : blw l' a b = blw l a b := by
  unfold blw
  rw [ha, hb]
theorem chC_blw (ks : List ByteArray) (m : Nat) {i a b : Nat} (hi : i ≤ ks.length) (ha : a < i + 2) (hb : b < i + 2) : blw (Ls.mk (chC ks i) []) a b = blw (nwB ks m) a b :=
  blw_cells (chC_key ks m hi ha) (chC_key ks m hi hb)
/-- The order of those that are in, of the first i keys. -/
structure OrdI (ks : List ByteArray) (m : Nat) (is : List Bool) (i : Nat) (O : List Nat) : Prop where
  hd : ∃ r, O = 0 :: r
  asc : O.Pairwise (fun a b => rnk (nwB ks m) a < rnk (nwB ks m) b)
  mem : ∀ j, j ∈ O ↔ j = 0 ∨ (2 ≤ j ∧ j < i + 2 ∧ selV is j = true)
  len : O.length ≤ i + 1
section
variable {ks : List ByteArray} {m : Nat} {is : List Bool} {i : Nat} {O : List Nat}
theorem OrdI.start : OrdI ks m is 0 [0] := ⟨⟨[], rfl⟩, List.pairwise_singleton _ _, (fun j => by simp; omega), Nat.le_refl _⟩
theorem OrdI.skip (h : OrdI ks m is i O) (hs : selV is (i + 2) = false) : OrdI ks m is (i + 1) O := ⟨h.hd, h.asc, (fun j => by
  rw [h.mem]
  constructor
  · rintro (q | ⟨q1, q2, q3⟩)
    · exact .inl q
    · exact .inr ⟨q1, by omega, q3⟩
  · rintro (q | ⟨q1, q2, q3⟩)
    · exact .inl q
    · rcases Nat.lt_or_ge j (i + 2) with q | q
      · exact .inr ⟨q1, q, q3⟩
      · obtain rfl : j = i + 2 := by omega
        rw [hs] at q3; cases q3), by have := h.len; omega⟩
theorem OrdI.lt (h : OrdI ks m is i O) {j : Nat} (hj : j ∈ O) : j < i + 2 := by
  rcases (h.mem j).1 hj with q | ⟨_, q, _⟩ <;> omega
/-- What stands to the left of a place is less, if what stands at it is. -/
theorem OrdI.put (h : OrdI ks m is i O) (ok : NwOk ks m) (hi : i < ks.length) (hs : selV is (i + 2) = true) {a : Nat} (a1 : 1 ≤ a) (ha : a ≤ O.length) (hl : ∀ q : a - 1 < O.length, blw (nwB ks m) (i + 2) O[a - 1] = false) (hr : ∀ j (q : j < O.length), a ≤ j → blw (nwB ks m) (i + 2) O[j] = true) :
    OrdI ks m is (i + 1) (O.take a ++ [i + 2] ++ O.drop a) := by
  have v := nwB_vld ok
  have hn := nwB_len ks m
  have hx : i + 2 ∉ O := fun q => by have := h.lt q; omega
  have hlt : rnk (nwB ks m) (O[a - 1]'(by omega)) < rnk (nwB ks m) (i + 2) := by
    have h1 := hl (by omega)
    have hne : i + 2 ≠ O[a - 1]'(by omega) := fun q => hx (by rw [q]; exact List.getElem_mem _)
    have hm := h.lt (List.getElem_mem (by omega : a - 1 < O.length))
    rcases blw_tri v (by omega : i + 2 < (nwB ks m).cs.length) (by omega) hne with q | q
    · rw [h1] at q; cases q
    · exact rnk_lt (by omega) q
  have hlo : ∀ x ∈ O.take a, rnk (nwB ks m) x < rnk (nwB ks m) (i + 2) := fun x hx => by
    obtain ⟨j, hj, e⟩ := List.getElem_of_mem hx
    rw [List.length_take] at hj
    rw [List.getElem_take] at e
    subst e
    rcases Nat.lt_or_ge j (a - 1) with q | q
    · exact Nat.lt_trans (List.pairwise_iff_getElem.1 h.asc j (a - 1) (by omega) (by omega) q) hlt
    · obtain rfl : j = a - 1 := by omega
      exact hlt
  have hhi : ∀ x ∈ O.drop a, rnk (nwB ks m) (i + 2) < rnk (nwB ks m) x := fun x hx => by
    obtain ⟨j, hj, e⟩ := List.getElem_of_mem hx
    rw [List.length_drop] at hj
    rw [List.getElem_drop] at e
    subst e
    exact rnk_lt (by omega) (hr (a + j) (by omega) (by omega))
  refine ⟨?_, ?_, fun j => ?_, by rw [List.length_append, List.length_append, List.length_take, List.length_drop]; have := h.len; simp; omega⟩
  · obtain ⟨r, hO⟩ := h.hd
    obtain ⟨a', rfl⟩ : ∃ a', a = a' + 1 := ⟨a - 1, by omega⟩
    exact ⟨r.take a' ++ [i + 2] ++ O.drop (a' + 1), by rw [hO]; rfl⟩
  · have hpt := List.Pairwise.sublist (List.take_sublist a O) h.asc
    have hpd := List.Pairwise.sublist (List.drop_sublist a O) h.asc
    rw [List.append_assoc, List.pairwise_append]
    refine ⟨hpt, ?_, fun x hx y hy => ?_⟩
    · rw [List.singleton_append, List.pairwise_cons]
      exact ⟨hhi, hpd⟩
    · rcases List.mem_append.1 hy with q | q
      · simp at q; subst q; exact hlo x hx
      · exact Nat.lt_trans (hlo x hx) (hhi y q)
  · have hd : j ∈ O.take a ++ [i + 2] ++ O.drop a ↔ j = i + 2 ∨ j ∈ O := by
      conv => rhs; rhs; rw [← List.take_append_drop a O]
      simp only [List.mem_append, List.mem_singleton]
      constructor
      · rintro ((q | q) | q)
        · exact .inr (.inl q)
        · exact .inl q
        · exact .inr (.inr q)
      · rintro (q | q | q)
        · exact .inl (.inr q)
        · exact .inl (.inl q)
        · exact .inr q
    rw [hd, h.mem]
    constructor
    · rintro (q | q | ⟨q1, q2, q3⟩)
      · subst q; exact .inr ⟨by omega, by omega, hs⟩
      · exact .inl q
      · exact .inr ⟨q1, by omega, q3⟩
    · rintro (q | ⟨q1, q2, q3⟩)
      · exact .inr (.inl q)
      · rcases Nat.lt_or_ge j (i + 2) with q | q
        · exact .inr (.inr ⟨q1, q, q3⟩)
        · exact .inl (by omega)
theorem OrdI.end_ (h : OrdI ks m is ks.length O) (ok : NwOk ks m) : O ++ [1] = ordV ks m (selV is) := by
  have v := nwB_vld ok
  have hn := nwB_len ks m
  have ha := ord_asc ok (selV is)
  have ha2 : (O ++ [1]).Pairwise (fun a b => rnk (nwB ks m) a < rnk (nwB ks m) b) := by
    rw [List.pairwise_append]
    refine ⟨h.asc, List.pairwise_singleton _ _, fun x hx y hy => ?_⟩
    simp at hy
    subst hy
    have hxl := h.lt hx
    refine rnk_lt (by omega) (blw_one _ ?_)
    rintro rfl
    rcases (h.mem 1).1 hx with q | ⟨q, _⟩ <;> omega
  have hnd : ∀ {L : List Nat}, L.Pairwise (fun a b => rnk (nwB ks m) a < rnk (nwB ks m) b) → L.Nodup := fun q => q.imp (fun h e => by rw [e] at h; exact Nat.lt_irrefl _ h)
  have hp : (O ++ [1]).Perm (ordV ks m (selV is)) := (List.perm_ext_iff_of_nodup (hnd ha2) (hnd ha)).2 fun j => by
    rw [List.mem_append, h.mem, mem_ord, List.mem_singleton]
    constructor
    · rintro ((q | ⟨q1, q2, q3⟩) | q)
      · exact .inl q
      · exact .inr (.inr ⟨by omega, q1, q3⟩)
      · exact .inr (.inl q)
    · rintro (q | q | ⟨q1, q2, q3⟩)
      · exact .inl (.inl q)
      · exact .inr q
      · exact .inl (.inr ⟨q2, by omega, q3⟩)
  exact List.Perm.eq_of_pairwise (le := fun x y => rnk (nwB ks m) x < rnk (nwB ks m) y) (fun a b _ _ h1 h2 => absurd h1 (by omega)) ha2 ha hp
end
/-- Rows by a function of the place. -/
theorem MutR.putF {w : World} {G c n : Nat} {t : TypeId} {f : Nat → Ce} (h : MutR Ce.row 5 t w G c ((List.range n).map f)) {i : Nat} (hi : i < n) {j : Nat} (hj : j < 5) (v : Value) (y : Ce) (hy : y.row = (f i).row.set j v) :
    MutR Ce.row 5 t (w.setCell ⟨G, i * 5 + j, none⟩ v) G c ((List.range n).map (fun k => if k = i then y else f k)) := by
  have := h.put Ce.row_len (i := i) (by simpa using hi) hj v y (by simpa using hy)
  have e : ((List.range n).map f).set i y = (List.range n).map (fun k => if k = i then y else f k) := by
    refine List.ext_getElem (by simp) fun k h1 h2 => ?_
    rw [List.getElem_set]
    by_cases q : i = k
    · subst q; simp
    · have q' : ¬ k = i := fun z => q z.symm
      simp [q, q']
  rwa [e] at this
theorem MutR.cellF {w : World} {G c n : Nat} {t : TypeId} {f : Nat → Ce} (h : MutR Ce.row 5 t w G c ((List.range n).map f)) {i : Nat} (hi : i < n) : CeAt w G (i * 5) (f i) := by
  have hl : i < ((List.range n).map f).length := by simpa using hi
  have e : ((List.range n).map f)[i] = f i := by simp
  refine ⟨?_, ?_, ?_, ?_, ?_⟩
  · exact h.cell hl (j := 0) (by rw [e]; rfl)
  · exact h.cell hl (j := 1) (by rw [e]; rfl)
  · exact h.cell hl (j := 2) (by rw [e]; rfl)
  · exact h.cell hl (j := 3) (by rw [e]; rfl)
  · exact h.cell hl (j := 4) (by rw [e]; rfl)
theorem map_range_congr {n : Nat} {f g : Nat → Ce} (h : ∀ i, i < n → f i = g i) : (List.range n).map f = (List.range n).map g := List.map_congr_left fun i hi => h i (List.mem_range.1 hi)
/-- The cells with those that are in linked to the right. -/
def chR (ks : List ByteArray) (m n : Nat) (P : List Nat) : List Ce := (List.range n).map (fun i => ⟨((nwB ks m).at_ i).key, 0, (nxtL P i : Nat), 0, false⟩)
theorem chR_start (ks : List ByteArray) (m : Nat) : chC ks ks.length = chR ks m (ks.length + 2) [0] := by
  unfold chR
  refine List.ext_getElem (by rw [chC_len]; simp) fun i h1 h2 => ?_
  rw [chC_len] at h1
  rw [List.getElem_map, List.getElem_range]
  have hk := chC_key ks m (Nat.le_refl _) h1
  rw [← hk]
  have e : (Ls.mk (chC ks ks.length) []).at_ i = (chC ks ks.length)[i]'(by rw [chC_len]; exact h1) := by
    unfold Ls.at_
    rw [List.getD_eq_getElem?_getD, List.getElem?_eq_getElem]
    rfl
  rw [e]
  match i, h1 with
  | 0, _ => rfl
  | 1, _ => rfl
  | i + 2, h1 =>
    unfold chC
    simp [nxtL]
def nv (L : List Int) : List Value := L.map (Value.int .i64)
theorem nv_flat (L : List Int) : L.flatMap nrow = nv L := nrow_map L
/-- A row of numbers, opened and shut again. -/
theorem nu_open {w : World} {base : Nat} {v : Value} {L : List Int} (h : OwnR nrow 1 3 w base v L) (hn : L ≠ []) : ∃ G cap pad, v = .slice (some ⟨G, 0, none⟩) L.length cap ∧ base ≤ G ∧ L.length ≤ cap ∧ cap ≤ maxLen ∧ Has w G 3 (nv L ++ pad).toArray ∧ ∀ (w' : World) (L' : List Int), L'.length = L.length → Has w' G 3 (nv L' ++ pad).toArray → OwnR nrow 1 3 w' base (.slice (some ⟨G, 0, none⟩) L.length cap) L' := by
  obtain ⟨h1, ⟨rfl, h2⟩ | ⟨G, cap, cur, rfl, h4, h5, h6, h7, h8, h9⟩⟩ := h
  · exact absurd (List.eq_nil_of_length_eq_zero h2) hn
  · rw [nv_flat] at h9
    have hl : (nv L).length = L.length := by simp [nv]
    refine ⟨G, cap, cur.toList.drop L.length, rfl, h4, h6, h7, ?_, fun w' L' hL' hH => ?_⟩
    · have : nv L ++ cur.toList.drop L.length = cur.toList := by
        conv => rhs; rw [← List.take_append_drop L.length cur.toList]
        rw [← h9, Nat.mul_one]
      rw [this]
      exact h5
    · have hl' : (nv L').length = L'.length := by simp [nv]
      rw [← hL']
      refine ⟨by rw [nv_flat, hl']; omega, .inr ⟨G, cap, _, rfl, h4, hH, by omega, h7, ?_, ?_⟩⟩
      · have q1 : cur.toList.length = cap * 1 := by rw [Array.length_toList]; exact h8
        rw [List.size_toArray, List.length_append, List.length_drop, q1]
        omega
      · rw [nv_flat]
        simp only
        rw [Nat.mul_one, List.take_append_of_le_length (by omega), List.take_of_length_le (by omega)]
theorem nv_shift {O : List Int} {pad : List Value} {a : Nat} (ha : a ≤ O.length) :
    (nv (O ++ [0]) ++ pad).take (a + 1) ++ nv (O.drop a) ++ (nv (O ++ [0]) ++ pad).drop (a + 1 + (nv (O.drop a)).length) = nv ((O ++ [0]).take (a + 1) ++ O.drop a) ++ pad := by
  have h1 : a + 1 + (nv (O.drop a)).length = (nv (O ++ [0])).length := by
    simp [nv]; omega
  rw [h1, List.drop_left, List.take_append_of_le_length (by simp [nv]; omega)]
  simp [nv, List.map_take]
theorem nv_set {O : List Int} {a : Nat} (ha : a ≤ O.length) (x : Int) : ((O ++ [0]).take (a + 1) ++ O.drop a).set a x = O.take a ++ [x] ++ O.drop a := by
  rcases Nat.lt_or_ge a O.length with h | h
  · rw [List.take_append_of_le_length (by omega), List.take_succ_eq_append_getElem h, List.append_assoc, List.set_append_right _ _ (by rw [List.length_take]; omega)]
    rw [List.length_take, Nat.min_eq_left ha, Nat.sub_self, List.append_assoc]
    rfl
  · have e : a = O.length := by omega
    subst e
    rw [List.take_of_length_le (by simp), List.drop_length, List.append_nil, List.append_nil, List.set_append_right _ _ (Nat.le_refl _), Nat.sub_self, List.take_length]
    rfl
theorem nv_ones (L : List Int) : ∀ v ∈ nv L, v.oneCell' = true := fun v hv => by
  obtain ⟨x, _, e⟩ := List.mem_map.1 hv
  subst e; rfl
end Lk
end
section
open Go.RowKit Go.Maps
namespace Lk
section
variable {P : Program}
theorem run_copyR (w : World) (dT sT ty elem : TypeId) (k g o dLen dCap : Nat) (a : Addr) (sLen sCap : Nat) (cur : Array Value) (t : TypeId) (n : Nat) (cs : List Value)
    (hu : P.underlying dT = some (.slice elem)) (hs : (P.info? elem).map (·.size) = some k)
    (hg : w.heap[g]? = some (.cells cur t (0, 0))) (hn : n = Nat.min sLen dLen) (hcs : cs.length = n * k)
    (hsrc : ∀ j v, cs[j]? = some v → w.cell? (a.add j) = some v) (hfit : o + cs.length ≤ cur.size) (h1 : ∀ v ∈ cs, v.oneCell' = true) :
    (Builtin.copy_ #[dT, sT] ty #[.slice (some ⟨g, o, none⟩) dLen dCap, .slice (some a) sLen sCap]).run P w =
      .ok (goInt n) (w.setRow g (cur.toList.take o ++ cs ++ cur.toList.drop (o + cs.length)).toArray) := by
  have hl := run_loadCells_list (P := P) w a cs hsrc
  have hst := run_storeCells_at P g o t cs 0 cur w hg (by simpa using hfit) h1
  cases hq : P.info? elem with
  | none => simp [hq] at hs
  | some i =>
    have hi : i.size = k := by simpa [hq] using hs
    rw [hcs] at hl
    simp [Builtin.copy_, run_underlying hu, Builtin.lenOf, Builtin.firstCells, sizeOf, typeInfo, hq, hi, ← hn, hl, hst]
theorem run_copyR_none (w : World) (dT sT ty elem : TypeId) (k : Nat) (d a : Option Addr) (dLen dCap sLen sCap : Nat) (hu : P.underlying dT = some (.slice elem)) (hs : (P.info? elem).map (·.size) = some k) (hn : Nat.min sLen dLen = 0) :
    (Builtin.copy_ #[dT, sT] ty #[.slice d dLen dCap, .slice a sLen sCap]).run P w = .ok (goInt 0) w := by
  cases hq : P.info? elem with
  | none => simp [hq] at hs
  | some i =>
    have hl : ∀ (x : Addr), (loadCells x 0).run P w = .ok #[] w := fun x => by simpa using run_loadCells_list (P := P) w x [] (by simp)
    cases d <;> cases a <;> simp [Builtin.copy_, run_underlying hu, Builtin.lenOf, Builtin.firstCells, sizeOf, typeInfo, hq, hn, storeCells, hl]
theorem step_copyR {ops : Array Oper} {o : Oper} {a : Act} {w : World} {K : Act → World → Prop} {Q : Exit → Act → World → Prop} {E : Prop} (hgd : o.guard = none) (d s : Operand) (dT sT : TypeId)
    (ho : o.op = .call { callee := .builtin .copy, args := #[d, s], argTypes := #[dT, sT] }) (elem : TypeId) (k : Nat) (hu : P.underlying dT = some (.slice elem)) (hsz : (P.info? elem).map (·.size) = some k)
    (g off dLen dCap : Nat) (ad : Addr) (sLen sCap : Nat) (hd : a.eval d = .slice (some ⟨g, off, none⟩) dLen dCap) (hs : a.eval s = .slice (some ad) sLen sCap)
    (cur : Array Value) (t : TypeId) (hg : w.heap[g]? = some (.cells cur t (0, 0))) (n : Nat) (cs : List Value) (hn : n = Nat.min sLen dLen) (hcs : cs.length = n * k)
    (hsrc : ∀ j v, cs[j]? = some v → w.cell? (ad.add j) = some v) (hfit : off + cs.length ≤ cur.size) (h1 : ∀ v ∈ cs, v.oneCell' = true)
    (h : ∀ w', w'.heap[g]? = some (.cells (cur.toList.take off ++ cs ++ cur.toList.drop (off + cs.length)).toArray t (0, 0)) → w.grownBy w' (some g) → K (a.put o.dst (goInt n)) w') :
    if Region.wanted o (yielded ops a.tmps) = true then Oper.wp P o a w K Q else E := by
  have hw : Region.wanted o (yielded ops a.tmps) = true := by simp [Region.wanted, hgd]
  rw [if_pos hw]
  have hrun := run_copyR (P := P) w dT sT o.type elem k g off dLen dCap ad sLen sCap cur t n cs hu hsz hg hn hcs hsrc hfit h1
  unfold Oper.wp
  simp [execOp, ho, resolve, invoke, builtin, hd, hs, hrun, Result.andThen]
  refine h _ (by simpa using setRow_heap w g _ _ t _ hg) ⟨rfl, rfl, rfl, by simp [World.setRow], fun i hi hne => setRow_other w g i _ (fun e => hne (by rw [e]))⟩
theorem step_copyR_none {ops : Array Oper} {o : Oper} {a : Act} {w : World} {K : Act → World → Prop} {Q : Exit → Act → World → Prop} {E : Prop} (hgd : o.guard = none) (d s : Operand) (dT sT : TypeId)
    (ho : o.op = .call { callee := .builtin .copy, args := #[d, s], argTypes := #[dT, sT] }) (elem : TypeId) (k : Nat) (hu : P.underlying dT = some (.slice elem)) (hsz : (P.info? elem).map (·.size) = some k)
    (dp sp : Option Addr) (dLen dCap sLen sCap : Nat) (hd : a.eval d = .slice dp dLen dCap) (hs : a.eval s = .slice sp sLen sCap) (hn : Nat.min sLen dLen = 0)
    (h : K (a.put o.dst (goInt 0)) w) :
    if Region.wanted o (yielded ops a.tmps) = true then Oper.wp P o a w K Q else E := by
  have hw : Region.wanted o (yielded ops a.tmps) = true := by simp [Region.wanted, hgd]
  rw [if_pos hw]
  have hrun := run_copyR_none (P := P) w dT sT o.type elem k dp sp dLen dCap sLen sCap hu hsz hn
  unfold Oper.wp
  simp [execOp, ho, resolve, invoke, builtin, hd, hs, hrun, Result.andThen]
  exact h
end
theorem hsz1 : (Tryz.prog.info? 3).map (·.size) = some 1 := by kernel_rfl
/-- The box of Chained and its cells. -/
structure ChS (base : Nat) (w : World) (X : Nat) (v1 : Value) (cs : List Ce) : Prop where
  own : OwnR Ce.row 5 66 w base v1 cs
  x0 : w.cell? ⟨X, 0, none⟩ = some v1
  x1 : w.cell? ⟨X, 1, none⟩ = some (.slice none 0 0)
  fz : ∀ o, w.frozen? ⟨X, o, none⟩ = false
  ne1 : v1.ownBlock ≠ some X
  bX : base ≤ X
section
variable {base : Nat} {w w' : World} {X : Nat} {v1 : Value} {cs : List Ce}
theorem ChS.blk (h : ChS base w X v1 cs) (q : ∀ j, j = X ∨ v1.ownBlock = some j → w'.heap[j]? = w.heap[j]?) : ChS base w' X v1 cs :=
  have e := q X (.inl rfl)
  ⟨h.own.blk fun i _ _ h3 => q i (.inr h3), (World.cell?_of_block (a := ⟨X, 0, none⟩) e).trans h.x0, (World.cell?_of_block (a := ⟨X, 1, none⟩) e).trans h.x1, fun o => (World.frozen?_of_block (a := ⟨X, o, none⟩) e).trans (h.fz o), h.ne1, h.bX⟩
theorem ChS.lt (h : ChS base w X v1 cs) : X < w.heap.size := World.block_lt_of_cell? w _ h.x0
theorem ChS.below (h : ChS base w X v1 cs) (k : Below w.heap.size w w') : ChS base w' X v1 cs := h.blk fun j hj => by
  rcases hj with rfl | hj
  · exact k.block _ h.lt
  · exact k.block _ (h.own.lt j hj).2
theorem ChS.put (h : ChS base w X v1 cs) {v' : Value} {cs' : List Ce} (ho : OwnR Ce.row 5 66 w' base v' cs') (hg : w.grownBy w' v1.ownBlock) (hat : v'.ownBlock = v1.ownBlock ∨ ∃ q, w.heap.size ≤ q ∧ v'.ownBlock = some q) : ChS base (w'.setCell ⟨X, 0, none⟩ v') X v' cs' := by
  have hX := h.lt
  have n1 : v'.ownBlock ≠ some X := by
    rcases hat with e | ⟨q, h1, e⟩
    · rw [e]; exact h.ne1
    · rw [e]; intro e2; have := Option.some.inj e2; omega
  have hbX : w'.heap[X]? = w.heap[X]? := hg.block X hX (fun e => h.ne1 e.symm)
  have c0 := (World.cell?_of_block (a := ⟨X, 0, none⟩) hbX).trans h.x0
  have c1 := (World.cell?_of_block (a := ⟨X, 1, none⟩) hbX).trans h.x1
  refine ⟨ho.blk fun i h1 h2 h3 => Below.heap_setCell _ _ _ _ (fun e => n1 (by rw [h3, e])), ?_, ?_, fun o => ?_, n1, h.bX⟩
  · simp [go_sem, c0]
  · simp [go_sem, c1]
  · rw [World.frozen?_setCell]
    exact (World.frozen?_of_block (w := w) hbX).trans (h.fz o)
end
end Lk
end
section
open Go.RowKit Go.Maps
namespace Lk
def zr5 : Array Value := #[.string ⟨#[]⟩, .int .i64 0, .int .i64 0, .int .i64 0, .bool false]
set_option maxRecDepth 100000 in
theorem make_cap (W : World) (k : Nat) (hk : k ≤ 64) : (Instr.makeSlice 25 (.int .i64 2) (.int .i64 ((k : Int) + 2))).run Tryz.prog W = .ok (.slice (some ⟨W.heap.size, 0, none⟩) 2 (k + 2)) (W.alloc (.cells (madeCells zr5 ((k + 2) * 5)) 66)) := by
  obtain ⟨i, h, e⟩ := Option.map_eq_some_iff.1 infoCe
  injection e with e1 e2
  injection e2 with e2 e3
  have := Go.run_makeSlice W 25 66 i _ Tryz.underlying25 h e1 .i64 .i64 2 ((k : Int) + 2) (by omega) (by omega) (by rw [e2]; omega) (by rw [e3]; omega) (by omega)
  rw [e2, show ((k : Int) + 2).toNat = k + 2 by omega] at this
  exact this
theorem cap_own (W : World) (k : Nat) (hk : k ≤ 64) : OwnR Ce.row 5 66 (W.alloc (.cells (madeCells zr5 ((k + 2) * 5)) 66)) W.heap.size (.slice (some ⟨W.heap.size, 0, none⟩) 2 (k + 2)) [Ce.zero, Ce.zero] := by
  refine ⟨rfl, .inr ⟨W.heap.size, k + 2, _, rfl, Nat.le_refl _, Has.new W _ _, by simp, by unfold maxLen; omega, size_madeCells _ _, ?_⟩⟩
  refine List.ext_getElem (by have := size_madeCells zr5 ((k + 2) * 5); simp only [List.length_take, Array.length_toList, this]; simp [Ce.row]; omega) fun j h1 h2 => ?_
  have hj : j < 10 := by simp [Ce.row] at h2; omega
  rw [List.getElem_take]
  have h3 : j = 0 ∨ j = 1 ∨ j = 2 ∨ j = 3 ∨ j = 4 ∨ j = 5 ∨ j = 6 ∨ j = 7 ∨ j = 8 ∨ j = 9 := by omega
  rcases h3 with rfl | rfl | rfl | rfl | rfl | rfl | rfl | rfl | rfl | rfl <;> simp [madeCells, zr5, Ce.row, Ce.zero]
/-- What Chained answers. -/
def ChnR (ks : List ByteArray) (is : List Bool) (m kn : Nat) (w : World) (e : Ending) (w' : World) : Prop := ∃ (G c : Nat) (A : Option Addr) (p c2 : Nat), e = .returned (.tuple #[.slice (some ⟨G, 0, none⟩) (kn + 2) c, .slice A p c2]) ∧ w.heap.size ≤ G ∧ MutR Ce.row 5 66 w' G c (chR ks m (kn + 2) (ordV ks m (selV is))) ∧ (ordV ks m (selV is)).length = p ∧ OwnR nrow 1 3 w' w.heap.size (.slice A p c2) (nat2 (ordV ks m (selV is))) ∧ (.slice A p c2 : Value).ownBlock ≠ some G ∧ Below w.heap.size w w'
set_option maxRecDepth 100000 in
set_option maxHeartbeats 12800000 in
theorem rchn_any (A1 A2 : Option Addr) (ks : List ByteArray) (is : List Bool) (kn c1 c2 m : Nat) (w : World) (ok : NwOk ks m) (hk : ks.length = kn) (hi : is.length = kn) (h1 : RdR trow 1 w 0 A1 ks) (h2 : RdR brow 1 w 0 A2 is) (k64 : kn ≤ 64) :
    Calls Tryz.prog 92 #[.slice A1 kn c1, .slice A2 kn c2] w (ChnR ks is m kn w) := by
  have HOK := Lib.hid ok
  have HK := Lib.hid hk
  have HI := Lib.hid hi
  have HR1 := Lib.hid h1
  have HR2 := Lib.hid h2
  have hmk := fun W => make_cap W kn k64
  have hwr : IntKind.i64.wrap ((kn : Int) + 2) = (kn : Int) + 2 := IntWalk.i64_in _ (by omega)
  obtain ⟨mc, hmc⟩ : ∃ mc, mc = madeCells zr5 ((kn + 2) * 5) := ⟨_, rfl⟩
  have hown := cap_own w kn k64
  rw [← hmc] at hown
  simp only [← hmc] at hmk
  have hb1 := (Below.refl w.heap.size w).alloc (Nat.le_refl _) (.cells mc 66)
  have hb2 := (Below.refl (w.alloc (.cells mc 66)).heap.size _).alloc (Nat.le_refl _) (.cells #[.slice (some ⟨w.heap.size, 0, none⟩) 2 (kn + 2), .slice none 0 0] 28)
  have hx := Has.new (w.alloc (.cells mc 66)) 28 #[.slice (some ⟨w.heap.size, 0, none⟩) 2 (kn + 2), .slice none 0 0]
  rw [World.size_alloc] at hx
  have HCS : Hid (ChS w.heap.size ((w.alloc (.cells mc 66)).alloc (.cells #[.slice (some ⟨w.heap.size, 0, none⟩) 2 (kn + 2), .slice none 0 0] 28)) (w.heap.size + 1) (.slice (some ⟨w.heap.size, 0, none⟩) 2 (kn + 2)) (chC ks 0)) := Lib.hid ⟨hown.below hb2, hx.cell 0, hx.cell 1, hx.frozen, fun e => by have := Option.some.inj e; simp only at this; omega, by omega⟩
  have HB2 := Lib.hid (hb1.trans (hb2.mono hb1.size))
  have hsz2 : ((w.alloc (.cells mc 66)).alloc (.cells #[.slice (some ⟨w.heap.size, 0, none⟩) 2 (kn + 2), .slice none 0 0] 28)).heap.size = w.heap.size + 2 := by rw [World.size_alloc, World.size_alloc]
  clear ok hk hi h1 h2 hown hb1 hb2 hx hmc
  go_enter Tryz.func92, Tryz.ntmps92
  go_upto_region 2 with fail
  generalize (w.alloc (.cells mc 66)).alloc (.cells #[.slice (some ⟨w.heap.size, 0, none⟩) 2 (kn + 2), .slice none 0 0] 28) = W at *
  clear hmk
  have hbn := (Below.refl W.heap.size W).alloc (Nat.le_refl _) (.cells #[.int .i64 0] 3)
  have hon : OwnR nrow 1 3 (W.alloc (.cells #[.int .i64 0] 3)) (w.heap.size + 2) (.slice (some ⟨W.heap.size, 0, none⟩) 1 1) (nat2 [0]) := ⟨rfl, .inr ⟨W.heap.size, 1, _, rfl, by omega, Has.new W _ _, Nat.le_refl _, by unfold maxLen; omega, rfl, rfl⟩⟩
  rw [hsz2] at hon
  have HON := Lib.hid hon
  have HC2 := Lib.hid (HCS.out.below hbn)
  have HB3 := Lib.hid (HB2.out.trans (hbn.mono (by omega)))
  have hsz3 : (W.alloc (.cells #[.int .i64 0] 3)).heap.size = w.heap.size + 3 := by rw [World.size_alloc, hsz2]
  clear hbn hon
  go_wp2_with fail
  go_loopw [7, 8] (fun v7 v8 wr => ∃ (v1 u7 : Value) (i : Nat) (O : List Nat), u7 = v7 ∧ v8 = .int .i64 (i : Int) ∧ i ≤ kn ∧ ChS w.heap.size wr (w.heap.size + 1) v1 (chC ks i) ∧ OwnR nrow 1 3 wr (w.heap.size + 2) u7 (nat2 O) ∧ (∀ j, v1.ownBlock = some j → u7.ownBlock ≠ some j) ∧ Below w.heap.size w wr ∧ w.heap.size + 3 ≤ wr.heap.size ∧ Hid (OrdI ks m is i O)) (fun _ v8 _ => kn - (intOf v8).toNat)
  case atStart => exact ⟨_, _, 0, [0], rfl, rfl, Nat.zero_le _, HC2.out, HON.out, fun j h1 h2 => by have q1 := Option.some.inj h1; have q2 := Option.some.inj h2; simp only at q1 q2; omega, HB3.out, by omega, Lib.hid OrdI.start⟩
  case round =>
    obtain ⟨v1, u7, i, O, rfl, rfl, hi, hc, ho, hd, hb, hs, HORD⟩ := hrel
    clear HC2 HON HB3 hsz3
    obtain ⟨A3, q3, hv3⟩ := hc.own.shape
    have hln := chC_len ks i
    rw [hln] at hv3
    subst hv3
    obtain ⟨A7, p7, q7, hv7⟩ := own_sh ho
    subst hv7
    have HC := Lib.hid hc
    have HO := Lib.hid ho
    have HD := Lib.hid hd
    have HB := Lib.hid hb
    have x0 := hc.x0
    have f0 := hc.fz
    by_cases hlt : i < kn
    · obtain ⟨b1, o1, e1, -, hb1, t1⟩ := text_at (RdR.below HR1.out hb) (i := i) (by rw [HK.out]; exact hlt)
      obtain ⟨b2, o2, e2, -, hb2, t2⟩ := bool_at HR2.out (i := i) (by rw [HI.out]; exact hlt)
      obtain ⟨xk, hxk⟩ : ∃ xk, ks[i]'(by rw [HK.out]; exact hlt) = xk := ⟨_, rfl⟩
      obtain ⟨xb, hxb⟩ : ∃ xb, is[i]'(by rw [HI.out]; exact hlt) = xb := ⟨_, rfl⟩
      have HNX : Hid (chC ks (i + 1) = chC ks i ++ [⟨xk, 0, 0, 0, false⟩]) := Lib.hid (by
        rw [chC_next, ← hxk, List.getD_eq_getElem?_getD, List.getElem?_eq_getElem (by rw [HK.out]; exact hlt)]
        rfl)
      have HSB : Hid (selV is (i + 2) = xb) := Lib.hid (by
        unfold selV
        rw [← hxb, show i + 2 - 2 = i by omega, List.getD_eq_getElem?_getD, List.getElem?_eq_getElem (by rw [HI.out]; exact hlt)]
        rfl)
      rw [hxk] at t1
      rw [hxb] at t2
      subst e1 e2
      have i0 : (0 : Int) ≤ (i : Int) := by omega
      have i1 : (i : Int) < (kn : Int) := by omega
      have HLN := Lib.hid hln
      have hbn := (Below.refl wr.heap.size wr).alloc (Nat.le_refl _) (.cells #[.string xk, .int .i64 0, .int .i64 0, .int .i64 0, .bool false] 66)
      have HND := Lib.hid (HC.out.below hbn.drew)
      have y0 := (hbn.cell (p := ⟨w.heap.size + 1, 0, none⟩) hc.lt).trans x0
      have u1 := (hbn.cell (p := ⟨b1, o1 + i, none⟩) hb1).trans t1
      have HNW := Lib.hid (RdR.keep (w' := (wr.alloc (.cells #[.string xk, .int .i64 0, .int .i64 0, .int .i64 0, .bool false] 66)).drew) (RdR.new (enc := Ce.row) (e := 66) Ce.row_len wr ⟨xk, 0, 0, 0, false⟩ _ rfl) (Nat.le_refl _) (fun _ _ _ => rfl))
      have hszd : (wr.alloc (.cells #[.string xk, .int .i64 0, .int .i64 0, .int .i64 0, .bool false] 66)).drew.heap.size = wr.heap.size + 1 := World.size_alloc _ _
      have HBA := Lib.hid (HB.out.trans (hbn.drew.mono hb.size))
      have HOA := Lib.hid (HO.out.below hbn.drew)
      have HLT := Lib.hid hlt
      clear hxk hxb hc ho hd hb hln hbn
      go_upto_region 6 with fail
      go_cut [7] (fun s7 wx => s7 = .slice A7 p7 q7 ∧ ∃ (A5 : Option Addr) (q5 : Nat), ChS w.heap.size wx (w.heap.size + 1) (.slice A5 (i + 3) q5) (chC ks (i + 1)) ∧ OwnR nrow 1 3 wx (w.heap.size + 2) (.slice A7 p7 q7) (nat2 O) ∧ (∀ j, (.slice A5 (i + 3) q5 : Value).ownBlock = some j → (.slice A7 p7 q7 : Value).ownBlock ≠ some j) ∧ Below w.heap.size w wx ∧ w.heap.size + 3 ≤ wx.heap.size)
      case first =>
        go_region_law (refine step_pushR RowT.ce (o := ⟨some 31, _, _, _, _, _⟩) rfl (.tmp 24) (.tmp 30) rfl w.heap.size (.slice A3 (i + 2) q3) (chC ks i) (wr.alloc (.cells #[.string xk, .int .i64 0, .int .i64 0, .int .i64 0, .bool false] 66)).drew _ 1 _ ⟨xk, 0, 0, 0, false⟩ (by simp [Act.eval]) HND.out.own (by simp [Act.eval]) HNW.out (by have := HLN.out; omega) (by omega) ?_; intro v5 w5 ho5 hg5 hat5; obtain ⟨A5, q5, hv5⟩ := ho5.shape; rw [← HNX.out, chC_len] at hv5; subst hv5; have HP5 := Lib.hid (HND.out.put ho5 hg5 (hat5.imp id fun q => ⟨_, Nat.le_refl _, q⟩)); have hb5 := grown_below hg5 (by omega) (fun j e => (HND.out.own.lt j e).1); have HG5 := Lib.hid (HBA.out.trans hb5); have hs5 := hb5.size; have HQ5 := Lib.hid (HOA.out.grown hg5 (dis_of HD.out)); have HD5 := Lib.hid (dis_l HD.out (hat5.imp id fun q => ⟨_, Nat.le_refl _, q⟩) (fun j e => (HOA.out.lt j e).2)); have z5 := (World.cell?_of_block (hg5.block (w.heap.size + 1) HND.out.lt (fun e => HND.out.ne1 e.symm))).trans y0; have f5 := (World.frozen?_of_block (a := ⟨w.heap.size + 1, 0, none⟩) (hg5.block (w.heap.size + 1) HND.out.lt (fun e => HND.out.ne1 e.symm))).trans (HND.out.fz 0); clear ho5 hg5 hat5 hb5)
        all_goals (go_wp2_with fail; go_meet)
        all_goals refine ⟨rfl, A5, q5, by rw [HNX.out]; exact HP5.out, HQ5.out.blk (fun j h1 h2 _ => Below.heap_setCell _ _ _ _ (by simp only; omega)), HD5.out, HG5.out.setCell (p := ⟨w.heap.size + 1, 0, none⟩) (by simp only; omega) _, by rw [World.size_setCell]; omega⟩
      case rest =>
        obtain ⟨rfl, A5, q5, hc5, ho5, hd5, hb5, hs5⟩ := hcut
        have t3 := (hb5.cell (p := ⟨b2, o2 + i, none⟩) hb2).trans t2
        clear x0 f0 y0 u1 t1 t2 hszd HND HNW HBA HOA HC HO HD HB
        have HC5 := Lib.hid hc5
        have HO5 := Lib.hid ho5
        have HD5 := Lib.hid hd5
        have HB5 := Lib.hid hb5
        clear hc5 ho5 hd5 hb5
        cases xb with
        | false =>
          have HSK := Lib.hid (HORD.out.skip HSB.out)
          go_wp2_with fail
          exact ⟨⟨_, _, i + 1, O, rfl, by go_num, HLT.out, HC5.out, HO5.out, HD5.out, HB5.out, hs5, HSK⟩, by simp [intOf]; omega⟩
        | true =>
          obtain ⟨A8, q8, hv8, _, _, hr8⟩ := HO5.out.read (fun _ => rfl)
          injection hv8 with g1 g2 g3
          subst g1
          rw [nat2_len] at g2
          have HN : Hid (O.length = p7) := Lib.hid g2.symm
          have HR8 := Lib.hid hr8
          have hp7 : p7 ≤ i + 1 := by rw [g2]; exact HORD.out.len
          have hp1 : 1 ≤ p7 := by
            obtain ⟨r, hr⟩ := HORD.out.hd
            rw [g2, hr]; simp
          clear g2 g3 hr8
          go_wp2_with fail
          go_loopw [9] (fun v9 wz => ∃ a : Nat, v9 = .int .i64 (a : Int) ∧ 1 ≤ a ∧ a ≤ p7 ∧ Below wc.heap.size wc wz ∧ Hid (∀ j (hj : j < O.length), a ≤ j → blw (nwB ks m) (i + 2) O[j] = true)) (fun v9 _ => (intOf v9).toNat)
          case atStart => exact ⟨p7, rfl, hp1, Nat.le_refl _, Below.refl _ _, Lib.hid (fun j h1 h2 => by rw [HN.out] at h1; omega)⟩
          case round =>
            obtain ⟨a, rfl, ha1, han, hbz, HJ⟩ := hrel
            obtain ⟨a', rfl⟩ : ∃ a', a = a' + 1 := ⟨a - 1, by omega⟩
            have ha2 : a' < O.length := by rw [HN.out]; omega
            obtain ⟨b7, o7, e7, -, hb7, t7⟩ := num_at HR8.out (i := a') (by rw [nat2_len]; exact ha2)
            subst e7
            obtain ⟨y, hy⟩ : ∃ y, y = O[a'] := ⟨_, rfl⟩
            have hny : (nat2 O)[a']'(by rw [nat2_len]; exact ha2) = (y : Int) := by rw [hy]; simp [nat2]
            rw [hny] at t7
            have HY := Lib.hid hy
            have hyl : y < i + 2 := by rw [hy]; exact HORD.out.lt (List.getElem_mem _)
            have y7 := (hbz.cell (p := ⟨b7, o7 + a', none⟩) hb7).trans t7
            have hcz := HC5.out.below hbz
            have x0 := hcz.x0
            have x1 := hcz.x1
            have HCZ := Lib.hid hcz
            obtain ⟨A9, q9, hv9, _, _, hr9⟩ := hcz.own.read Ce.row_len
            injection hv9 with g1 g2 g3
            subst g1
            have HBW := Lib.hid (rblw_any A5 none ⟨chC ks (i + 1), []⟩ (i + 3) 0 q5 0 (i + 2) y w.heap.size wr.drew (by rw [chC_len]) (hr9.below ((Below.refl _ wr).drew)) (by omega) (by omega))
            rw [chC_blw ks m (by rw [HK.out]; exact HLT.out) (by omega) (by omega)] at HBW
            have HZB := Lib.hid (hbz.drew)
            have i2 : (0 : Int) ≤ (a' : Int) := by omega
            have i3 : (a' : Int) < (p7 : Int) := by omega
            have e1 : IntKind.i64.wrap ((a' : Int) + 1 - 1) = (a' : Int) := by rw [Int.add_sub_cancel]; exact IntWalk.i64_in _ (by omega)
            have e2 : IntKind.i64.wrap ((a' : Int) + 1 + -1) = (a' : Int) := by rw [show (a' : Int) + 1 + -1 = a' by omega]; exact IntWalk.i64_in _ (by omega)
            have e5 : IntKind.i64.wrap (a' : Int) = (a' : Int) := IntWalk.i64_in _ (by omega)
            have e6 : IntKind.i64.wrap ((i : Int) + 2) = ((i + 2 : Nat) : Int) := by rw [show ((i + 2 : Nat) : Int) = (i : Int) + 2 by omega]; exact IntWalk.i64_in _ (by omega)
            rw [show ((a' + 1 : Nat) : Int) = (a' : Int) + 1 from by omega]
            clear hy hny t7 hcz hr9 g2 g3 hbz
            go_upto_region 9 with fail
            go_still_tail 8, (by kernel_rfl)
            change wpList _ _ _ _ _ wr.drew
            generalize wr.drew = w2 at *
            cases hbl : blw (nwB ks m) (i + 2) y with
            | true =>
              rw [hbl] at HBW
              have HBL := Lib.hid hbl
              have hy0 : 1 ≤ a' := by
                rcases Nat.eq_zero_or_pos a' with q | q
                · exfalso
                  obtain ⟨r, hr⟩ := HORD.out.hd
                  have h0 : y = 0 := by
                    rw [HY.out]
                    simp only [hr, q]
                    rfl
                  rw [h0, blw_to0] at hbl
                  cases hbl
                · exact q
              clear hbl
              go_wp2_with (go_at_call 60; (refine (HBW.out).mono ?_); rintro e w4 ⟨rfl, hb4⟩; have HB4 := Lib.hid (HZB.out.trans (hb4.mono HZB.out.size)); clear hb4)
              exact ⟨⟨a', by go_num, hy0, by omega, HB4.out, Lib.hid (fun j h1 h2 => by
                rcases Nat.lt_or_ge a' j with q | q
                · exact HJ.out j h1 q
                · obtain rfl : j = a' := by omega
                  rw [← HY.out]; exact HBL.out)⟩, by simp [intOf]⟩
            | false =>
              rw [hbl] at HBW
              have HA : Hid ((∀ q : a' + 1 - 1 < O.length, blw (nwB ks m) (i + 2) O[a' + 1 - 1] = false) ∧ ∀ j (q : j < O.length), a' + 1 ≤ j → blw (nwB ks m) (i + 2) O[j] = true) := Lib.hid ⟨fun q => by
                show blw (nwB ks m) (i + 2) O[a'] = false
                rw [← HY.out]; exact hbl, HJ.out⟩
              clear hbl
              go_wp2_with (first | (go_at_call 60; (refine (HBW.out).mono ?_); rintro e w4 ⟨rfl, hb4⟩; have HB4 := Lib.hid (HZB.out.trans (hb4.mono HZB.out.size)); have HC4 := Lib.hid (HC5.out.below HB4.out); have HO4 := Lib.hid (HO5.out.below HB4.out); have HB4' := Lib.hid (HB5.out.trans (HB4.out.mono HB5.out.size)); have hs4 : w.heap.size + 3 ≤ w4.heap.size := (by have := HB4.out.size; omega); clear hb4) | (at_builtin; go_loud (refine wpList_pushR RowT.nu rfl (.tmp 51) (.tmp 52) rfl (w.heap.size + 2) (.slice (some ⟨b7, o7, none⟩) p7 q7) (nat2 O) w4 (0 : Int) _ rfl (by simp [Act.eval]) HO4.out (by simp [Act.eval]) (by rw [nat2_len]; have := HN.out; omega) (by omega) ?_; intro v6 w6 ho6 hg6 hat6; obtain ⟨G, cap, pad, hv6, hG6, hcl, hcm, hH6, hback⟩ := nu_open ho6 (by simp); have hnl : (nat2 O ++ [(0 : Int)]).length = p7 + 1 := (by rw [List.length_append, nat2_len, HN.out]; rfl); rw [hnl] at hv6 hcl hback; subst hv6; have HH6 := Lib.hid hH6; have HBK := Lib.hid hback; have hb6 := grown_below hg6 (by omega : w.heap.size ≤ w4.heap.size) (fun j e => (by have := (HO4.out.lt j e).1; omega)); have hs6 : w.heap.size + 3 ≤ w6.heap.size := (by have := hb6.size; omega); have HB6 := Lib.hid (HB4'.out.trans hb6); have HD6 := Lib.hid (dis_r HD5.out hat6 (fun j e => (HC4.out.own.lt j e).2)); have HC6 := Lib.hid (HC4.out.blk (fun j hj => hg6.block j (by rcases hj with rfl | hj; exact HC4.out.lt; exact (HC4.out.own.lt j hj).2) (by rcases hj with rfl | hj; (intro e; have := (HO4.out.lt _ e.symm).1; omega); (intro e; exact HD5.out j hj e.symm)))); have HGN : Hid (∀ j, j = w.heap.size + 1 ∨ (.slice A5 (i + 3) q5 : Value).ownBlock = some j → j ≠ G) := (Lib.hid (fun j hj e => (by subst e; rcases hj with rfl | hj; omega; exact HD6.out _ hj rfl))); clear ho6 hg6 hat6 hH6 hback hb6)))
              obtain ⟨a, ha⟩ : ∃ a, a = a' + 1 := ⟨_, rfl⟩
              rw [← ha] at ha1 han HA
              rw [show ((a' : Int) + 1) = (a : Int) by omega]
              have hGS : w.heap.size ≤ G := by omega
              have HSEL := HSB
              have HD4 : Hid (∀ j, (.slice A5 (i + 3) q5 : Value).ownBlock = some j → (.slice (some ⟨G, 0, none⟩) (p7 + 1) cap : Value).ownBlock ≠ some j) := HD6
              have hcm2 : cap ≤ 9223372036854775807 := hcm
              obtain ⟨q, hq⟩ : ∃ q, q = (nat2 O ++ [(0 : Int)]).take (a + 1) ++ (nat2 O).drop a := ⟨_, rfl⟩
              have ham2 : a ≤ (nat2 O).length := by rw [nat2_len, HN.out]; exact han
              have HQ : Hid (q.set a ((i + 2 : Nat) : Int) = (nat2 O).take a ++ [((i + 2 : Nat) : Int)] ++ (nat2 O).drop a) := Lib.hid (by rw [hq]; exact nv_set ham2 _)
              have HQL : Hid (q.length = p7 + 1) := Lib.hid (by rw [hq, List.length_append, List.length_take, List.length_drop, hnl, nat2_len, HN.out]; omega)
              have HQF := Lib.hid hq
              have HNL := Lib.hid hnl
              clear hq ham2 hnl ha e1 e2 e5 i2 i3 HBW HZB HJ HY ha2 hb7 y7 x0 x1 HCZ HR8 HO4 HC4 HB4 HB4' hs4 hyl
              have c0 : (0 : Int) ≤ (a : Int) := by omega
              have c2 : (a : Int) ≤ (p7 : Int) + 1 := by omega
              have c3 : (a : Int) + 1 ≤ (p7 : Int) + 1 := by omega
              have c4 : (p7 : Int) + 1 ≤ (cap : Int) := by omega
              have c5 : (a : Int) ≤ (cap : Int) := by omega
              have c6 : (a : Int) + 1 ≤ (cap : Int) := by omega
              have c7 : (a : Int) < (p7 : Int) + 1 := by omega
              have d2 : ¬ cap = a := by omega
              by_cases hac : a = p7
              · have HQE : Hid (q = nat2 O ++ [(0 : Int)]) := Lib.hid (by rw [HQF.out, hac, ← HN.out, ← nat2_len O, List.drop_length, List.append_nil, List.take_of_length_le (by simp)])
                by_cases hcap : cap = a + 1
                · subst hcap
                  have q1 := Lib.hid (show Nat.min (p7 + 1 - a) 0 = 0 by (show min _ _ = 0); omega)
                  clear hac
                  have d9 : (a : Int) ≤ (a : Int) + 1 := by omega
                  have e2 : (0 : Int) ≤ (a : Int) + 1 := by omega
                  have e3 : ((a : Int) + 1).toNat = a + 1 := by omega
                  have e1 : IntKind.i64.wrap ((a : Int) + 1) = (a : Int) + 1 := IntWalk.i64_in _ (by omega)
                  go_region_law ((refine step_copyR_none rfl (.tmp 57) (.tmp 60) 22 22 (by rfl) 3 1 Tryz.underlying22 hsz1 (some ⟨G, 0, none⟩) (some ⟨G, a, none⟩) 0 0 (p7 + 1 - a) 1 (by simp [Act.eval, Act.put]) (by simp [Act.eval, Act.put]) q1.out ?_))
                  clear e1 e2 e3 d9
                  have hB3 := HB6.out.drew
                  have hH3 : Has w6.drew G 3 (nv q ++ pad).toArray := by rw [HQE.out]; exact HH6.out
                  have hC3 := HC6.out.below (Below.refl _ w6).drew
                  have hs3 : w.heap.size + 3 ≤ w6.drew.heap.size := hs6
                  generalize w6.drew = w3 at *
                  have hfz9 := hH3.frozen a
                  have hz9 := hH3.cell a
                  have hzz9 : w3.cell? ⟨G, a, none⟩ = some (.int .i64 ((q.getD a 0))) := by
                    rw [hz9, List.getElem?_toArray, List.getElem?_append_left (by simp [nv, HQL.out]; omega)]
                    simp only [nv, List.getElem?_map]
                    rw [List.getD_eq_getElem?_getD, List.getElem?_eq_getElem (by rw [HQL.out]; omega)]
                    rfl
                  have hH4 := hH3.set_ a (.int .i64 ((i + 2 : Nat) : Int))
                  simp only [List.setIfInBounds_toArray] at hH4
                  rw [List.set_append_left _ _ (by simp [nv, HQL.out]; omega)] at hH4
                  have hset : (nv q).set a (.int .i64 ((i + 2 : Nat) : Int)) = nv (nat2 (O.take a ++ [i + 2] ++ O.drop a)) := by
                    unfold nv
                    rw [← List.map_set, HQ.out]
                    simp [nat2, List.map_take, List.map_drop]
                  rw [hset] at hH4
                  have HO4 := Lib.hid (HBK.out _ (nat2 (O.take a ++ [i + 2] ++ O.drop a)) (by rw [nat2_len, List.length_append, List.length_append, List.length_take, List.length_drop]; have := HN.out; simp; omega) hH4)
                  have HC4 := Lib.hid (hC3.blk (fun j hj => Below.heap_setCell w3 ⟨G, a, none⟩ (.int .i64 ((i + 2 : Nat) : Int)) j (fun e => HGN.out j hj e)))
                  have HB4 := Lib.hid (hB3.setCell (p := ⟨G, a, none⟩) hGS (.int .i64 ((i + 2 : Nat) : Int)))
                  have hs4 : w.heap.size + 3 ≤ (w3.setCell ⟨G, a, none⟩ (.int .i64 ((i + 2 : Nat) : Int))).heap.size := by rw [World.size_setCell]; exact hs3
                  have HOR := Lib.hid (HORD.out.put HOK.out (by rw [HK.out]; exact HLT.out) HSEL.out ha1 (by rw [HN.out]; exact han) (HA.out.1) (HA.out.2))
                  clear hH3 hH4 hset hz9 hC3 hB3 hs3
                  have hfz9' := hfz9
                  go_wp2_with fail
                  exact ⟨⟨_, _, i + 1, O.take a ++ [i + 2] ++ O.drop a, rfl, by go_num, HLT.out, HC4.out, HO4.out, HD4.out, HB4.out, hs4, HOR⟩, by simp [intOf]; omega⟩
                · have d1 : ¬ cap = a + 1 := hcap
                  have q1 := Lib.hid (show Nat.min (p7 + 1 - a) (p7 - a) = 0 by (show min _ _ = 0); omega)
                  clear hac
                  have d9 : (a : Int) ≤ (a : Int) + 1 := by omega
                  have e2 : (0 : Int) ≤ (a : Int) + 1 := by omega
                  have e3 : ((a : Int) + 1).toNat = a + 1 := by omega
                  have e1 : IntKind.i64.wrap ((a : Int) + 1) = (a : Int) + 1 := IntWalk.i64_in _ (by omega)
                  go_region_law ((refine step_copyR_none rfl (.tmp 57) (.tmp 60) 22 22 (by rfl) 3 1 Tryz.underlying22 hsz1 (some ⟨G, a + 1, none⟩) (some ⟨G, a, none⟩) (p7 - a) (cap - (a + 1)) (p7 + 1 - a) (cap - a) (by simp [Act.eval, Act.put]) (by simp [Act.eval, Act.put]) q1.out ?_))
                  clear e1 e2 e3 d9
                  have hB3 := HB6.out.drew
                  have hH3 : Has w6.drew G 3 (nv q ++ pad).toArray := by rw [HQE.out]; exact HH6.out
                  have hC3 := HC6.out.below (Below.refl _ w6).drew
                  have hs3 : w.heap.size + 3 ≤ w6.drew.heap.size := hs6
                  generalize w6.drew = w3 at *
                  have hfz9 := hH3.frozen a
                  have hz9 := hH3.cell a
                  have hzz9 : w3.cell? ⟨G, a, none⟩ = some (.int .i64 ((q.getD a 0))) := by
                    rw [hz9, List.getElem?_toArray, List.getElem?_append_left (by simp [nv, HQL.out]; omega)]
                    simp only [nv, List.getElem?_map]
                    rw [List.getD_eq_getElem?_getD, List.getElem?_eq_getElem (by rw [HQL.out]; omega)]
                    rfl
                  have hH4 := hH3.set_ a (.int .i64 ((i + 2 : Nat) : Int))
                  simp only [List.setIfInBounds_toArray] at hH4
                  rw [List.set_append_left _ _ (by simp [nv, HQL.out]; omega)] at hH4
                  have hset : (nv q).set a (.int .i64 ((i + 2 : Nat) : Int)) = nv (nat2 (O.take a ++ [i + 2] ++ O.drop a)) := by
                    unfold nv
                    rw [← List.map_set, HQ.out]
                    simp [nat2, List.map_take, List.map_drop]
                  rw [hset] at hH4
                  have HO4 := Lib.hid (HBK.out _ (nat2 (O.take a ++ [i + 2] ++ O.drop a)) (by rw [nat2_len, List.length_append, List.length_append, List.length_take, List.length_drop]; have := HN.out; simp; omega) hH4)
                  have HC4 := Lib.hid (hC3.blk (fun j hj => Below.heap_setCell w3 ⟨G, a, none⟩ (.int .i64 ((i + 2 : Nat) : Int)) j (fun e => HGN.out j hj e)))
                  have HB4 := Lib.hid (hB3.setCell (p := ⟨G, a, none⟩) hGS (.int .i64 ((i + 2 : Nat) : Int)))
                  have hs4 : w.heap.size + 3 ≤ (w3.setCell ⟨G, a, none⟩ (.int .i64 ((i + 2 : Nat) : Int))).heap.size := by rw [World.size_setCell]; exact hs3
                  have HOR := Lib.hid (HORD.out.put HOK.out (by rw [HK.out]; exact HLT.out) HSEL.out ha1 (by rw [HN.out]; exact han) (HA.out.1) (HA.out.2))
                  clear hH3 hH4 hset hz9 hC3 hB3 hs3
                  have hfz9' := hfz9
                  go_wp2_with fail
                  exact ⟨⟨_, _, i + 1, O.take a ++ [i + 2] ++ O.drop a, rfl, by go_num, HLT.out, HC4.out, HO4.out, HD4.out, HB4.out, hs4, HOR⟩, by simp [intOf]; omega⟩
              · have d1 : ¬ cap = a + 1 := by omega
                have q1 := Lib.hid (show p7 - a = Nat.min (p7 + 1 - a) (p7 + 1 - (a + 1)) by (show _ = min _ _); omega)
                have q2 : (nv ((nat2 O).drop a)).length = (p7 - a) * 1 := by simp [nv, nat2_len, HN.out]
                have q3 : (a + 1) + (nv ((nat2 O).drop a)).length ≤ (nv (nat2 O ++ [(0 : Int)]) ++ pad).toArray.size := by
                  rw [q2, List.size_toArray, List.length_append]
                  simp only [nv, List.length_map]
                  rw [HNL.out]
                  omega
                have q4 : ∀ j v, (nv ((nat2 O).drop a))[j]? = some v → (World.drew w6).cell? ((⟨G, a, none⟩ : Addr).add j) = some v := fun j v hv => by
                  have hjl : j < p7 - a := by
                    rcases Nat.lt_or_ge j (p7 - a) with h3 | h3
                    · exact h3
                    · rw [List.getElem?_eq_none (by omega)] at hv; cases hv
                  rw [add_at]
                  show w6.cell? ⟨G, a + j, none⟩ = some v
                  rw [HH6.out.cell, List.getElem?_toArray, List.getElem?_append_left (by simp only [nv, List.length_map]; rw [HNL.out]; omega)]
                  simp only [nv, List.getElem?_map] at hv ⊢
                  rw [List.getElem?_drop] at hv
                  rw [List.getElem?_append_left (by rw [nat2_len, HN.out]; omega)]
                  exact hv
                have HSH := Lib.hid (nv_shift (O := nat2 O) (pad := pad) (a := a) (by rw [nat2_len, HN.out]; omega))
                have Q2 := Lib.hid q2
                have Q3 := Lib.hid q3
                have Q4 := Lib.hid q4
                clear hac q2 q3 q4
                have e2 : (0 : Int) ≤ (a : Int) + 1 := by omega
                have e3 : ((a : Int) + 1).toNat = a + 1 := by omega
                have e1 : IntKind.i64.wrap ((a : Int) + 1) = (a : Int) + 1 := IntWalk.i64_in _ (by omega)
                go_region_law ((refine step_copyR rfl (.tmp 57) (.tmp 60) 22 22 (by rfl) 3 1 Tryz.underlying22 hsz1 G (a + 1) (p7 + 1 - (a + 1)) (cap - (a + 1)) ⟨G, a, none⟩ (p7 + 1 - a) (cap - a) (by simp [Act.eval, Act.put]) (by simp [Act.eval, Act.put]) (nv (nat2 O ++ [(0 : Int)]) ++ pad).toArray 3 HH6.out (p7 - a) (nv ((nat2 O).drop a)) q1.out Q2.out Q4.out Q3.out (nv_ones _) ?_; intro w3 hH3 hgr3))
                clear e1 e2 e3
                have hB3 : Below w.heap.size w w3 := HB6.out.drew.grown hgr3 HB6.out.size (fun i hi => by cases hi; exact hGS)
                replace hH3 : Has w3 G 3 (nv q ++ pad).toArray := by
                  rw [HQF.out, ← HSH.out]
                  exact hH3
                have hC3 : ChS w.heap.size w3 (w.heap.size + 1) (.slice A5 (i + 3) q5) (chC ks (i + 1)) := (HC6.out.below (Below.refl _ w6).drew).blk (fun j hj => hgr3.block j (by rcases hj with rfl | hj; exact HC6.out.lt; exact (HC6.out.own.lt j hj).2) (fun e => HGN.out j hj (Option.some.inj e)))
                have hs3 : w.heap.size + 3 ≤ w3.heap.size := by have h9 := hgr3.size; have h8 : w6.drew.heap.size = w6.heap.size := rfl; omega
                clear hgr3
                have hfz9 := hH3.frozen a
                have hz9 := hH3.cell a
                have hzz9 : w3.cell? ⟨G, a, none⟩ = some (.int .i64 ((q.getD a 0))) := by
                  rw [hz9, List.getElem?_toArray, List.getElem?_append_left (by simp [nv, HQL.out]; omega)]
                  simp only [nv, List.getElem?_map]
                  rw [List.getD_eq_getElem?_getD, List.getElem?_eq_getElem (by rw [HQL.out]; omega)]
                  rfl
                have hH4 := hH3.set_ a (.int .i64 ((i + 2 : Nat) : Int))
                simp only [List.setIfInBounds_toArray] at hH4
                rw [List.set_append_left _ _ (by simp [nv, HQL.out]; omega)] at hH4
                have hset : (nv q).set a (.int .i64 ((i + 2 : Nat) : Int)) = nv (nat2 (O.take a ++ [i + 2] ++ O.drop a)) := by
                  unfold nv
                  rw [← List.map_set, HQ.out]
                  simp [nat2, List.map_take, List.map_drop]
                rw [hset] at hH4
                have HO4 := Lib.hid (HBK.out _ (nat2 (O.take a ++ [i + 2] ++ O.drop a)) (by rw [nat2_len, List.length_append, List.length_append, List.length_take, List.length_drop]; have := HN.out; simp; omega) hH4)
                have HC4 := Lib.hid (hC3.blk (fun j hj => Below.heap_setCell w3 ⟨G, a, none⟩ (.int .i64 ((i + 2 : Nat) : Int)) j (fun e => HGN.out j hj e)))
                have HB4 := Lib.hid (hB3.setCell (p := ⟨G, a, none⟩) hGS (.int .i64 ((i + 2 : Nat) : Int)))
                have hs4 : w.heap.size + 3 ≤ (w3.setCell ⟨G, a, none⟩ (.int .i64 ((i + 2 : Nat) : Int))).heap.size := by rw [World.size_setCell]; exact hs3
                have HOR := Lib.hid (HORD.out.put HOK.out (by rw [HK.out]; exact HLT.out) HSEL.out ha1 (by rw [HN.out]; exact han) (HA.out.1) (HA.out.2))
                clear hH3 hH4 hset hz9 hC3 hB3 hs3
                have hfz9' := hfz9
                go_wp2_with fail
                exact ⟨⟨_, _, i + 1, O.take a ++ [i + 2] ++ O.drop a, rfl, by go_num, HLT.out, HC4.out, HO4.out, HD4.out, HB4.out, hs4, HOR⟩, by simp [intOf]; omega⟩
    · obtain rfl : i = kn := by omega
      clear hlt
      have HE : Hid (O ++ [1] = ordV ks m (selV is)) := Lib.hid (OrdI.end_ (by rw [HK.out]; exact HORD.out) HOK.out)
      have HCE : Hid (chC ks i = chR ks m (i + 2) [0]) := Lib.hid (by rw [← HK.out]; exact chR_start ks m)
      obtain ⟨L, hL⟩ : ∃ L, L = ordV ks m (selV is) := ⟨_, rfl⟩
      have HLE := Lib.hid hL
      have HLO : Hid (nat2 O ++ [(1 : Int)] = nat2 L) := Lib.hid (by rw [hL, ← HE.out]; simp [nat2])
      have HLD : Hid (L.Nodup) := Lib.hid (by rw [hL]; exact (ord_asc HOK.out (selV is)).imp (fun h e => by rw [e] at h; exact Nat.lt_irrefl _ h))
      have HLT : Hid (∀ j ∈ L, j < i + 2) := Lib.hid (fun j hj => by rw [hL, mem_ord] at hj; have := HK.out; omega)
      have HL0 : Hid (L.take 1 = [0]) := Lib.hid (by rw [hL]; rfl)
      obtain ⟨P, hP⟩ : ∃ P, P = L.length := ⟨_, rfl⟩
      have HP := Lib.hid hP
      have hPb : 2 ≤ P ∧ P ≤ i + 2 := by
        have h1 := HORD.out.len
        have h2 : L.length = O.length + 1 := by rw [hL, ← HE.out, List.length_append]; rfl
        obtain ⟨r, hr⟩ := HORD.out.hd
        have h3 : 1 ≤ O.length := by rw [hr]; simp
        omega
      obtain ⟨G, c, hv1, hGb, hmu⟩ := hc.own.mut Ce.row_len (by unfold chC; exact List.cons_ne_nil _ _)
      rw [hln] at hv1
      injection hv1 with g1 g2 g3
      subst g1 g3
      rw [HCE.out] at hmu
      have HMU := Lib.hid hmu
      have hlen7 : (nat2 O).length < 1000000 := by rw [nat2_len]; have := HORD.out.len; omega
      clear hL hP hc ho hd hb hmu hln x0 f0 g2
      go_wp2_with (at_builtin; refine wpList_pushR RowT.nu rfl (.tmp 67) (.tmp 68) rfl (w.heap.size + 2) (.slice A7 p7 q7) (nat2 O) wr (1 : Int) _ rfl (by simp [Act.eval]) HO.out (by simp [Act.eval]) hlen7 (by omega) ?_; intro v6 w6 ho6 hg6 hat6; rw [HLO.out] at ho6; obtain ⟨A6, c6, hv6, _, _, hr6⟩ := ho6.read (fun _ => rfl); rw [nat2_len, ← HP.out] at hv6; subst hv6; have HO6 := Lib.hid ho6; have HR6 := Lib.hid hr6; have HD6 := Lib.hid (dis_r HD.out hat6 (fun j e => (HC.out.own.lt j e).2)); have hb6 := grown_below hg6 (by omega : w.heap.size ≤ wr.heap.size) (fun j e => (by have := (HO.out.lt j e).1; omega)); have HB6 := Lib.hid (HB.out.trans hb6); have HC6 := Lib.hid (HC.out.blk (fun j hj => hg6.block j (by rcases hj with rfl | hj; exact HC.out.lt; exact (HC.out.own.lt j hj).2) (by rcases hj with rfl | hj; (intro e; have := (HO.out.lt _ e.symm).1; omega); (intro e; exact HD.out j hj e.symm)))); have HM6 := Lib.hid (HMU.out.keep (hg6.block G HMU.out.lt (fun e => HD.out G rfl e.symm))); have hs6 := hb6.size; clear ho6 hr6 hg6 hat6 hb6)
      have HRB : Hid (∀ b o, A6 = some ⟨b, o, none⟩ → b ≠ G) := Lib.hid (fun b o e q => by subst e q; exact HD6.out b rfl rfl)
      have hx0 := HC6.out.x0
      have HX0 := Lib.hid hx0
      have HXG : Hid (w.heap.size + 1 ≠ G) := Lib.hid (fun e => HC6.out.ne1 (by rw [e]; rfl))
      clear hx0
      go_loopw [10] (fun vk wq => ∃ k : Nat, vk = .int .i64 (k : Int) ∧ 1 ≤ k ∧ k ≤ P ∧ MutR Ce.row 5 66 wq G q3 (chR ks m (i + 2) (L.take k)) ∧ Hid (∀ j, j ≠ G → wq.heap[j]? = w6.heap[j]?) ∧ w6.heap.size ≤ wq.heap.size ∧ Below w.heap.size w wq) (fun vk _ => P - (intOf vk).toNat)
      case atStart => exact ⟨1, rfl, by omega, by omega, by rw [HL0.out]; exact HM6.out, Lib.hid (fun _ _ => rfl), Nat.le_refl _, HB6.out⟩
      case round =>
        obtain ⟨k, rfl, hk1, hk, hm, HU, hsq, hbq⟩ := hrel
        have x0 := (World.cell?_of_block (a := ⟨w.heap.size + 1, 0, none⟩) (HU.out _ HXG.out)).trans HX0.out
        have hf := hm.frozen
        have HM := Lib.hid hm
        have HBQ := Lib.hid hbq
        by_cases hlt : k < P
        · obtain ⟨k', rfl⟩ : ∃ k', k = k' + 1 := ⟨k - 1, by omega⟩
          have hk2 : k' + 1 < L.length := by rw [← HP.out]; exact hlt
          obtain ⟨x, hx⟩ : ∃ x, L[k' + 1]'hk2 = x := ⟨_, rfl⟩
          obtain ⟨b, hb⟩ : ∃ b, L[k']'(by omega) = b := ⟨_, rfl⟩
          obtain ⟨b7, o7, e7, hb7, hb8, t7⟩ := num_at HR6.out (i := k' + 1) (by rw [nat2_len]; exact hk2)
          obtain ⟨b7', o7', e7', -, -, s7⟩ := num_at HR6.out (i := k') (by rw [nat2_len]; omega)
          have hne7 := HRB.out _ _ e7
          subst e7
          injection e7' with e7'
          injection e7' with e8 e9
          subst e8 e9
          have hnx : (nat2 L)[k' + 1]'(by rw [nat2_len]; exact hk2) = (x : Int) := by rw [← hx]; simp [nat2]
          have hnb : (nat2 L)[k']'(by rw [nat2_len]; omega) = (b : Int) := by rw [← hb]; simp [nat2]
          rw [hnx] at t7
          rw [hnb] at s7
          have u7 := (World.cell?_of_block (a := ⟨b7, o7 + (k' + 1), none⟩) (HU.out b7 hne7)).trans t7
          have u8 := (World.cell?_of_block (a := ⟨b7, o7 + k', none⟩) (HU.out b7 hne7)).trans s7
          have hx2 : x < i + 2 := HLT.out x (by rw [← hx]; exact List.getElem_mem _)
          have hb2 : b < i + 2 := HLT.out b (by rw [← hb]; exact List.getElem_mem _)
          have HTK : Hid (L.take (k' + 1 + 1) = L.take k' ++ [b] ++ [x]) := Lib.hid (by rw [List.take_succ_eq_append_getElem hk2, List.take_succ_eq_append_getElem (by omega : k' < L.length), hx, hb])
          have HTB : Hid (L.take (k' + 1) = L.take k' ++ [b]) := Lib.hid (by rw [List.take_succ_eq_append_getElem (by omega : k' < L.length), hb])
          have HNDB : Hid ((L.take k' ++ [b]).Nodup) := Lib.hid (by rw [← HTB.out]; exact List.Nodup.sublist (List.take_sublist _ _) HLD.out)
          obtain ⟨-, -, g2, -, -⟩ := MutR.cellF (f := fun i => ⟨((nwB ks m).at_ i).key, 0, (nxtL (L.take (k' + 1)) i : Nat), 0, false⟩) hm hb2
          have HMX := Lib.hid (MutR.putF (f := fun i => ⟨((nwB ks m).at_ i).key, 0, (nxtL (L.take (k' + 1)) i : Nat), 0, false⟩) hm hb2 (j := 2) (by decide) (.int .i64 (x : Int)) ⟨((nwB ks m).at_ b).key, 0, (x : Int), 0, false⟩ rfl)
          have HNM : Hid ((List.range (i + 2)).map (fun j => if j = b then (⟨((nwB ks m).at_ b).key, 0, (x : Int), 0, false⟩ : Ce) else ⟨((nwB ks m).at_ j).key, 0, (nxtL (L.take (k' + 1)) j : Nat), 0, false⟩) = chR ks m (i + 2) (L.take (k' + 1 + 1))) := Lib.hid (by
            unfold chR
            refine map_range_congr fun j hj => ?_
            rw [HTK.out, HTB.out, nxtL_snoc HNDB.out]
            by_cases q : j = b
            · subst q; simp
            · simp [q])
          have i0 : (0 : Int) ≤ (k' : Int) := by omega
          have i1 : (k' : Int) < (P : Int) := by omega
          have i2 : (0 : Int) ≤ (k' : Int) + 1 := by omega
          have i3 : (k' : Int) + 1 < (P : Int) := by omega
          have n3 : ((k' : Int) + 1).toNat = k' + 1 := by omega
          have bb0 : (0 : Int) ≤ (b : Int) := by omega
          have bb1 : (b : Int) < ((i + 2 : Nat) : Int) := by omega
          have e1 : IntKind.i64.wrap ((k' : Int) + 1 - 1) = (k' : Int) := by rw [Int.add_sub_cancel]; exact IntWalk.i64_in _ (by omega)
          have e2 : IntKind.i64.wrap ((k' : Int) + 1 + -1) = (k' : Int) := by rw [show (k' : Int) + 1 + -1 = k' by omega]; exact IntWalk.i64_in _ (by omega)
          have e5 : IntKind.i64.wrap (k' : Int) = (k' : Int) := IntWalk.i64_in _ (by omega)
          rw [show ((k' + 1 : Nat) : Int) = (k' : Int) + 1 from by omega]
          clear hm hbq hx hb hnx hnb t7 s7 hk2
          go_upto_region 18 with fail
          go_region
          have HMZ := Lib.hid (HMX.out.keep (w' := (wr.setCell ⟨G, b * 5 + 2, none⟩ (.int .i64 (x : Int))).drew) rfl)
          have HBZ := Lib.hid ((HBQ.out.setCell (p := ⟨G, b * 5 + 2, none⟩) hGb (.int .i64 (x : Int))).drew)
          go_wp2_with fail
          exact ⟨⟨k' + 1 + 1, by go_num, by omega, by omega, by rw [← HNM.out]; exact HMZ.out, Lib.hid (fun j hj => by
            show (wr.setCell ⟨G, b * 5 + 2, none⟩ _).heap[j]? = _
            rw [Below.heap_setCell _ _ _ _ hj]
            exact HU.out j hj), by simpa using hsq, HBZ.out⟩, by simp [intOf]; omega⟩
        · obtain rfl : k = P := by omega
          have HTE : Hid (L.take k = L) := Lib.hid (by rw [HP.out, List.take_length])
          rw [HTE.out] at hm
          have HMF := Lib.hid hm
          have HOF := Lib.hid (HO6.out.blk (w' := wr) (fun j h1 h2 h3 => HU.out j (fun e => HD6.out G rfl (by rw [h3, e]))))
          clear hm hbq
          go_wp2_with fail
          go_ret2
          exact ⟨G, q3, A6, k, c6, rfl, hGb, by rw [← HLE.out]; exact HMF.out, by rw [← HLE.out]; exact HP.out.symm, by rw [← HLE.out]; exact HOF.out.low (by omega), fun e => HD6.out G rfl e, HBQ.out⟩
end Lk
end
section
open Go.RowKit Go.Maps
namespace Lk
end Lk
end
end Go.Proofs.YtmhbloefmknikaaGreatDoor
