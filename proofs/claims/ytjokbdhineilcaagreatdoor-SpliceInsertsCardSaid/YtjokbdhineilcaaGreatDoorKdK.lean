/-
  Check and Is of the reference of chapter 5: what they answer. Condition: the nodes can be read, their words fit.
-/
import Derived.Test.YtjokbdhineilcaaGreatDoorLdG
import Derived.Test.YtjokbdhineilcaaGreatDoorKsC
import Derived.BigQuiet
namespace Go.Proofs.YtjokbdhineilcaaGreatDoor
open Go.RowKit

/-- What Check asks of one node, and of two. -/
def Nd.ok (x : Nd) : Bool := decide (1 ≤ x.id) && decide (x.id ≤ 2147483647) && vk x.key && decide (x.word < 65536)
def Nd.apart (a b : Nd) : Prop := a.id ≠ b.id ∧ a.key ≠ b.key
instance (a b : Nd) : Decidable (Nd.apart a b) := inferInstanceAs (Decidable (_ ∧ _))
/-- What Check answers. -/
def chkV (l : List Nd) : Int := if 64 < l.length then 3 else if l.all Nd.ok = true then (if l.Pairwise Nd.apart then 0 else 5) else 1
theorem apart_next {l : List Nd} {i : Nat} (hi : i < l.length) : (l.take (i + 1)).Pairwise Nd.apart ↔ (l.take i).Pairwise Nd.apart ∧ ∀ j (h : j < i), Nd.apart (l[j]'(by omega)) l[i] := by
  rw [List.take_succ_eq_append_getElem hi, List.pairwise_append]
  simp only [List.pairwise_singleton, true_and, List.mem_singleton, forall_eq]
  refine and_congr_right fun _ => ⟨fun h j hj => h _ ?_, fun h a ha => ?_⟩
  · exact List.mem_take_iff_getElem.2 ⟨j, by omega, rfl⟩
  · obtain ⟨j, hj, rfl⟩ := List.mem_take_iff_getElem.1 ha
    exact h j (by omega)
theorem apart_take {l : List Nd} (n : Nat) (h : l.Pairwise Nd.apart) : (l.take n).Pairwise Nd.apart := h.sublist (List.take_sublist n l)
theorem allN_drop {l : List Nd} {k : Nat} (h : k < l.length) : (l.drop k).all Nd.ok = (l[k].ok && (l.drop (k + 1)).all Nd.ok) := by rw [List.drop_eq_getElem_cons h]; rfl

set_option maxRecDepth 100000 in
set_option maxHeartbeats 3200000 in
theorem rcheck_any (A : Option Addr) (l : List Nd) (c : Nat) (w : World) (hl : Nds w w.heap.size A l) (hwd : ∀ x ∈ l, x.word < 4294967296) :
    Calls Tryz.prog 39 #[.slice A l.length c] w fun e w' => e = .returned (.int .i64 (chkV l)) ∧ Below w.heap.size w w' := by
  by_cases h64 : 64 < l.length
  · have hr : chkV l = 3 := by simp [chkV, h64]
    have t0 : (64 : Int) < (l.length : Int) := by omega
    rw [hr]
    go_enter Tryz.func39, Tryz.ntmps39
    go_wp2_with fail
    go_ret
    exact ⟨rfl, Below.refl _ _⟩
  have HR := Lib.hid (show chkV l = if l.all Nd.ok = true then (if l.Pairwise Nd.apart then 0 else 5) else 1 by simp [chkV, h64])
  have h64' : l.length ≤ 64 := by omega
  have t0 : ¬ (64 : Int) < (l.length : Int) := by omega
  generalize chkV l = Z at *
  go_enter Tryz.func39, Tryz.ntmps39
  go_wp2_with fail
  go_loopw [3] (fun i wr => ∃ k : Nat, k ≤ l.length ∧ i = .int .i64 (k : Int) ∧ w = wr ∧ Hid (l.all Nd.ok = (l.drop k).all Nd.ok)) (fun i _ => l.length - (intOf i).toNat)
  case atStart => exact ⟨0, Nat.zero_le _, rfl, rfl, rfl⟩
  case round =>
    obtain ⟨k, hk, rfl, rfl, HE⟩ := hrel
    by_cases hlt : k < l.length
    · obtain ⟨b, o, hA2, hb, f1, f2, f3⟩ := hl.at_ hlt
      subst hA2
      have hxw := hwd _ (List.getElem_mem hlt)
      have HD := Lib.hid (HE.out.trans (allN_drop hlt))
      generalize l[k] = y at *
      obtain ⟨yi, yk, yw⟩ := y
      have i0 : (0 : Int) ≤ (k : Int) := by omega
      have i1 : (k : Int) < (l.length : Int) := by omega
      have HV := Lib.hid (vk_ref yk w)
      have HW := Lib.hid (rvalid_any4 yw w hxw)
      have bad : Nd.ok ⟨yi, yk, yw⟩ = false → Z = 1 := fun h => by
        have := HD.out
        rw [h, Bool.false_and] at this
        rw [HR.out, this]; rfl
      have BAD := Lib.hid bad
      have good : Nd.ok ⟨yi, yk, yw⟩ = true → l.all Nd.ok = (l.drop (k + 1)).all Nd.ok := fun h => by
        have := HD.out
        rwa [h, Bool.true_and] at this
      have GOOD := Lib.hid good
      clear bad good HD HE
      by_cases q1 : yi < 1
      · go_wp2_with fail
        go_ret
        exact ⟨ret_int (BAD.out (by simp [Nd.ok]; omega)).symm, Below.refl _ _⟩
      · by_cases q2 : 2147483647 < yi
        · go_wp2_with fail
          go_ret
          exact ⟨ret_int (BAD.out (by simp [Nd.ok]; omega)).symm, Below.refl _ _⟩
        · go_wp2_with fail
          refine (HV.out).mono ?_
          rintro e w' ⟨he, rfl⟩
          cases hvk : vk yk
          · rw [hvk] at he
            subst he
            have B := Lib.hid (BAD.out (by simp [Nd.ok, hvk]))
            clear BAD GOOD HV hvk
            go_wp2_with fail
            go_ret
            exact ⟨ret_int B.out.symm, Below.refl _ _⟩
          · rw [hvk] at he
            subst he
            have HVK := Lib.hid hvk
            clear HV hvk
            go_wp2_with fail
            refine (HW.out).mono ?_
            rintro e w' ⟨he, rfl⟩
            by_cases q3 : yw < 65536
            · rw [decide_eq_true q3] at he
              subst he
              have B := Lib.hid (GOOD.out (by simp [Nd.ok, HVK.out]; omega))
              clear BAD GOOD HVK HW
              go_wp2_with fail
              exact ⟨⟨k + 1, hlt, by go_num, trivial, B⟩, by simp [intOf]; omega⟩
            · rw [decide_eq_false q3] at he
              subst he
              have B := Lib.hid (BAD.out (by simp [Nd.ok]; omega))
              clear BAD GOOD HVK HW
              go_wp2_with fail
              go_ret
              exact ⟨ret_int B.out.symm, Below.refl _ _⟩
    · have HG : Hid (Z = if l.Pairwise Nd.apart then 0 else 5) := Lib.hid (by
        have := HE.out
        rw [List.drop_eq_nil_of_le (by omega)] at this
        rw [HR.out, this]; rfl)
      clear HE HR
      go_wp2_with fail
      go_loopw [4] (fun i wq => ∃ k : Nat, k ≤ l.length ∧ i = .int .i64 (k : Int) ∧ Below w.heap.size w wq ∧ Hid ((l.take k).Pairwise Nd.apart)) (fun i _ => l.length - (intOf i).toNat)
      case atStart => exact ⟨0, Nat.zero_le _, rfl, Below.refl _ _, Lib.hid (by simp)⟩
      case round =>
        obtain ⟨k, hk, rfl, hB, HP⟩ := hrel
        by_cases hlt : k < l.length
        · obtain ⟨b, o, hA2, hb, f1, f2, f3⟩ := hl.at_ hlt
          subst hA2
          have HN := Lib.hid (apart_next hlt)
          have HLK := Lib.hid hlt
          have HF := Lib.hid (show ∀ j (h : j < k), ¬ Nd.apart (l[j]'(by omega)) l[k] → Z = 5 from fun j hj hna => by
            rw [HG.out, if_neg]
            intro hp
            exact hna (((apart_next hlt).1 (apart_take (k + 1) hp)).2 j hj))
          have i0 : (0 : Int) ≤ (k : Int) := by omega
          have i1 : (k : Int) < (l.length : Int) := by omega
          go_wp2_with fail
          go_loopw [5] (fun j wz => ∃ q : Nat, q ≤ k ∧ j = .int .i64 (q : Int) ∧ Below w.heap.size w wz ∧ Hid (∀ j (h : j < q) (h2 : j < l.length), Nd.apart l[j] (l[k]'(HLK.out)))) (fun j _ => k - (intOf j).toNat)
          case atStart => exact ⟨0, Nat.zero_le _, rfl, hB, Lib.hid (fun j h => absurd h (by omega))⟩
          case round =>
            clear hB
            obtain ⟨q, hq, rfl, hB, HQ⟩ := hrel
            by_cases hqk : q < k
            · have hql : q < l.length := by omega
              obtain ⟨b2, o2, hA3, hb2, g1, g2, g3⟩ := hl.at_ hql
              injection hA3 with hA3
              injection hA3 with e1 e2
              subst e1 e2
              have F1 : wr.cell? ⟨b, o + k * 3, none⟩ = _ := (hB.cell (p := ⟨b, o + k * 3, none⟩) hb).trans f1
              have F2 : wr.cell? ⟨b, o + k * 3 + 1, none⟩ = _ := (hB.cell (p := ⟨b, o + k * 3 + 1, none⟩) hb).trans f2
              have G1 : wr.cell? ⟨b, o + q * 3, none⟩ = _ := (hB.cell (p := ⟨b, o + q * 3, none⟩) hb).trans g1
              have G2 : wr.cell? ⟨b, o + q * 3 + 1, none⟩ = _ := (hB.cell (p := ⟨b, o + q * 3 + 1, none⟩) hb).trans g2
              have j0 : (0 : Int) ≤ (q : Int) := by omega
              have j1 : (q : Int) < (l.length : Int) := by omega
              have j2 : (q : Int) < (k : Int) := by omega
              have HFQ := Lib.hid (HF.out q hqk)
              have HQN := Lib.hid (fun (ha : Nd.apart l[q] l[k]) => (fun j (h : j < q + 1) (h2 : j < l.length) => (by
                by_cases hjq : j < q
                · exact HQ.out j hjq h2
                · have : j = q := by omega
                  subst this
                  exact ha : Nd.apart l[j] (l[k]'(HLK.out)))))
              generalize l[k] = y at *
              generalize l[q] = x at *
              obtain ⟨yi, yk, yw⟩ := y
              obtain ⟨xi, xk, xw⟩ := x
              clear g1 g2 g3 f1 f2 f3 HQ
              by_cases hid' : yi = xi
              · subst hid'
                have HZ := Lib.hid (HFQ.out (fun h => h.1 rfl))
                clear HFQ HQN
                go_wp2_with fail
                go_quiet (fail)
                go_wp2_with fail
                go_ret
                exact ⟨ret_int HZ.out.symm, ⟨hB.os, hB.tape, hB.output, hB.size, hB.block⟩⟩
              · by_cases hk' : yk = xk
                · subst hk'
                  have HZ := Lib.hid (HFQ.out (fun h => h.2 rfl))
                  clear HFQ HQN
                  go_wp2_with fail
                  go_quiet (fail)
                  go_wp2_with fail
                  go_ret
                  exact ⟨ret_int HZ.out.symm, ⟨hB.os, hB.tape, hB.output, hB.size, hB.block⟩⟩
                · have HZ := Lib.hid (HQN.out ⟨fun e => hid' e.symm, fun e => hk' e.symm⟩)
                  have t1 : (yi == xi) = false := by simpa using hid'
                  have t2 : (yk.toList == xk.toList) = false := by
                    rw [beq_eq_false_iff_ne]
                    exact fun e => hk' (toList_inj e)
                  clear HFQ HQN
                  go_wp2_with fail
                  go_quiet (fail)
                  go_wp2_with fail
                  exact ⟨⟨q + 1, hqk, by go_num, ⟨hB.os, hB.tape, hB.output, hB.size, hB.block⟩, HZ⟩, by simp [intOf]; omega⟩
            · have hqe : q = k := by omega
              subst hqe
              have HP2 := Lib.hid (HN.out.2 ⟨HP.out, fun j h => HQ.out j h (by omega)⟩)
              go_wp2_with fail
              exact ⟨⟨q + 1, hlt, by go_num, hB, HP2⟩, by simp [intOf]; omega⟩
        · have HZ : Hid (Z = 0) := Lib.hid (by
            have := HP.out
            rw [List.take_of_length_le (by omega)] at this
            rw [HG.out, if_pos this])
          go_wp2_with fail
          go_ret
          exact ⟨ret_int HZ.out.symm, hB⟩
/-- Is. -/
theorem ris_any (A : Option Addr) (l : List Nd) (c : Nat) (w : World) (hl : Nds w w.heap.size A l) (hwd : ∀ x ∈ l, x.word < 4294967296) :
    Calls Tryz.prog 21 #[.slice A l.length c] w fun e w' => e = .returned (.bool (chkV l == 0)) ∧ Below w.heap.size w w' := by
  have H := Lib.hid (rcheck_any A l c w hl hwd)
  go_enter Tryz.func21, Tryz.ntmps21
  go_wp2_with fail
  refine (H.out).mono ?_
  rintro e w' ⟨rfl, hb⟩
  go_wp2_with fail
  go_ret
  exact ⟨rfl, hb⟩
end Go.Proofs.YtjokbdhineilcaaGreatDoor
