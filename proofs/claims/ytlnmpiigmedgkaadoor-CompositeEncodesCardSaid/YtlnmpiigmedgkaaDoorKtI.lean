/-
  Prefix of the reference: what it answers, in every world; it only makes memory. No condition.
-/
import Derived.Test.YtlnmpiigmedgkaaDoorKsN
import Derived.Deep.RegionLaw
namespace Go.Proofs.YtlnmpiigmedgkaaDoor
open Go.RowKit

theorem pre_mk {p r : ByteArray} {m : Nat} (hv : vk p = true) (hm : m < p.data.toList.length) (hA : aft (p.data.toList.drop (m + 1)) = none) (hb : p.data.toList[m] ≠ 255) (hr : r.data.toList = p.data.toList.take m ++ [p.data.toList[m] + 1]) : Rg.pre p = ⟨⟨p, false⟩, ⟨r, false⟩⟩ := by
  have h5 : r = ⟨(p.data.toList.take m ++ [p.data.toList[m] + 1]).toArray⟩ := toList_inj (by rw [toList_data, toList_data, hr])
  unfold Rg.pre
  rw [hv]
  unfold aftB
  rw [drop_last hm hA hb, h5]
  rfl

set_option maxRecDepth 100000 in
set_option maxHeartbeats 1600000 in
theorem pre_ref (p : ByteArray) (w : World) :
    Calls Tryd.prog 114 #[.string p] w fun e w' => e = .returned (Rg.pre p).val ∧ Below w.heap.size w w' := by
  have hI := (Inv.nil w).add 51 #[.string ByteArray.empty, .bool false, .string ByteArray.empty, .bool false]
  cases hv : vk p
  · go_enter Tryd.func114, Tryd.ntmps114
    go_wp2_with (go_at_call 153; refine (vk_ref _ _).mono ?_; rintro e w' ⟨rfl, rfl⟩)
    refine bodyPost_ret (v := .agg #[.string _, .bool _, .string _, .bool _]) (by simp [results, Tryd.results114, go_sem]; exact ⟨rfl, rfl, rfl, rfl⟩) rfl ⟨?_, ?_⟩
    · unfold Rg.pre
      rw [hv]
      rfl
    · repeat' (first | exact Below.refl _ _ | exact hI.1 | exact (Below.refl _ _).alloc (Nat.le_refl _) _ | refine Below.setCell ?_ (Nat.le_refl _) _)
  · have hp : p.size ≤ 64 := by unfold vk at hv; exact of_decide_eq_true hv
    have HV := Lib.hid hv
    have H64 := Lib.hid (show aft (p.data.toList.drop p.size) = none by rw [List.drop_eq_nil_of_le (show p.data.toList.length ≤ p.size from Nat.le_refl _)]; rfl)
    go_enter Tryd.func114, Tryd.ntmps114
    go_wp2_with (go_at_call 153; refine (vk_ref _ _).mono ?_; rintro e w' ⟨rfl, rfl⟩)
    clear hv
    go_loop [3] (fun n => ∃ k : Nat, k ≤ p.size ∧ n = .int .i64 k ∧ Hid (aft (p.data.toList.drop k) = none)) (fun n => (intOf n).toNat)
    case atStart => exact ⟨p.size, Nat.le_refl _, rfl, H64⟩
    case round =>
      obtain ⟨k, hk, rfl, HA⟩ := hrel
      cases k with
      | zero =>
        go_wp2
        refine bodyPost_ret (v := .agg #[.string _, .bool _, .string _, .bool _]) (by simp [results, Tryd.results114, go_sem]; exact ⟨rfl, rfl, rfl, rfl⟩) rfl ⟨?_, ?_⟩
        · have h := HA.out
          rw [List.drop_zero] at h
          unfold Rg.pre aftB
          rw [HV.out, h]
          rfl
        · repeat' (first | exact Below.refl _ _ | exact hI.1 | exact (Below.refl _ _).alloc (Nat.le_refl _) _ | refine Below.setCell ?_ (Nat.le_refl _) _)
      | succ m =>
        have hm : m < p.size := hk
        have hix : ∀ W : World, (Instr.index 9 (.string p) (.int .i64 ((m : Int) + 1 - 1))).run Tryd.prog W = .ok (.int .u8 (p[m].toNat : Int)) W := fun W => by
          rw [run_index_string _ _ _ _ _ Tryd.underlying9, dif_pos (by omega)]
          have e : ((m : Int) + 1 - 1).toNat = m := by omega
          simp only [e]
        obtain ⟨c, hc⟩ : ∃ c : Int, c = (p[m].toNat : Int) := ⟨_, rfl⟩
        rw [← hc] at hix
        have HC := Lib.hid hc
        clear hc
        have i0 : (0 : Int) ≤ (m : Int) := by omega
        have i1 : (m : Int) ≤ (p.size : Int) := by omega
        go_wp2_with fail
        · go_round
          case rel =>
            refine ⟨m, Nat.le_of_lt hm, rfl, Lib.hid (drop_all hm HA.out ?_)⟩
            have h3 : ((p[m].toNat : Int) == 255) = true := by assumption
            have h2 : (p[m].toNat : Int) = 255 := by simpa using h3
            have h1 : p[m].toNat = 255 := by omega
            exact UInt8.toNat_inj.1 h1
          case measure => simp [intOf]
        · have e1 : IntKind.i64.wrap ((m : Int) + 1 - 1) = (m : Int) := by rw [Int.add_sub_cancel]; exact IntWalk.i64_in _ (by omega)
          have e5 : IntKind.i64.wrap (m : Int) = (m : Int) := IntWalk.i64_in _ (by omega)
          have hwv : IntKind.u8.wrap ((p[m].toNat : Int) + 1) = ((p[m] + 1).toNat : Int) := by
            rw [UInt8.toNat_add]
            simp [IntKind.wrap, IntKind.bits, IntKind.signed]
          have hcv := run_convert_bytes_back (P := Tryd.prog) (((w.alloc (.cells #[.string ⟨#[]⟩, .bool false, .string ⟨#[]⟩, .bool false] 51)).alloc (.cells #[.int .u8 (IntKind.u8.wrap ((p[m].toNat : Int) + 1))] 5)).drew) 58 9 5 ⟨w.heap.size + 1, 0, none⟩ 1 [p[m] + 1] Tryd.underlying58 Tryd.underlying5 Tryd.underlying9 (fun j hj => by
            have hj0 : j = 0 := by simp at hj; exact hj
            subst hj0
            have hN := Has.new (w.alloc (.cells #[.string ⟨#[]⟩, .bool false, .string ⟨#[]⟩, .bool false] 51)) 5 #[.int .u8 (IntKind.u8.wrap ((p[m].toNat : Int) + 1))]
            have hc0 := hN.cell 0
            rw [World.size_alloc] at hc0
            refine Eq.trans hc0 ?_
            rw [hwv]
            rfl)
          simp only [List.length_cons, List.length_nil, Nat.zero_add] at hcv
          have HW := Lib.hid hwv
          obtain ⟨r, hr⟩ : ∃ r : ByteArray, (⟨[p[m] + 1].toArray⟩ : ByteArray) = r := ⟨_, rfl⟩
          rw [hr] at hcv
          have HR := Lib.hid hr
          have s1 : (p.extract 0 m).size ≤ 64 := by rw [ByteArray.size_extract]; omega
          have s2 : r.size ≤ 1 := by rw [← hr]; exact Nat.le_refl _
          have s3 : ¬ 9223372036854775807 < min m p.size + r.size := by omega
          clear hr hwv s1
          go_region_law (fail)
          clear e1 e5 hcv
          go_wp2
          refine bodyPost_ret (v := .agg #[.string _, .bool _, .string _, .bool _]) (by simp [results, Tryd.results114, go_sem]; exact ⟨rfl, rfl, rfl, rfl⟩) rfl ⟨?_, ?_⟩
          · have hb : p.data.toList[m]'hm ≠ 255 := fun h => by
              have h1 : ((p[m].toNat : Int) == 255) = false := by assumption
              have h2 : p[m].toNat = 255 := by (show (p.data.toList[m]'hm).toNat = 255); rw [h]; rfl
              rw [h2] at h1
              cases h1
            have hpre := pre_mk (p := p) (r := p.extract 0 m ++ r) HV.out hm HA.out hb (by
              rw [← HR.out, ByteArray.data_append, Array.toList_append, extract_take]
              rfl)
            rw [hpre]
          · repeat' (first | exact Below.refl _ _ | exact hI.1 | exact (Below.refl _ _).alloc (Nat.le_refl _) _ | refine Below.setCell ?_ (Nat.le_refl _) _ | refine Below.drew ?_ | refine Below.alloc ?_ (by simp) _)
end Go.Proofs.YtlnmpiigmedgkaaDoor
