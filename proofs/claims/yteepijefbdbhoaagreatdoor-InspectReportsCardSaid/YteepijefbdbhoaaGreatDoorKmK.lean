/-
  IDs, SameInts and SameLists of the reference of chapter 5, Lists of that of chapter 6. Condition: what is read can be read.
-/
import Derived.Test.YteepijefbdbhoaaGreatDoorLmJ
import Derived.Test.YteepijefbdbhoaaGreatDoorLdG
import Derived.StillTailTactics
namespace Go.Proofs.YteepijefbdbhoaaGreatDoor
open Go.RowKit

set_option maxRecDepth 100000 in
set_option maxHeartbeats 1600000 in
theorem rids_any (A : Option Addr) (l : List Nd) (c : Nat) (w : World) (hl : Nds w w.heap.size A l) (hn : l.length ≤ 1000) (hwd : ∀ x ∈ l, x.wide) :
    Calls Tryz.prog 88 #[.slice A l.length c] w (IdsP (l.map Nd.id) w) := by
  obtain ⟨inf, hif, hif1, hif2, hif3⟩ := infoI_parts
  go_enter Tryz.func88, Tryz.ntmps88
  go_wp2_with fail
  go_loopw [3, 4] (fun b i wr => ∃ (v1 : Value) (k : Nat) (l1 : List Int), v1 = b ∧ k ≤ l.length ∧ i = .int .i64 (k : Int) ∧ OwnZ wr w.heap.size v1 l1 ∧ Below w.heap.size w wr ∧ Hid (l1 = (l.take k).map Nd.id) ∧ l1.length ≤ k) (fun _ i _ => l.length - (intOf i).toNat)
  case atStart => exact ⟨_, 0, [], rfl, by omega, rfl, OwnZ.nil _ _, Below.refl _ _, Lib.hid (by simp), by simp⟩
  case round =>
    obtain ⟨v1, k, l1, rfl, hk, rfl, ho1, hB, HL, hlen⟩ := hrel
    by_cases hlt : k < l.length
    · obtain ⟨b, o, hA2, hb, f1, f2, f3⟩ := hl.at_ hlt
      subst hA2
      have hyw := (hwd _ (List.getElem_mem hlt)).1
      have HT : Hid ((l.take (k + 1)).map Nd.id = (l.take k).map Nd.id ++ [l[k].id]) := Lib.hid (by rw [List.take_succ_eq_append_getElem hlt, List.map_append]; rfl)
      replace f1 := (hB.cell (p := ⟨b, o + k * 3, none⟩) hb).trans f1
      generalize l[k] = y at *
      obtain ⟨yi, yk, yw⟩ := y
      have i0 : (0 : Int) ≤ (k : Int) := by omega
      have i1 : (k : Int) < (l.length : Int) := by omega
      obtain ⟨A3, c3, hv3, hnd⟩ := ho1.read
      clear hnd
      subst hv3
      go_wp2_with (at_builtin; refine wpList_pushZ rfl _ _ 22 rfl w.heap.size inf Tryz.underlying22 hif hif1 hif2 hif3 (.slice A3 l1.length c3) l1 _ yi hyw rfl ho1 rfl (by omega) hB.size ?_; intro v2 w6 ho6 hb6; obtain ⟨l2, hl2⟩ : ∃ l2, l2 = l1 ++ [yi] := ⟨_, rfl⟩; rw [← hl2] at ho6; have hln2 : l2.length = l1.length + 1 := (by rw [hl2]; simp); have HL2 := Lib.hid hl2; have HLN := Lib.hid hln2; clear hl2 hln2; obtain ⟨A4, c4, rfl, -⟩ := ho6.read)
      exact ⟨⟨_, k + 1, l2, rfl, hlt, by go_num, ho6, hB.trans hb6, Lib.hid (by rw [HL2.out, HL.out, HT.out]), by rw [HLN.out]; omega⟩, by simp [intOf]; omega⟩
    · have hL2 : l1 = l.map Nd.id := by rw [HL.out, List.take_of_length_le (by omega)]
      obtain ⟨A3, c3, rfl, -⟩ := ho1.read
      have HL2 := Lib.hid hL2
      clear hL2 HL
      go_wp2_with fail
      go_ret
      rw [← HL2.out]
      exact ⟨A3, c3, rfl, ho1, hB⟩
set_option maxRecDepth 100000 in
set_option maxHeartbeats 800000 in
theorem sameInts_self (A1 A2 : Option Addr) (a : List Int) (c1 c2 : Nat) (w : World) (h1 : Ins w w.heap.size A1 a) (h2 : Ins w w.heap.size A2 a) (hn : a.length ≤ 1000000) :
    Calls Tryz.prog 52 #[.slice A1 a.length c1, .slice A2 a.length c2] w (BoolN true w) := by
  have hnn : ((a.length : Int) != (a.length : Int)) = false := by simp
  obtain ⟨n, hnl⟩ : ∃ n, n = a.length := ⟨_, rfl⟩
  have HN := Lib.hid hnl
  rw [← hnl] at hn hnn ⊢
  clear hnl
  go_enter Tryz.func52, Tryz.ntmps52
  go_wp2_with fail
  go_loopw [5] (fun i wr => ∃ k : Nat, i = .int .i64 (k : Int) ∧ k ≤ n ∧ Below w.heap.size w wr) (fun i _ => n - (intOf i).toNat)
  case atStart => exact ⟨0, rfl, by omega, Below.refl _ _⟩
  case round =>
    clear hnn
    obtain ⟨k, rfl, hk, hB⟩ := hrel
    by_cases hlt : k < n
    · have k1 : k < a.length := by rw [← HN.out]; exact hlt
      obtain ⟨b1, o1, e1, hb1, _, f1⟩ := h1.at_ k1
      obtain ⟨b2, o2, e2, hb2, _, f2⟩ := h2.at_ k1
      subst e1 e2
      replace f1 := (hB.cell (p := ⟨b1, o1 + k, none⟩) hb1).trans f1
      replace f2 := (hB.cell (p := ⟨b2, o2 + k, none⟩) hb2).trans f2
      generalize a[k] = x at *
      have hx : ((x : Int) != x) = false := by simp
      have i0 : (0 : Int) ≤ (k : Int) := by omega
      have i1 : (k : Int) < (n : Int) := by omega
      clear k1
      go_wp2_with fail
      go_quiet (fail)
      go_wp2_with fail
      exact ⟨⟨k + 1, by go_num, hlt, ⟨hB.os, hB.tape, hB.output, hB.size, hB.block⟩⟩, by simp [intOf]; omega⟩
    · go_wp2_with fail
      go_ret
      exact ⟨rfl, hB⟩
set_option maxRecDepth 100000 in
set_option maxHeartbeats 800000 in
theorem sameLists_self (A1 A2 : Option Addr) (a : List (List Int)) (c1 c2 : Nat) (w : World) (h1 : RwI w w.heap.size A1 a) (h2 : RwI w w.heap.size A2 a) (hn : a.length ≤ 1000000) (hr : ∀ x ∈ a, x.length ≤ 1000000) :
    Calls Tryz.prog 26 #[.slice A1 a.length c1, .slice A2 a.length c2] w (BoolN true w) := by
  have hnn : ((a.length : Int) != (a.length : Int)) = false := by simp
  obtain ⟨n, hnl⟩ : ∃ n, n = a.length := ⟨_, rfl⟩
  have HN := Lib.hid hnl
  rw [← hnl] at hn hnn ⊢
  clear hnl
  go_enter Tryz.func26, Tryz.ntmps26
  go_wp2_with fail
  go_loopw [5] (fun i wr => ∃ k : Nat, i = .int .i64 (k : Int) ∧ k ≤ n ∧ Below w.heap.size w wr) (fun i _ => n - (intOf i).toNat)
  case atStart => exact ⟨0, rfl, by omega, Below.refl _ _⟩
  case round =>
    clear hnn
    obtain ⟨k, rfl, hk, hB⟩ := hrel
    by_cases hlt : k < n
    · have k1 : k < a.length := by rw [← HN.out]; exact hlt
      obtain ⟨b1, o1, B1, d1, e1, hb1, f1, r1⟩ := h1.at_ k1
      obtain ⟨b2, o2, B2, d2, e2, hb2, f2, r2⟩ := h2.at_ k1
      subst e1 e2
      have hln := hr _ (List.getElem_mem k1)
      have hBd := hB.drew
      replace f1 : wr.drew.cell? ⟨b1, o1 + k, none⟩ = _ := (hB.cell (p := ⟨b1, o1 + k, none⟩) hb1).trans f1
      replace f2 : wr.drew.cell? ⟨b2, o2 + k, none⟩ = _ := (hB.cell (p := ⟨b2, o2 + k, none⟩) hb2).trans f2
      replace r1 := (r1.keep hBd.block).more hBd.size
      replace r2 := (r2.keep hBd.block).more hBd.size
      generalize a[k] = x at *
      have i0 : (0 : Int) ≤ (k : Int) := by omega
      have i1 : (k : Int) < (n : Int) := by omega
      have HC := Lib.hid (sameInts_self B1 B2 x d1 d2 wr.drew r1 r2 hln)
      clear k1 r1 r2 hB hln
      generalize x.length = nx at *
      go_wp2_with fail
      refine wp_region_still_tail 8 (by kernel_rfl) (by kernel_rfl) ?_
      simp only [List.take_succ_cons, List.take_zero, List.drop_succ_cons, List.drop_zero]
      change wpStill _ _ wr.drew (fun a' => wpList _ _ _ _ a' wr.drew) _ _
      generalize wr.drew = w9 at *
      repeat still_step
      refine wpStill_nil ?_
      go_wp2_with fail
      refine (HC.out).mono ?_
      rintro e w' ⟨rfl, hb9⟩
      go_wp2_with fail
      exact ⟨⟨k + 1, by go_num, hlt, hBd.trans (hb9.mono hBd.size)⟩, by simp [intOf]; omega⟩
    · go_wp2_with fail
      go_ret
      exact ⟨rfl, hB⟩
theorem lst_bd {l : List Nd} (h : Int) : (lstV l h).length ≤ 1000000 ∧ ∀ x ∈ lstV l h, x.length ≤ 1000000 := by
  unfold lstV
  split
  · rename_i k
    have h1 := srt_le k.1
    have h2 := clsV_len_le (srt l) h
    refine ⟨by rw [List.length_map]; omega, fun x hx => ?_⟩
    obtain ⟨cc, hcc, rfl⟩ := List.mem_map.1 hx
    have h3 := lks_flat_le (srt l) h (clsV (srt l) h).length
    rw [List.take_length, lks_flat_len] at h3
    have h4 : cc.length ≤ ((clsV (srt l) h).map List.length).sum := by
      obtain ⟨s, t, e⟩ := List.append_of_mem hcc
      rw [e]
      simp
      omega
    rw [List.length_map]
    omega
  · simp
end Go.Proofs.YteepijefbdbhoaaGreatDoor
