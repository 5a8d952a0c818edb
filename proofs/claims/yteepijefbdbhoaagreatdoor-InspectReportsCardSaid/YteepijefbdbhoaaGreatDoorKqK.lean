/-
  What defects and agrees of the statements of chapter 7 answer. Conditions: what is read can be read.
-/
import Derived.Test.YteepijefbdbhoaaGreatDoorLqF
import Derived.Test.YteepijefbdbhoaaGreatDoorKqE
import Derived.Test.YteepijefbdbhoaaGreatDoorKpM
namespace Go.Proofs.YteepijefbdbhoaaGreatDoor
open Go.RowKit

theorem flat_most {α β : Type} (f : α → List β) (c : Nat) (h : ∀ x, (f x).length ≤ c) : ∀ l : List α, (l.flatMap f).length ≤ l.length * c
  | [] => by simp
  | x :: l => by
    have h1 := h x
    have h2 := flat_most f c h l
    rw [List.flatMap_cons, List.length_append, List.length_cons, Nat.add_mul]
    omega
theorem ichk_len (l : List Nd) (k : List Ld) (h : Int) : (ichkR l k h).length ≤ 1000000 := by
  unfold ichkR
  split
  · rename_i hc
    have h2 : 0 ≤ h ∧ h ≤ 16 := by simpa [lvB] using hc.2
    have hs := srt_le hc.1
    have h3 := flat_most (fun x => (List.range (h + 1).toNat).flatMap fun (t : Nat) => dfA l k x (t : Int)) ((h + 1).toNat * 2) (fun x => by
      have := flat_most (fun (t : Nat) => dfA l k x (t : Int)) 2 (fun t => dfA_len l k x t) (List.range (h + 1).toNat)
      rwa [List.length_range] at this) (srt l)
    unfold chkD
    have h4 : (h + 1).toNat ≤ 17 := by omega
    have h5 : (srt l).length * ((h + 1).toNat * 2) ≤ 64 * (17 * 2) := Nat.mul_le_mul (by omega) (by omega)
    omega
  · simp
theorem nrmR_len (l : List Nd) (k : List Ld) (h : Int) : (nrmR l k h).length ≤ 64 := by
  unfold nrmR
  split
  · rename_i hc
    rw [nrm_len]
    have := srt_le hc.1
    omega
  · simp
theorem cmpV_small (l : List Nd) (k : List Ld) (h : Int) : (cmpV l k h).length ≤ 1000000 ∧ ∀ x ∈ cmpV l k h, x.length ≤ 1000000 := by
  unfold cmpV
  split
  · rename_i hc
    have hs := srt_le hc.1
    have hi : (idsV l).length ≤ 64 := by unfold idsV; rw [List.length_map]; omega
    unfold jnd prtF
    refine ⟨?_, fun x hx => ?_⟩
    · rw [List.length_map, List.length_map]
      have := List.length_filter_le (fun i => decide (lab (edg (idsV l) (prsV (srt l) k h.toNat 1)) (idsV l).length i = i)) (List.range (idsV l).length)
      rw [List.length_range] at this
      omega
    · rw [List.map_map] at hx
      obtain ⟨i, _, rfl⟩ := List.mem_map.1 hx
      simp only [Function.comp, List.length_map]
      have := List.length_filter_le (fun k_1 => decide (lab (edg (idsV l) (prsV (srt l) k h.toNat 1)) (idsV l).length k_1 = i)) (List.range (idsV l).length)
      rw [List.length_range] at this
      omega
  · simp
theorem Dfs.at_ {w : World} {B : Nat} {A : Option Addr} {l : List Df} (h : Dfs w B A l) {i : Nat} (hi : i < l.length) : ∃ b o, A = some ⟨b, o, none⟩ ∧ b < B ∧ w.cell? ⟨b, o + i * 6, none⟩ = some (.int .i64 l[i].kind) ∧ w.cell? ⟨b, o + i * 6 + 1, none⟩ = some (.int .i64 l[i].id) ∧ w.cell? ⟨b, o + i * 6 + 2, none⟩ = some (.int .i64 l[i].level) ∧ w.cell? ⟨b, o + i * 6 + 3, none⟩ = some (.int .i64 l[i].side) ∧ w.cell? ⟨b, o + i * 6 + 4, none⟩ = some (.int .i64 l[i].have_) ∧ w.cell? ⟨b, o + i * 6 + 5, none⟩ = some (.int .i64 l[i].want) := by
  obtain ⟨b, o, e, hb, hc⟩ := h (by intro e; rw [e] at hi; simp at hi)
  exact ⟨b, o, e, hb, hc i hi 0 (by omega), hc i hi 1 (by omega), hc i hi 2 (by omega), hc i hi 3 (by omega), hc i hi 4 (by omega), hc i hi 5 (by omega)⟩
set_option maxRecDepth 100000 in
set_option maxHeartbeats 1600000 in
theorem defects_self (A1 A2 : Option Addr) (a : List Df) (c1 c2 : Nat) (w : World) (h1 : Dfs w w.heap.size A1 a) (h2 : Dfs w w.heap.size A2 a) (hn : a.length ≤ 1000000) :
    Calls Tryz.prog 36 #[.slice A1 a.length c1, .slice A2 a.length c2] w (BoolN true w) := by
  have hnn : ((a.length : Int) != (a.length : Int)) = false := by simp
  obtain ⟨n, hnl⟩ : ∃ n, n = a.length := ⟨_, rfl⟩
  have HN := Lib.hid hnl
  rw [← hnl] at hn hnn ⊢
  have H1 := Lib.hid (fun (i : Nat) (h : i < a.length) => h1.at_ h)
  have H2 := Lib.hid (fun (i : Nat) (h : i < a.length) => h2.at_ h)
  clear hnl h1 h2
  go_enter Tryz.func36, Tryz.ntmps36
  go_wp2_with fail
  go_loopw [5] (fun vi wr => ∃ k : Nat, vi = .int .i64 (k : Int) ∧ k ≤ n ∧ Below w.heap.size w wr) (fun vi _ => n - (intOf vi).toNat)
  case atStart => exact ⟨0, rfl, by omega, Below.refl _ _⟩
  case round =>
    clear hnn
    obtain ⟨k, rfl, hk, hB⟩ := hrel
    by_cases hlt : k < n
    · have k2 : k < a.length := by rw [← HN.out]; exact hlt
      obtain ⟨b, o, e1, hb, a0, a1, a2, a3, a4, a5⟩ := H1.out k k2
      obtain ⟨b', o', e2, hb', d0, d1, d2, d3, d4, d5⟩ := H2.out k k2
      subst e1 e2
      replace a0 := (hB.cell (p := ⟨b, o + k * 6, none⟩) hb).trans a0
      replace a1 := (hB.cell (p := ⟨b, o + k * 6 + 1, none⟩) hb).trans a1
      replace a2 := (hB.cell (p := ⟨b, o + k * 6 + 2, none⟩) hb).trans a2
      replace a3 := (hB.cell (p := ⟨b, o + k * 6 + 3, none⟩) hb).trans a3
      replace a4 := (hB.cell (p := ⟨b, o + k * 6 + 4, none⟩) hb).trans a4
      replace a5 := (hB.cell (p := ⟨b, o + k * 6 + 5, none⟩) hb).trans a5
      replace d0 := (hB.cell (p := ⟨b', o' + k * 6, none⟩) hb').trans d0
      replace d1 := (hB.cell (p := ⟨b', o' + k * 6 + 1, none⟩) hb').trans d1
      replace d2 := (hB.cell (p := ⟨b', o' + k * 6 + 2, none⟩) hb').trans d2
      replace d3 := (hB.cell (p := ⟨b', o' + k * 6 + 3, none⟩) hb').trans d3
      replace d4 := (hB.cell (p := ⟨b', o' + k * 6 + 4, none⟩) hb').trans d4
      replace d5 := (hB.cell (p := ⟨b', o' + k * 6 + 5, none⟩) hb').trans d5
      have hq : ∀ W, (binOp .neq 52 a[k].val a[k].val).run Tryz.prog W = .ok (.bool false) W := fun W => by rw [neq_df]; simp
      generalize a[k] = x at *
      obtain ⟨x0, x1, x2, x3, x4, x5⟩ := x
      simp only [Df.val] at hq
      simp only at a0 a1 a2 a3 a4 a5 d0 d1 d2 d3 d4 d5
      have i0 : (0 : Int) ≤ (k : Int) := by omega
      have i1 : (k : Int) < (n : Int) := by omega
      have HB := Lib.hid hB
      clear hB k2
      go_upto_if 25 with (go_quiet (fail))
      have HB2 := Lib.hid (HB.out.trans ((below_drewN (Below.refl wr.heap.size wr) nq).mono HB.out.size))
      go_wp2_with fail
      exact ⟨⟨k + 1, by go_num, hlt, HB2.out⟩, by simp [intOf]; omega⟩
    · have i1 : ¬ (k : Int) < (n : Int) := by omega
      go_wp2_with fail
      go_ret
      exact ⟨rfl, hB⟩
set_option maxRecDepth 100000 in
set_option maxHeartbeats 3200000 in
theorem agrees_any (A A2 : Option Addr) (l : List Nd) (k : List Ld) (c c2 : Nat) (h : Int) (w : World) (hl : Nds w w.heap.size A l) (hk : Lds w w.heap.size A2 k) (hI : ∀ x ∈ k, -9223372036854775808 ≤ x.id ∧ x.id ≤ 9223372036854775807) (hkn : k.length ≤ 1000000) (hY : ∀ x ∈ k, ∀ y ∈ x.levels, (-9223372036854775808 ≤ y.left ∧ y.left ≤ 9223372036854775807) ∧ (-9223372036854775808 ≤ y.right ∧ y.right ≤ 9223372036854775807)) (hT : Deb w) (hwd : ∀ x ∈ l, x.word < 4294967296) :
    Calls Tryz.prog 14 #[.slice A l.length c, .slice A2 k.length c2, .int .i64 h] w (BoolN true w) := by
  have hkm : k.length ≤ maxLen := by unfold maxLen; omega
  have HND := fun (W : World) (j : Below w.heap.size w W) => (hl.below j).more j.size
  have HLD := fun (W : World) (j : Below w.heap.size w W) => (hk.below j).more j.size
  have C1 := Lib.hid (normal_any A A2 l k c c2 h w hl hk hI hkm hwd)
  have C2 := Lib.hid (fun (W : World) (j : Below w.heap.size w W) => rnormal_any A A2 l k c c2 h W (HND W j) (HLD W j) hkm hwd)
  have C3 := Lib.hid (fun (W : World) (j : Below w.heap.size w W) => icheck_any A A2 l k c c2 h W (HND W j) (HLD W j) hI hkm hY (hT.below j) hwd)
  have C4 := Lib.hid (fun (W : World) (j : Below w.heap.size w W) => rcheck7_any A A2 l k c c2 h W (HND W j) (HLD W j) hkm hwd)
  have C5 := Lib.hid (fun (W : World) (j : Below w.heap.size w W) => exact_any A A2 l k c c2 h W (HND W j) (HLD W j) hkm hwd)
  have C6 := Lib.hid (fun (W : World) (j : Below w.heap.size w W) => rexact_any A A2 l k c c2 h W (HND W j) (HLD W j) hkn hwd)
  have C7 := Lib.hid (fun (W : World) (j : Below w.heap.size w W) => icomps_any A A2 l k c c2 h W (HND W j) (HLD W j) hI hkm hY hwd)
  have C8 := Lib.hid (fun (W : World) (j : Below w.heap.size w W) => rcomps7_any A A2 l k c c2 h W (HND W j) (HLD W j) hkm hwd)
  have C9 := Lib.hid (fun (W : World) (j : Below w.heap.size w W) => iconn_any A A2 l k c c2 W (HND W j) (HLD W j) hI hkm hY hwd)
  have C0 := Lib.hid (fun (W : World) (j : Below w.heap.size w W) => rconn7_any A A2 l k c c2 W (HND W j) (HLD W j) hkm hwd)
  have N1 := Lib.hid (nrmR_len l k h)
  have N2 := Lib.hid (ichk_len l k h)
  have N3 := Lib.hid (cmpV_small l k h)
  generalize nrmR l k h = R1 at *
  generalize ichkR l k h = R2 at *
  generalize cmpV l k h = R3 at *
  generalize exaB l k h = R4 at *
  generalize conV l k = R5 at *
  obtain ⟨LN, hLN⟩ : ∃ n, n = l.length := ⟨_, rfl⟩
  obtain ⟨KN, hKN⟩ : ∃ n, n = k.length := ⟨_, rfl⟩
  rw [← hLN] at C1 C2 C3 C4 C5 C6 C7 C8 C9 C0 ⊢
  rw [← hKN] at C1 C2 C3 C4 C5 C6 C7 C8 C9 C0 ⊢
  obtain ⟨n1, hn1⟩ : ∃ n, n = R1.length := ⟨_, rfl⟩
  obtain ⟨n2, hn2⟩ : ∃ n, n = R2.length := ⟨_, rfl⟩
  obtain ⟨n3, hn3⟩ : ∃ n, n = R3.length := ⟨_, rfl⟩
  have S1 : Hid (∀ (W : World) (A5 A6 : Option Addr) (c5 c6 : Nat) (h5 : Lds W W.heap.size A5 R1) (h6 : Lds W W.heap.size A6 R1), Calls Tryz.prog 20 #[.slice A5 n1 c5, .slice A6 n1 c6] W (BoolN true W)) := Lib.hid fun W A5 A6 c5 c6 h5 h6 => by
    have := rsame6_any A5 A6 R1 R1 c5 c6 W h5 h6 (by have := N1.out; omega)
    rwa [decide_eq_true (rfl : R1 = R1), ← hn1] at this
  have S2 : Hid (∀ (W : World) (A5 A6 : Option Addr) (c5 c6 : Nat) (h5 : Dfs W W.heap.size A5 R2) (h6 : Dfs W W.heap.size A6 R2), Calls Tryz.prog 36 #[.slice A5 n2 c5, .slice A6 n2 c6] W (BoolN true W)) := Lib.hid fun W A5 A6 c5 c6 h5 h6 => by
    have := defects_self A5 A6 R2 c5 c6 W h5 h6 N2.out
    rwa [← hn2] at this
  have S3 : Hid (∀ (W : World) (A5 A6 : Option Addr) (c5 c6 : Nat) (h5 : RwI W W.heap.size A5 R3) (h6 : RwI W W.heap.size A6 R3), Calls Tryz.prog 26 #[.slice A5 n3 c5, .slice A6 n3 c6] W (BoolN true W)) := Lib.hid fun W A5 A6 c5 c6 h5 h6 => by
    have := sameLists_self A5 A6 R3 c5 c6 W h5 h6 N3.out.1 N3.out.2
    rwa [← hn3] at this
  have HN1 := Lib.hid hn1
  have HN2 := Lib.hid hn2
  have HN3 := Lib.hid hn3
  have e4 : (R4 == R4) = true := by simp
  have e5 : (R5 == R5) = true := by simp
  clear HND HLD hl hk hI hkn hY hT hwd hkm hLN hKN hn1 hn2 hn3 N1 N2 N3
  go_enter Tryz.func14, Tryz.ntmps14
  go_wp2_with fail
  refine (C1.out).mono ?_
  rintro e w1 ⟨v1, rfl, ho1, hb1⟩
  obtain ⟨A5, c5, hv5, _, _, hr5⟩ := ho1.read
  rw [← HN1.out] at hv5
  subst hv5
  have B1 := Lib.hid hb1
  have L1 := Lib.hid hr5
  clear ho1 hb1 hr5 C1
  go_wp2_with fail
  refine (C2.out w1 B1.out).mono ?_
  rintro e w2 ⟨v2, rfl, ho2, hb2⟩
  obtain ⟨A6, c6, hv6, _, _, hr6⟩ := ho2.read
  rw [← HN1.out] at hv6
  subst hv6
  have B2 := Lib.hid (B1.out.trans (hb2.mono B1.out.size))
  have T1 := Lib.hid (S1.out w2 A5 A6 c5 c6 ((L1.out.below hb2).more hb2.size) hr6)
  clear ho2 hb2 hr6 C2 B1 L1 S1
  go_wp2_with fail
  refine (T1.out).mono ?_
  rintro e w3 ⟨rfl, hb3⟩
  have B3 := Lib.hid (B2.out.trans (hb3.mono B2.out.size))
  clear hb3 B2 T1
  go_wp2_with fail
  refine (C3.out w3 B3.out).mono ?_
  rintro e w4 ⟨v4, rfl, ho4, hb4⟩
  obtain ⟨A7, c7, hv7, hr7⟩ := ho4.read
  rw [← HN2.out] at hv7
  subst hv7
  have B4 := Lib.hid (B3.out.trans (hb4.mono B3.out.size))
  have L4 := Lib.hid hr7
  clear ho4 hb4 hr7 C3 B3
  go_wp2_with fail
  refine (C4.out w4 B4.out).mono ?_
  rintro e w5 ⟨v5, rfl, ho5, hb5⟩
  obtain ⟨A8, c8, hv8, hr8⟩ := ho5.read
  rw [← HN2.out] at hv8
  subst hv8
  have B5 := Lib.hid (B4.out.trans (hb5.mono B4.out.size))
  have T2 := Lib.hid (S2.out w5 A7 A8 c7 c8 ((L4.out.below hb5).more hb5.size) hr8)
  clear ho5 hb5 hr8 C4 B4 L4 S2
  go_wp2_with fail
  refine (T2.out).mono ?_
  rintro e w6 ⟨rfl, hb6⟩
  have B6 := Lib.hid (B5.out.trans (hb6.mono B5.out.size))
  clear hb6 B5 T2
  go_wp2_with fail
  refine (C5.out w6 B6.out).mono ?_
  rintro e w7 ⟨rfl, hb7⟩
  have B7 := Lib.hid (B6.out.trans (hb7.mono B6.out.size))
  clear hb7 B6 C5
  go_wp2_with fail
  refine (C6.out w7 B7.out).mono ?_
  rintro e w8 ⟨rfl, hb8⟩
  have B8 := Lib.hid (B7.out.trans (hb8.mono B7.out.size))
  clear hb8 B7 C6
  go_wp2_with fail
  refine (C7.out w8 B8.out).mono ?_
  rintro e w9 ⟨A9, c9, rfl, hr9, hb9⟩
  have B9 := Lib.hid (B8.out.trans (hb9.mono B8.out.size))
  have L9 := Lib.hid hr9
  rw [← HN3.out]
  clear hb9 B8 C7 hr9
  go_wp2_with fail
  refine (C8.out w9 B9.out).mono ?_
  rintro e wa ⟨Aa, ca, rfl, hra, hba⟩
  have BA := Lib.hid (B9.out.trans (hba.mono B9.out.size))
  have T3 := Lib.hid (S3.out wa A9 Aa c9 ca ((L9.out.below hba).more hba.size) hra)
  rw [← HN3.out]
  clear hba B9 C8 hra L9 S3
  go_wp2_with fail
  refine (T3.out).mono ?_
  rintro e wb ⟨rfl, hbb⟩
  have BB := Lib.hid (BA.out.trans (hbb.mono BA.out.size))
  clear hbb BA T3
  go_wp2_with fail
  refine (C9.out wb BB.out).mono ?_
  rintro e wc ⟨rfl, hbc⟩
  have BC := Lib.hid (BB.out.trans (hbc.mono BB.out.size))
  clear hbc BB C9
  go_wp2_with fail
  refine (C0.out wc BC.out).mono ?_
  rintro e wd ⟨rfl, hbd⟩
  have BD := Lib.hid (BC.out.trans (hbd.mono BC.out.size))
  clear hbd BC C0
  go_wp2_with fail
  go_ret
  exact ⟨rfl, BD.out⟩
end Go.Proofs.YteepijefbdbhoaaGreatDoor
