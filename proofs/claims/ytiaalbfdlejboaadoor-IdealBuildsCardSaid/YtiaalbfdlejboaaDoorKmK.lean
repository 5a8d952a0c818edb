/-
  IDs, SameInts and SameLists of the reference of chapter 5, Lists of that of chapter 6. Condition: what is read can be read.
-/
import Derived.Test.YtiaalbfdlejboaaDoorKmJ
import Derived.Test.YtiaalbfdlejboaaDoorKdH
import Derived.StillTailTactics
namespace Go.Proofs.YtiaalbfdlejboaaDoor
open Go.RowKit

set_option maxRecDepth 100000 in
set_option maxHeartbeats 1600000 in
theorem rids_any (A : Option Addr) (l : List Nd) (c : Nat) (w : World) (hl : Nds w w.heap.size A l) (hn : l.length ≤ 1000) (hwd : ∀ x ∈ l, x.wide) :
    Calls Tryd.prog 84 #[.slice A l.length c] w (IdsP (l.map Nd.id) w) := by
  obtain ⟨inf, hif, hif1, hif2, hif3⟩ := infoI_parts
  go_enter Tryd.func84, Tryd.ntmps84
  go_wp2_with fail
  go_loopw [3, 4] (fun b i wr => ∃ (v1 : Value) (k : Nat) (l1 : List Int), v1 = b ∧ k ≤ l.length ∧ i = .int .i64 (k : Int) ∧ OwnZ wr w.heap.size v1 l1 ∧ Below w.heap.size w wr ∧ Hid (l1 = (l.take k).map Nd.id) ∧ l1.length ≤ k) (fun _ i _ => l.length - (intOf i).toNat)
  case atStart => exact ⟨_, 0, [], rfl, by omega, rfl, OwnZ.nil _ _, Below.refl _ _, Lib.hid (by simp), by simp⟩
  case round =>
    obtain ⟨v1, k, l1, rfl, hk, rfl, ho1, hB, HL, hlen⟩ := hrel
    by_cases hlt : k < l.length
    · obtain ⟨b, o, hA2, hb, f1, f2, f3⟩ := hl.at_ hlt
      subst hA2
      have hyw := (hwd _ (List.getElem_mem hlt)).1
      have HT : Hid ((l.take (k + 1)).map Nd.id = (l.take k).map Nd.id ++ [l[k].id]) := Lib.hid (by rw [List.take_succ_eq_append_getElem hlt, List.map_append]; rfl)
      replace f1 := (hB.cell (p := ⟨b, o + k * 3, none⟩) hb).trans f1
      generalize l[k] = y at *
      obtain ⟨yi, yk, yw⟩ := y
      have i0 : (0 : Int) ≤ (k : Int) := by omega
      have i1 : (k : Int) < (l.length : Int) := by omega
      obtain ⟨A3, c3, hv3, hnd⟩ := ho1.read
      clear hnd
      subst hv3
      go_wp2_with (at_builtin; refine wpList_pushZ rfl _ _ 22 rfl w.heap.size inf Tryd.underlying22 hif hif1 hif2 hif3 (.slice A3 l1.length c3) l1 _ yi hyw rfl ho1 rfl (by omega) hB.size ?_; intro v2 w6 ho6 hb6; obtain ⟨l2, hl2⟩ : ∃ l2, l2 = l1 ++ [yi] := ⟨_, rfl⟩; rw [← hl2] at ho6; have hln2 : l2.length = l1.length + 1 := (by rw [hl2]; simp); have HL2 := Lib.hid hl2; have HLN := Lib.hid hln2; clear hl2 hln2; obtain ⟨A4, c4, rfl, -⟩ := ho6.read)
      exact ⟨⟨_, k + 1, l2, rfl, hlt, by go_num, ho6, hB.trans hb6, Lib.hid (by rw [HL2.out, HL.out, HT.out]), by rw [HLN.out]; omega⟩, by simp [intOf]; omega⟩
    · have hL2 : l1 = l.map Nd.id := by rw [HL.out, List.take_of_length_le (by omega)]
      obtain ⟨A3, c3, rfl, -⟩ := ho1.read
      have HL2 := Lib.hid hL2
      clear hL2 HL
      go_wp2_with fail
      go_ret
      rw [← HL2.out]
      exact ⟨A3, c3, rfl, ho1, hB⟩
set_option maxRecDepth 100000 in
set_option maxHeartbeats 800000 in
theorem sameInts_self (A1 A2 : Option Addr) (a : List Int) (c1 c2 : Nat) (w : World) (h1 : Ins w w.heap.size A1 a) (h2 : Ins w w.heap.size A2 a) (hn : a.length ≤ 1000000) :
    Calls Tryd.prog 80 #[.slice A1 a.length c1, .slice A2 a.length c2] w (BoolN true w) := by
  have hnn : ((a.length : Int) != (a.length : Int)) = false := by simp
  obtain ⟨n, hnl⟩ : ∃ n, n = a.length := ⟨_, rfl⟩
  have HN := Lib.hid hnl
  rw [← hnl] at hn hnn ⊢
  clear hnl
  go_enter Tryd.func80, Tryd.ntmps80
  go_wp2_with fail
  go_loopw [5] (fun i wr => ∃ k : Nat, i = .int .i64 (k : Int) ∧ k ≤ n ∧ Below w.heap.size w wr) (fun i _ => n - (intOf i).toNat)
  case atStart => exact ⟨0, rfl, by omega, Below.refl _ _⟩
  case round =>
    clear hnn
    obtain ⟨k, rfl, hk, hB⟩ := hrel
    by_cases hlt : k < n
    · have k1 : k < a.length := by rw [← HN.out]; exact hlt
      obtain ⟨b1, o1, e1, hb1, _, f1⟩ := h1.at_ k1
      obtain ⟨b2, o2, e2, hb2, _, f2⟩ := h2.at_ k1
      subst e1 e2
      replace f1 := (hB.cell (p := ⟨b1, o1 + k, none⟩) hb1).trans f1
      replace f2 := (hB.cell (p := ⟨b2, o2 + k, none⟩) hb2).trans f2
      generalize a[k] = x at *
      have hx : ((x : Int) != x) = false := by simp
      have i0 : (0 : Int) ≤ (k : Int) := by omega
      have i1 : (k : Int) < (n : Int) := by omega
      clear k1
      go_wp2_with fail
      go_quiet (fail)
      go_wp2_with fail
      exact ⟨⟨k + 1, by go_num, hlt, ⟨hB.os, hB.tape, hB.output, hB.size, hB.block⟩⟩, by simp [intOf]; omega⟩
    · go_wp2_with fail
      go_ret
      exact ⟨rfl, hB⟩
set_option maxRecDepth 100000 in
set_option maxHeartbeats 800000 in
theorem sameLists_self (A1 A2 : Option Addr) (a : List (List Int)) (c1 c2 : Nat) (w : World) (h1 : RwI w w.heap.size A1 a) (h2 : RwI w w.heap.size A2 a) (hn : a.length ≤ 1000000) (hr : ∀ x ∈ a, x.length ≤ 1000000) :
    Calls Tryd.prog 35 #[.slice A1 a.length c1, .slice A2 a.length c2] w (BoolN true w) := by
  have hnn : ((a.length : Int) != (a.length : Int)) = false := by simp
  obtain ⟨n, hnl⟩ : ∃ n, n = a.length := ⟨_, rfl⟩
  have HN := Lib.hid hnl
  rw [← hnl] at hn hnn ⊢
  clear hnl
  go_enter Tryd.func35, Tryd.ntmps35
  go_wp2_with fail
  go_loopw [5] (fun i wr => ∃ k : Nat, i = .int .i64 (k : Int) ∧ k ≤ n ∧ Below w.heap.size w wr) (fun i _ => n - (intOf i).toNat)
  case atStart => exact ⟨0, rfl, by omega, Below.refl _ _⟩
  case round =>
    clear hnn
    obtain ⟨k, rfl, hk, hB⟩ := hrel
    by_cases hlt : k < n
    · have k1 : k < a.length := by rw [← HN.out]; exact hlt
      obtain ⟨b1, o1, B1, d1, e1, hb1, f1, r1⟩ := h1.at_ k1
      obtain ⟨b2, o2, B2, d2, e2, hb2, f2, r2⟩ := h2.at_ k1
      subst e1 e2
      have hln := hr _ (List.getElem_mem k1)
      have hBd := hB.drew
      replace f1 : wr.drew.cell? ⟨b1, o1 + k, none⟩ = _ := (hB.cell (p := ⟨b1, o1 + k, none⟩) hb1).trans f1
      replace f2 : wr.drew.cell? ⟨b2, o2 + k, none⟩ = _ := (hB.cell (p := ⟨b2, o2 + k, none⟩) hb2).trans f2
      replace r1 := (r1.keep hBd.block).more hBd.size
      replace r2 := (r2.keep hBd.block).more hBd.size
      generalize a[k] = x at *
      have i0 : (0 : Int) ≤ (k : Int) := by omega
      have i1 : (k : Int) < (n : Int) := by omega
      have HC := Lib.hid (sameInts_self B1 B2 x d1 d2 wr.drew r1 r2 hln)
      clear k1 r1 r2 hB hln
      generalize x.length = nx at *
      go_wp2_with fail
      refine wp_region_still_tail 8 (by kernel_rfl) (by kernel_rfl) ?_
      simp only [List.take_succ_cons, List.take_zero, List.drop_succ_cons, List.drop_zero]
      change wpStill _ _ wr.drew (fun a' => wpList _ _ _ _ a' wr.drew) _ _
      generalize wr.drew = w9 at *
      repeat still_step
      refine wpStill_nil ?_
      go_wp2_with fail
      refine (HC.out).mono ?_
      rintro e w' ⟨rfl, hb9⟩
      go_wp2_with fail
      exact ⟨⟨k + 1, by go_num, hlt, hBd.trans (hb9.mono hBd.size)⟩, by simp [intOf]; omega⟩
    · go_wp2_with fail
      go_ret
      exact ⟨rfl, hB⟩
theorem lst_bd {l : List Nd} (h : Int) : (lstV l h).length ≤ 1000000 ∧ ∀ x ∈ lstV l h, x.length ≤ 1000000 := by
  unfold lstV
  split
  · rename_i k
    have h1 := srt_le k.1
    have h2 := clsV_len_le (srt l) h
    refine ⟨by rw [List.length_map]; omega, fun x hx => ?_⟩
    obtain ⟨cc, hcc, rfl⟩ := List.mem_map.1 hx
    have h3 := lks_flat_le (srt l) h (clsV (srt l) h).length
    rw [List.take_length, lks_flat_len] at h3
    have h4 : cc.length ≤ ((clsV (srt l) h).map List.length).sum := by
      obtain ⟨s, t, e⟩ := List.append_of_mem hcc
      rw [e]
      simp
      omega
    rw [List.length_map]
    omega
  · simp
set_option maxRecDepth 100000 in
set_option maxHeartbeats 1600000 in
theorem rlists_any (A : Option Addr) (l : List Nd) (c : Nat) (h : Int) (w : World) (hl : Nds w w.heap.size A l) (hwd : ∀ x ∈ l, x.word < 4294967296) :
    Calls Tryd.prog 37 #[.slice A l.length c, .int .i64 h] w (LstP (lstV l h) w) := by
  have HC := Lib.hid (ris_any A l c w hl hwd)
  have HI := Lib.hid (fun (W : World) => rLevel_any h W)
  by_cases hchk : chkV l = 0
  · rw [hchk, show ((0 : Int) == 0) = true from rfl] at HC
    by_cases hlv : lvB h = true
    · rw [hlv] at HI
      have hV : lstV l h = (clsV (srt l) h).map (fun c => c.map Nd.id) := if_pos ⟨hchk, hlv⟩
      rw [hV]
      have HLK := Lib.hid (fun (W : World) (k : Below w.heap.size w W) => rclassesR_any A l c h W ((hl.below k).more k.size) hchk)
      have HWD : Hid (∀ cc ∈ clsV (srt l) h, cc.length ≤ 1000 ∧ ∀ x ∈ cc, x.wide) := Lib.hid fun cc hcc => ⟨by
        have h1 := lks_flat_le (srt l) h (clsV (srt l) h).length
        rw [List.take_length, lks_flat_len] at h1
        have h2 : cc.length ≤ ((clsV (srt l) h).map List.length).sum := by
          obtain ⟨s, t, e⟩ := List.append_of_mem hcc
          rw [e]
          simp
          omega
        have := srt_le hchk
        omega, fun x hx => wide_srt hchk x (cls_in hcc hx)⟩
      have hsl := srt_le hchk
      have hcl := clsV_len_le (srt l) h
      have HN := Lib.hid (fun (A2 : Option Addr) (cc : List Nd) (c2 : Nat) (W : World) (hr : Nds W W.heap.size A2 cc) (k1 : cc.length ≤ 1000) (k2 : ∀ x ∈ cc, x.wide) => rids_any A2 cc c2 W hr k1 k2)
      obtain ⟨inf, hif, hif1, hif2, hif3⟩ := infoZ_parts
      generalize clsV (srt l) h = cs at *
      generalize srt l = S at *
      clear hl hwd hchk hlv hV
      go_enter Tryd.func37, Tryd.ntmps37
      go_wp2_with fail
      refine (HC.out).mono ?_
      rintro e w1 ⟨rfl, hb1⟩
      have HB1 := Lib.hid hb1
      clear hb1 HC
      go_wp2_with fail
      refine (HI.out _).mono ?_
      rintro e w2 ⟨rfl, rfl⟩
      go_wp2_with fail
      refine (HLK.out _ HB1.out).mono ?_
      rintro e w3 ⟨A3, c3, rfl, hr3, hb3⟩
      have HB3 := Lib.hid (HB1.out.trans (hb3.mono HB1.out.size))
      clear hb3 HB1 HLK
      obtain ⟨N, hN⟩ : ∃ N, N = cs.length := ⟨_, rfl⟩
      have HNN := Lib.hid hN
      rw [← hN] at hcl ⊢
      clear hN
      go_wp2_with fail
      go_loopw [5, 7] (fun b i wr => ∃ (v1 : Value) (k : Nat) (l1 : List (List Int)), v1 = b ∧ k ≤ N ∧ i = .int .i64 (k : Int) ∧ OwnRI wr w3.heap.size v1 l1 ∧ Below w3.heap.size w3 wr ∧ Hid (l1 = (cs.take k).map (fun c => c.map Nd.id)) ∧ l1.length ≤ k) (fun _ i _ => N - (intOf i).toNat)
      case atStart => exact ⟨_, 0, [], rfl, by omega, rfl, OwnRI.nil _ _, Below.refl _ _, Lib.hid (by simp), by simp⟩
      case round =>
        obtain ⟨v1, k, l1, rfl, hk, rfl, ho1, hB, HL, hlen⟩ := hrel
        by_cases hlt : k < N
        · have k1 : k < cs.length := by rw [← HNN.out]; exact hlt
          obtain ⟨b, o, Ai, ci, hA2, hb, f1, hr⟩ := hr3.at_ k1
          subst hA2
          obtain ⟨hcl2, hw2⟩ := HWD.out _ (List.getElem_mem k1)
          have HT : Hid ((cs.take (k + 1)).map (fun c => c.map Nd.id) = (cs.take k).map (fun c => c.map Nd.id) ++ [cs[k].map Nd.id]) := Lib.hid (by rw [List.take_succ_eq_append_getElem k1, List.map_append]; rfl)
          replace f1 := (hB.cell (p := ⟨b, o + k, none⟩) hb).trans f1
          have HNB := Lib.hid (HN.out Ai cs[k] ci wr ((hr.below hB).more hB.size) hcl2 hw2)
          generalize cs[k] = cc at *
          unfold IdsP at HNB
          obtain ⟨m, hm⟩ : ∃ m, m = cc.map Nd.id := ⟨_, rfl⟩
          obtain ⟨n2, hn2⟩ : ∃ n2, n2 = cc.length := ⟨_, rfl⟩
          have hml : m.length = n2 := by rw [hm, hn2]; simp
          have HMM := Lib.hid hm
          rw [← hm, hml] at HNB
          rw [← hn2] at f1 HNB
          have HML := Lib.hid hml
          have i0 : (0 : Int) ≤ (k : Int) := by omega
          have i1 : (k : Int) < (N : Int) := by omega
          obtain ⟨A5, c5, hv5, hnd⟩ := ho1.read
          clear hnd hr hw2 k1 hm hn2 hml
          have HO1 := Lib.hid ho1
          have HB := Lib.hid hB
          subst hv5
          clear ho1 hB
          go_wp2_with fail
          refine (HNB.out).mono ?_
          rintro e w4 ⟨A4, c4, rfl, ho4, hb4⟩
          have ho4' := HO1.out.below hb4
          have hB4 := HB.out.trans (hb4.mono HB.out.size)
          obtain ⟨_, _, er, hr4, hbs4⟩ := ho4.read
          injection er with e1 _ e2
          subst e1 e2
          have hsep : ∀ b o, A4 = some ⟨b, o, none⟩ → b < w4.heap.size ∧ some b ≠ (Value.slice A5 l1.length c5).ownBlock := fun b o e => by
            have h1 := hbs4 b o e
            have h2 := ho4.1.lt b (by rw [e]; rfl)
            refine ⟨h2.2, fun e2 => ?_⟩
            obtain ⟨vs, h3, _⟩ := HO1.out
            have := (h3.lt b e2.symm).2
            omega
          clear HNB HO1 ho4 hb4 hbs4
          rw [← HML.out]
          go_wp2_with (at_builtin; refine wpList_pushI rfl _ _ 57 rfl w3.heap.size inf Tryd.underlying57 hif hif1 hif2 hif3 (.slice A5 l1.length c5) l1 w4 A4 c4 m hr4 hsep rfl ho4' rfl (by omega) hB4.size ?_; intro v2 w6 ho6 hb6; obtain ⟨l2, hl2⟩ : ∃ l2, l2 = l1 ++ [m] := ⟨_, rfl⟩; rw [← hl2] at ho6; have hln2 : l2.length = l1.length + 1 := (by rw [hl2]; simp); have HL2 := Lib.hid hl2; have HLN := Lib.hid hln2; clear hl2 hln2; obtain ⟨A6, c6, rfl, -⟩ := ho6.read)
          exact ⟨⟨_, k + 1, l2, rfl, hlt, by go_num, ho6, hB4.trans hb6, Lib.hid (by rw [HL2.out, HL.out, HT.out, HMM.out]), by rw [HLN.out]; omega⟩, by simp [intOf]; omega⟩
        · have hL2 : l1 = cs.map (fun c => c.map Nd.id) := by rw [HL.out, List.take_of_length_le (by rw [← HNN.out]; omega)]
          obtain ⟨A5, c5, rfl, hr5⟩ := ho1.read
          have HL2 := Lib.hid hL2
          clear hL2 HL ho1
          go_wp2_with fail
          go_ret
          rw [← HL2.out]
          exact ⟨A5, c5, rfl, hr5, HB3.out.trans (hB.mono HB3.out.size)⟩
    · have hlz : lvB h = false := by simpa using hlv
      rw [lst_no (fun k => hlv k.2)]
      rw [hlz] at HI
      clear hl hwd hchk hlv hlz
      go_enter Tryd.func37, Tryd.ntmps37
      go_wp2_with fail
      refine (HC.out).mono ?_
      rintro e w1 ⟨rfl, hb1⟩
      go_wp2_with fail
      refine (HI.out _).mono ?_
      rintro e w2 ⟨rfl, rfl⟩
      go_wp2_with fail
      go_ret
      exact ⟨none, 0, rfl, fun hn => absurd rfl hn, hb1⟩
  · have hz : (chkV l == 0) = false := by simpa using hchk
    rw [hz] at HC
    rw [lst_no (fun k => hchk k.1)]
    clear hl hwd hchk hz
    go_enter Tryd.func37, Tryd.ntmps37
    go_wp2_with fail
    refine (HC.out).mono ?_
    rintro e w1 ⟨rfl, hb1⟩
    go_wp2_with fail
    go_ret
    exact ⟨none, 0, rfl, fun hn => absurd rfl hn, hb1⟩
end Go.Proofs.YtiaalbfdlejboaaDoor
