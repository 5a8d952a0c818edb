/-
  The walk of BulkCounts: from whatever numbers it answers true and only makes memory. Conditions: the arguments can be read; 'letters' is as its initialiser lays it.
-/
import Derived.Test.YtddcfiiahahkbaaDoorLvK
import Derived.Test.YtddcfiiahahkbaaDoorLnC
import Derived.Test.YtddcfiiahahkbaaDoorLgJ
import Derived.Test.YtddcfiiahahkbaaDoorKhU
import Derived.Deep.DeepCutAuto
import Derived.Deep.CutBlock
namespace Go.Proofs.YtddcfiiahahkbaaDoor
open Go.RowKit

theorem wantN_le (l : List Nd) : ∀ t, wantN l t ≤ t * (2 * l.length)
  | 0 => by simp [wantN]
  | t + 1 => by
    have := wantN_le l t
    rw [wantN, Nat.add_mul, Nat.one_mul]
    omega
theorem lst_le (l : List Nd) (t : Nat) : (lstV l (t : Int)).length ≤ l.length := by
  unfold lstV
  split
  · rw [List.length_map, ← (srt_srt l).1.length_eq]
    exact clsV_len_le _ _
  · simp
set_option maxRecDepth 100000 in
set_option maxHeartbeats 3200000 in
theorem counts_walk (A : Option Addr) (n0 cp : Nat) (w : World) (hL : Lets w) (hnc : n0 ≤ cp) (hc : cp ≤ maxLen) (hN : Nums w w.heap.size A n0) :
    Calls Tryd.prog 7 #[.slice A n0 cp] w (LawP w) := by
  have HSA := Lib.hid (fun (W : World) => sane9_any W)
  go_enter Tryd.func7, Tryd.ntmps7
  go_wp2_with fail
  refine (new_any A n0 cp _ hnc hc hN).mono ?_
  rintro e w1 ⟨g, hg1, rfl, hTp, hb1⟩
  have hne2 : 0 ≠ g := by have := hL.lt; omega
  have l1 := hL.below hb1
  clear hN hnc hc hL
  go_wp2_with fail
  refine (roster_any 9 g w1 (by omega) (by omega) hTp l1 hne2).mono ?_
  rintro e w2 ⟨A2, c2, l, rfl, ho, hl8, hwd, hchk, hst⟩
  have hB2 : Below w.heap.size w w2 := hb1.grown hst.2 hb1.size (fun j e => by have := Option.some.inj e; omega)
  obtain ⟨_, _, er, hnd⟩ := ho.read
  injection er with e1 e3 e2
  clear e3
  subst e1 e2
  have HB2 := Lib.hid hB2
  have HST := Lib.hid hst
  have HSR := Lib.hid (sortR_any A2 l c2 w2 hnd hchk)
  obtain ⟨hcs, hss⟩ := srt_idem hchk
  have hos := ord_of hcs hss
  generalize srt l = s at *
  have hsl := (chkV_zero.1 hcs).1
  have hg2 : g < w2.heap.size := by have := hst.2.size; have := hTp.lt; omega
  clear hwd hchk ho hnd hst hB2 hTp hb1 l1 hl8
  go_wp2_with fail
  refine (HSR.out).mono ?_
  rintro e w3 ⟨A3, c3, rfl, ho3, hb3⟩
  obtain ⟨_, _, er, hnd⟩ := ho3.read
  injection er with e1 e3 e2
  clear e3
  subst e1 e2
  have HB3 := Lib.hid (HB2.out.trans (hb3.mono HB2.out.size))
  have HT3 := Lib.hid (HST.out.below hb3)
  have hA3 : ∀ b o, A3 = some ⟨b, o, none⟩ → b ≠ g := fun b o e => by
    have := (ho3.lt b (by rw [e]; rfl)).1
    omega
  have HN3 := Lib.hid hnd
  clear ho3 hnd hb3 HSR HST HB2
  go_wp2_with fail
  refine (next_any g 5 w3 HT3.out.1 (by omega)).mono ?_
  rintro e w4 ⟨r, r0, r1, rfl, hst4⟩
  obtain ⟨m, rfl⟩ : ∃ m : Nat, r = (m : Int) := ⟨r.toNat, by omega⟩
  have hm : m ≤ 4 := by omega
  have HN4 := Lib.hid (nds_step HN3.out hA3 hst4)
  have HB4 := Lib.hid (HB3.out.grown hst4.2 HB3.out.size (fun j e => by have := Option.some.inj e; omega))
  have HLD := Lib.hid (load_ok A3 s c3 m w4 HN4.out hcs (by omega) hos)
  have HWN : Hid (nzL (bldV s (m + 1)) = wantN s (m + 1)) := Lib.hid (by
    rw [(load_all hcs (M := m + 1) (by omega) (nw := fun i => i) (fun x _ => rfl)).2]
    exact cSum_want hcs (fun x _ => rfl) (m + 1) (by omega))
  have HLS := Lib.hid (fun (W : World) (h : Nds W W.heap.size A3 s) (t : Int) => lists_any6 A3 s c3 t W h (fun x hx => (wide_of hcs x hx).2))
  have HLL := Lib.hid (fun (t : Nat) => lst_le s t)
  have HWL := Lib.hid (fun t => wantN_le s t)
  have HEX := Lib.hid (fun (W : World) (A' : Option Addr) (c' : Nat) (h : Nds W W.heap.size A3 s) (h2 : Lds W W.heap.size A' (bldV s (m + 1))) => (by
    have := exact_any A3 A' s (bldV s (m + 1)) c3 c' (m : Int) W h h2 (by rw [bld_len]; unfold maxLen; omega) (fun x hx => (wide_of hcs x hx).2)
    rw [exa_self hcs (by omega)] at this
    exact this : Calls Tryd.prog 28 #[.slice A3 s.length c3, .slice A' (bldV s (m + 1)).length c', .int .i64 (m : Int)] W (BoolN true W)))
  obtain ⟨N, hNn⟩ : ∃ N, N = s.length := ⟨_, rfl⟩
  have HNN := Lib.hid hNn
  rw [← hNn] at hsl HLD HLS HLL HWL HEX ⊢
  unfold LoadOk at HLD
  generalize nzL (bldV s (m + 1)) = cn at *
  generalize bldV s (m + 1) = R at *
  clear r0 r1 hst4 hcs hss hos HN3 HB3 HT3 hNn
  go_wp2_with fail
  refine (HLD.out).mono ?_
  rintro e w5 ⟨v, rfl, hD, hb5⟩
  have HN5 := Lib.hid ((HN4.out.below hb5).more hb5.size)
  have HB5 := Lib.hid (HB4.out.trans (hb5.mono HB4.out.size))
  have HD5 := Lib.hid hD
  have hDl : w4.heap.size ≤ w5.heap.size := hb5.size
  clear hD hb5 HLD HN4 HB4
  go_wp2_with fail
  go_loopw [9, 10] (fun vs vt wr => ∃ t q : Nat, vt = .int .i64 (t : Int) ∧ vs = .int .i64 (q : Int) ∧ t ≤ m + 1 ∧ Hid (q = wantN s t) ∧ Below w5.heap.size w5 wr) (fun _ vt _ => m + 1 - (intOf vt).toNat)
  case atStart => exact ⟨0, 0, rfl, rfl, by omega, Lib.hid rfl, Below.refl _ _⟩
  case round =>
    obtain ⟨t, q, rfl, rfl, ht, HQ, hB⟩ := hrel
    by_cases hlt : t ≤ m
    · have hltz : (t : Int) ≤ (m : Int) := by omega
      have hq : q ≤ 5 * 128 := by
        have h1 := HWL.out t
        have h2 := HQ.out
        have : t * (2 * N) ≤ 5 * (2 * 64) := Nat.mul_le_mul (by omega) (by omega)
        omega
      have HLI := Lib.hid (HLS.out wr ((HN5.out.below hB).more hB.size) (t : Int))
      have HBW := Lib.hid hB
      have hll := HLL.out t
      clear hB
      obtain ⟨q2, hq2⟩ : ∃ q2, q2 = (lstV s (t : Int)).length := ⟨_, rfl⟩
      have HQ2 := Lib.hid hq2
      rw [← hq2] at hll
      unfold LstP at HLI
      rw [← hq2] at HLI
      clear hq2
      go_wp2_with fail
      refine (HLI.out).mono ?_
      rintro e w6 ⟨A6, c6, rfl, -, hb6⟩
      have HB6 := Lib.hid (HBW.out.trans (hb6.mono HBW.out.size))
      clear hb6 HLI HBW
      have hw1 : IntKind.i64.wrap ((N : Int) - (q2 : Int)) = (N : Int) - (q2 : Int) := IntWalk.i64_in _ (by omega)
      have hw2 : IntKind.i64.wrap (2 * ((N : Int) - (q2 : Int))) = 2 * ((N : Int) - (q2 : Int)) := IntWalk.i64_in _ (by omega)
      have hw3 : IntKind.i64.wrap ((q : Int) + 2 * ((N : Int) - (q2 : Int))) = (q : Int) + 2 * ((N : Int) - (q2 : Int)) := IntWalk.i64_in _ (by omega)
      go_wp2_with fail
      exact ⟨⟨t + 1, q + 2 * (N - q2), by go_num, by congr 1; omega, by omega, Lib.hid (by rw [wantN, ← HQ.out, ← HQ2.out, ← HNN.out]), HB6.out⟩, by simp [intOf]; omega⟩
    · have et : t = m + 1 := by omega
      have hltz : ¬ (t : Int) ≤ (m : Int) := by omega
      have hqc : (cn : Int) = (q : Int) := by rw [HWN.out, HQ.out, et]
      have hz : ((cn : Int) == (q : Int)) = true := by simp [hqc]
      clear et hqc
      obtain ⟨A7, c7, rfl, -, -, hR⟩ := (HD5.out.below hB).read
      have HEE := Lib.hid (HEX.out wr A7 c7 ((HN5.out.below hB).more hB.size) hR)
      have HBW := Lib.hid (HB5.out.trans (hB.mono HB5.out.size))
      generalize R.length = rn at *
      clear hR hB
      go_wp2_with fail
      refine (HEE.out).mono ?_
      rintro e w7 ⟨rfl, hb7⟩
      have HB7 := Lib.hid (HBW.out.trans (hb7.mono HBW.out.size))
      clear hb7 HEE
      go_wp2_with fail
      refine (HSA.out _).mono ?_
      rintro e w8 ⟨rfl, hb8⟩
      have HB8 := Lib.hid (HB7.out.trans (hb8.mono HB7.out.size))
      clear hb8
      go_wp2_with fail
      go_ret
      exact ⟨rfl, HB8.out⟩
end Go.Proofs.YtddcfiiahahkbaaDoor
