/-
  The reference's Run and Bound. Conditions: the nodes can be read.
-/
import Derived.Test.YtdeamjimjcojhaaDoorLuC
import Derived.Test.YtdeamjimjcojhaaDoorLmJ
import Derived.Test.YtdeamjimjcojhaaDoorKdK
import Derived.BigQuiet
import Derived.Deep.QuietTactic
namespace Go.Proofs.YtdeamjimjcojhaaDoor
open Go.RowKit


theorem nb_of {l : List Nd} {id h : Int} (h1 : nbB l id h = true) : sfB l id = true ∧ lvB h = true := by
  unfold nbB at h1
  simp only [Bool.and_eq_true, decide_eq_true_eq] at h1
  unfold sfB
  simp [h1]
theorem nb_ne {l : List Nd} {id h : Int} (h1 : nbB l id h = false) : sfB l id = false ∨ lvB h = false := by
  unfold nbB at h1
  unfold sfB
  cases h2 : lvB h
  · exact .inr rfl
  · left
    rw [h2] at h1
    simpa using h1
set_option maxRecDepth 100000 in
set_option maxHeartbeats 1600000 in
theorem rrun_any (A : Option Addr) (l : List Nd) (c : Nat) (id h : Int) (w : World) (hl : Nds w w.heap.size A l) (hn : l.length ≤ 1000) (hwd : ∀ x ∈ l, x.word < 4294967296) (hi : -9223372036854775808 ≤ id ∧ id ≤ 9223372036854775807) :
    Calls Tryd.prog 25 #[.slice A l.length c, .int .i64 id, .int .i64 h] w fun e w' => e = .returned (.int .i64 (runR l id h : Int)) ∧ Below w.heap.size w w' := by
  have HT := Lib.hid (through_any A l c id h w hl hn hwd hi)
  by_cases hnb : nbB l id h = true
  · obtain ⟨hb, hv⟩ := nb_of hnb
    obtain ⟨hc, hf, hsn, hin⟩ := sf_yes hb
    obtain ⟨x, hx, rfl⟩ := plc_found.1 hf
    have hfx : fndV l x.id = x := fnd_self (chkV_zero.1 hc).2.2 hx
    obtain ⟨t, rfl, ht⟩ : ∃ t : Nat, h = (t : Int) ∧ t ≤ 16 := ⟨h.toNat, by simp [lvB] at hv; omega, by simp [lvB] at hv; omega⟩
    have HTY := Lib.hid (fun (e : Ending) (w' : World) (k : ThrP l x.id (t : Int) w e w') => thr_yes hnb hfx k)
    have HR : Hid (runR l x.id (t : Int) = runF (pin x t) (grp (srt l) (t : Int) x.word) 0 0) := Lib.hid (by rw [run_if hb hv, hsn, hfx]; rfl)
    rw [HR.out]
    have HF := Lib.hid (fun (W : World) (k : Below w.heap.size w W) => rfind_any A l c x.id W ((hl.below k).more k.size) (by omega))
    unfold FndP at HF
    rw [hfx, decide_eq_true hf] at HF
    have hxw := (wide_of hc x hx).2
    have HW : Hid (∀ y ∈ grp (srt l) (t : Int) x.word, y.word < 4294967296) := Lib.hid fun y hy => srt_wd hc y (List.mem_filter.1 hy).1
    have hgl : (grp (srt l) (t : Int) x.word).length ≤ 1000 := Nat.le_trans (grp_len _ _ _) (by have := srt_le hc; omega)
    have HP1 := Lib.hid (fun (y : Nd) (e : y.id = x.id) => pin_id (t := t) e)
    have HP2 := Lib.hid (fun (y : Nd) (e : y.id ≠ x.id) => pin_ne (t := t) e)
    have HP3 := Lib.hid (fun (y : Nd) (h16 : t = 16) (e : y.id ≠ x.id) => (by rw [h16]; exact pin_out e : pin x t y = false))
    generalize pin x t = p at *
    generalize grp (srt l) (t : Int) x.word = C at *
    have HR0 : Hid (runF p (C.drop 0) 0 0 = runF p C 0 0) := Lib.hid rfl
    generalize runF p C 0 0 = R at *
    have HYS := Lib.hid (fun (k n b : Nat) (h : k < C.length) (e : p C[k] = true) => runF_yes (n := n) (b := b) h e)
    have HNO := Lib.hid (fun (k n b : Nat) (h : k < C.length) (e : p C[k] = false) => runF_no (n := n) (b := b) h e)
    have HEN := Lib.hid (fun (k n b : Nat) (h : C.length ≤ k) => runF_end (p := p) (n := n) (b := b) h)
    obtain ⟨m, hm⟩ : ∃ m, m = l.length := ⟨_, rfl⟩
    rw [← hm] at HT HF ⊢
    obtain ⟨N, hN⟩ : ∃ N, N = C.length := ⟨_, rfl⟩
    have HN := Lib.hid hN
    obtain ⟨xi, xk, xw⟩ := x
    simp only at hi HT HTY hxw HF HP1 HP2 HP3 ⊢
    clear hl hn hwd hnb hb hv hc hf hsn hin hx hfx hm HR
    go_enter Tryd.func25, Tryd.ntmps25
    go_wp2_with fail
    refine (HT.out).mono ?_
    intro e w1 hk
    obtain ⟨A1, c1, rfl, hr1, hb1⟩ := HTY.out e w1 hk
    have HRC := Lib.hid hr1
    have HB1 := Lib.hid hb1
    rw [← hN] at hgl ⊢
    clear hr1 hb1 HT HTY hk hN
    go_wp2_with fail
    refine (HF.out _ HB1.out).mono ?_
    rintro e w2 ⟨rfl, hb2⟩
    have hk2 := hb2.trans (((Below.refl w2.heap.size w2).alloc (Nat.le_refl _) (.cells #[.int .i64 xi, .string xk, .int .u32 (xw : Int)] 51)).mono hb2.size)
    have HX2 := Lib.hid (Has.new w2 51 #[.int .i64 xi, .string xk, .int .u32 (xw : Int)])
    have HRD := Lib.hid ((HRC.out.below hk2).more hk2.size)
    have HB2 := Lib.hid (HB1.out.trans (hk2.mono HB1.out.size))
    obtain ⟨X, hX⟩ : ∃ X, X = w2.heap.size := ⟨_, rfl⟩
    rw [← hX] at HX2
    clear hb2 hk2 HF HB1 HRC
    go_wp2_with fail
    try rw [← hX]
    generalize w2.alloc (.cells #[.int .i64 xi, .string xk, .int .u32 (xw : Int)] 51) = W2 at *
    clear hX
    go_loopw [12, 13, 14] (fun vb vn vk wr => ∃ k n b : Nat, vk = .int .i64 (k : Int) ∧ vn = .int .i64 (n : Int) ∧ vb = .int .i64 (b : Int) ∧ k ≤ N ∧ n ≤ k ∧ b ≤ k ∧ Below W2.heap.size W2 wr ∧ Hid (runF p (C.drop k) n b = R)) (fun _ _ vk _ => N - (intOf vk).toNat)
    case atStart => exact ⟨0, 0, 0, rfl, rfl, rfl, by omega, by omega, by omega, Below.refl _ _, HR0⟩
    case round =>
      obtain ⟨k, n, b, rfl, rfl, rfl, hk, hnk, hbk, hB, HR⟩ := hrel
      by_cases hlt : k < N
      · have k1 : k < C.length := by rw [← HN.out]; exact hlt
        obtain ⟨b2, o2, e2, hb2, f1, -, f3⟩ := HRD.out.at_ k1
        subst e2
        have hyw := HW.out _ (List.getElem_mem k1)
        have HY1 := Lib.hid (fun e => HYS.out k n b k1 e)
        have HN1 := Lib.hid (fun e => HNO.out k n b k1 e)
        have HQ1 := Lib.hid (HP1.out (C[k]'k1))
        have HQ2 := Lib.hid (HP2.out (C[k]'k1))
        have HQ3 := Lib.hid (HP3.out (C[k]'k1))
        generalize p C[k] = pb at *
        generalize C[k] = y at *
        obtain ⟨yi, yk, yw⟩ := y
        simp only at f1 f3 hyw HQ1 HQ2 HQ3
        replace f1 := (hB.cell (p := ⟨b2, o2 + k * 3, none⟩) hb2).trans f1
        replace f3 := (hB.cell (p := ⟨b2, o2 + k * 3 + 2, none⟩) hb2).trans f3
        have i0 : (0 : Int) ≤ (k : Int) := by omega
        have i1 : (k : Int) < (N : Int) := by omega
        have hXr := HX2.out.below hB
        have x2 := hXr.cell 2
        have HBY := Lib.hid hB
        have HS := Lib.hid (fun (W : World) => rsame_any yw xw ((t : Int) + 1) W hyw hxw)
        have en : IntKind.i64.wrap ((n : Int) + 1) = (n : Int) + 1 := IntWalk.i64_in _ (by omega)
        have eh : IntKind.i64.wrap ((t : Int) + 1) = (t : Int) + 1 := IntWalk.i64_in _ (by omega)
        clear hXr hB hb2 k1
        by_cases he : yi = xi
        · have hpe := HQ1.out he
          have e1 : (yi == xi) = true := by simpa using he
          have HZ := Lib.hid ((HY1.out hpe).symm.trans HR.out)
          clear HQ1 HQ2 HQ3 HY1 HN1 HS he hpe HR
          go_wp2_with fail
          go_quiet (fail)
          go_wp2_with fail
          exact ⟨⟨k + 1, 0, max b 0, by go_num, rfl, congrArg (Value.int .i64) (by omega), by omega, by omega, by omega, below_drewN HBY.out _, HZ⟩, by simp [intOf]; omega⟩
        · have e1 : (yi == xi) = false := by simpa using he
          by_cases h16 : t = 16
          · have hpe := HQ3.out h16 he
            have HZ := Lib.hid ((HN1.out hpe).symm.trans HR.out)
            have e2 : decide ((t : Int) < 16) = false := by simp; omega
            clear HQ1 HQ2 HQ3 HY1 HN1 HS he hpe HR h16
            go_wp2_with fail
            go_quiet (fail)
            go_wp2_with fail
            exact ⟨⟨k + 1, n + 1, max b (n + 1), by go_num, by go_num, congrArg (Value.int .i64) (by omega), by omega, by omega, by omega, below_drewN HBY.out _, HZ⟩, by simp [intOf]; omega⟩
          · have e2 : (t : Int) < 16 := by omega
            have hpe := HQ2.out he
            rw [← hpe] at HS
            clear HQ1 HQ2 HQ3 he hpe
            cases hpb : pb
            · have HZ := Lib.hid ((HN1.out hpb).symm.trans HR.out)
              subst hpb
              clear HY1 HN1 HR
              go_wp2_with fail
              go_quiet ((go_at_call 55; exact quiet_left (HS.out _)))
              go_wp2_with fail
              exact ⟨⟨k + 1, n + 1, max b (n + 1), by go_num, by go_num, congrArg (Value.int .i64) (by omega), by omega, by omega, by omega, below_drewN HBY.out _, HZ⟩, by simp [intOf]; omega⟩
            · have HZ := Lib.hid ((HY1.out hpb).symm.trans HR.out)
              subst hpb
              clear HY1 HN1 HR
              go_wp2_with fail
              go_quiet ((go_at_call 55; exact quiet_left (HS.out _)))
              go_wp2_with fail
              exact ⟨⟨k + 1, 0, max b 0, by go_num, rfl, congrArg (Value.int .i64) (by omega), by omega, by omega, by omega, below_drewN HBY.out _, HZ⟩, by simp [intOf]; omega⟩
      · have hkn : C.length ≤ k := by rw [← HN.out]; omega
        have HRE := Lib.hid ((HEN.out k n b hkn).symm.trans HR.out)
        clear HEN HYS HNO HR
        go_wp2_with fail
        go_ret
        exact ⟨ret_int (by rw [HRE.out]), HB2.out.trans (hB.mono HB2.out.size)⟩
  · have hnb : nbB l id h = false := by simpa using hnb
    have HTN := Lib.hid (fun (e : Ending) (w' : World) (k : ThrP l id h w e w') => thr_no hnb k)
    rw [run_no (nb_ne hnb)]
    obtain ⟨m, hm⟩ : ∃ m, m = l.length := ⟨_, rfl⟩
    rw [← hm] at HT ⊢
    clear hl hn hwd hnb hm hi
    go_enter Tryd.func25, Tryd.ntmps25
    go_wp2_with fail
    refine (HT.out).mono ?_
    intro e w1 hk
    obtain ⟨rfl, hb1⟩ := HTN.out e w1 hk
    have HB1 := Lib.hid hb1
    clear hk HT HTN hb1
    go_wp2_with fail
    go_ret
    exact ⟨rfl, HB1.out⟩
set_option maxRecDepth 100000 in
set_option maxHeartbeats 1600000 in
theorem rbnd_any (A : Option Addr) (l : List Nd) (c : Nat) (id : Int) (w : World) (hl : Nds w w.heap.size A l) (hn : l.length ≤ 1000) (hwd : ∀ x ∈ l, x.word < 4294967296) (hi : -9223372036854775808 ≤ id ∧ id ≤ 9223372036854775807) :
    Calls Tryd.prog 27 #[.slice A l.length c, .int .i64 id] w fun e w' => e = .returned (.int .i64 (bndR l id : Int)) ∧ Below w.heap.size w w' := by
  have HF := Lib.hid (rfind_any A l c id w hl (by omega))
  have HIS := Lib.hid (fun (W : World) (k : Below w.heap.size w W) => ris_any A l c W ((hl.below k).more k.size) hwd)
  have HRN := Lib.hid (fun (W : World) (k : Below w.heap.size w W) (h : Int) => rrun_any A l c id h W ((hl.below k).more k.size) hn hwd hi)
  unfold FndP at HF
  by_cases hf : plc l id < l.length
  · rw [decide_eq_true hf] at HF
    by_cases hc : chkV l = 0
    · have hb : sfB l id = true := by simp [sfB, hc, hf]
      have HR : Hid (bndR l id = 1 + sumR (runL l (sfN l id)) 17) := Lib.hid (bnd_yes hb)
      have HRE : Hid (∀ t : Nat, t ≤ 16 → runR l id (t : Int) = runL l (sfN l id) t) := Lib.hid fun t ht => run_if hb (by simp [lvB]; omega)
      have HLE := Lib.hid (fun n => sum_le (run_le hc (sfN l id)) n)
      rw [HR.out]
      rw [hc, show ((0 : Int) == 0) = true from rfl] at HIS
      have hNX : Hid (∀ n, sumR (runL l (sfN l id)) (n + 1) = sumR (runL l (sfN l id)) n + runL l (sfN l id) n) := Lib.hid fun _ => rfl
      have hN0 : Hid (sumR (runL l (sfN l id)) 0 = 0) := Lib.hid rfl
      have hRL := Lib.hid (run_le hc (sfN l id))
      generalize runL l (sfN l id) = R at *
      generalize sumR R = SM at *
      generalize runR l id = RR at *
      generalize fndV l id = x at *
      obtain ⟨n, hnn⟩ : ∃ n, n = l.length := ⟨_, rfl⟩
      rw [← hnn] at HF HIS HRN ⊢
      obtain ⟨xi, xk, xw⟩ := x
      clear hl hn hwd hi hf hc hb HR hnn
      go_enter Tryd.func27, Tryd.ntmps27
      go_wp2_with fail
      refine (HF.out).mono ?_
      rintro e w1 ⟨rfl, hb1⟩
      have HB1 := Lib.hid (hb1.trans (((Below.refl w1.heap.size w1).alloc (Nat.le_refl _) (.cells #[.int .i64 xi, .string xk, .int .u32 (xw : Int)] 51)).mono hb1.size))
      clear hb1 HF
      go_wp2_with fail
      refine (HIS.out _ HB1.out).mono ?_
      rintro e w2 ⟨rfl, hb2⟩
      have HB2 := Lib.hid (HB1.out.trans (hb2.mono HB1.out.size))
      clear hb2 HIS HB1
      go_wp2_with fail
      go_loopw [7, 8] (fun vs vk wr => ∃ k : Nat, vk = .int .i64 (k : Int) ∧ k ≤ 17 ∧ vs = .int .i64 (1 + (SM k : Int)) ∧ Below w.heap.size w wr) (fun _ vk _ => 17 - (intOf vk).toNat)
      case atStart => exact ⟨0, rfl, by omega, by rw [hN0.out]; rfl, HB2.out⟩
      case round =>
        obtain ⟨k, rfl, hk, rfl, hB⟩ := hrel
        by_cases hlt : k < 17
        · have i1 : (k : Int) ≤ 16 := by omega
          have HC := Lib.hid (HRN.out wr hB (k : Int))
          have h1 := HLE.out k
          have h2 := hRL.out k
          have h3 := hNX.out k
          rw [HRE.out k (by omega)] at HC
          have HBr := Lib.hid hB
          have es : IntKind.i64.wrap (1 + (SM k : Int) + (R k : Int)) = 1 + (SM (k + 1) : Int) := by rw [IntWalk.i64_in _ (by omega)]; omega
          clear hB h1 h2 h3
          go_wp2_with fail
          refine (HC.out).mono ?_
          rintro e w3 ⟨rfl, hb3⟩
          go_wp2_with fail
          exact ⟨⟨k + 1, by go_num, by omega, by first | rfl | trivial | (exact congrArg (Value.int .i64) es), HBr.out.trans (hb3.mono HBr.out.size)⟩, by simp [intOf]; omega⟩
        · have ek : k = 17 := by omega
          subst ek
          go_wp2_with fail
          go_ret
          exact ⟨ret_int (by omega), hB⟩
    · have hz : (chkV l == 0) = false := by simpa using hc
      have HR : Hid (bndR l id = 0) := Lib.hid (bnd_no (by simp [sfB, hc]))
      rw [HR.out]
      rw [hz] at HIS
      generalize fndV l id = x at *
      obtain ⟨n, hnn⟩ : ∃ n, n = l.length := ⟨_, rfl⟩
      rw [← hnn] at HF HIS HRN ⊢
      obtain ⟨xi, xk, xw⟩ := x
      clear hl hn hwd hi hf hc hz HR hnn HRN
      go_enter Tryd.func27, Tryd.ntmps27
      go_wp2_with fail
      refine (HF.out).mono ?_
      rintro e w1 ⟨rfl, hb1⟩
      have HB1 := Lib.hid (hb1.trans (((Below.refl w1.heap.size w1).alloc (Nat.le_refl _) (.cells #[.int .i64 xi, .string xk, .int .u32 (xw : Int)] 51)).mono hb1.size))
      clear hb1 HF
      go_wp2_with fail
      refine (HIS.out _ HB1.out).mono ?_
      rintro e w2 ⟨rfl, hb2⟩
      have HB2 := Lib.hid (HB1.out.trans (hb2.mono HB1.out.size))
      clear hb2 HIS HB1
      go_wp2_with fail
      go_ret
      exact ⟨rfl, HB2.out⟩
  · have HR : Hid (bndR l id = 0) := Lib.hid (bnd_no (by simp [sfB, hf]))
    rw [HR.out]
    rw [decide_eq_false hf] at HF
    generalize fndV l id = x at *
    obtain ⟨n, hnn⟩ : ∃ n, n = l.length := ⟨_, rfl⟩
    rw [← hnn] at HF ⊢
    obtain ⟨xi, xk, xw⟩ := x
    clear hl hn hwd hi hf HR hnn HRN HIS
    go_enter Tryd.func27, Tryd.ntmps27
    go_wp2_with fail
    refine (HF.out).mono ?_
    rintro e w1 ⟨rfl, hb1⟩
    have HB1 := Lib.hid (hb1.trans (((Below.refl w1.heap.size w1).alloc (Nat.le_refl _) (.cells #[.int .i64 xi, .string xk, .int .u32 (xw : Int)] 51)).mono hb1.size))
    clear hb1 HF
    go_wp2_with fail
    go_ret
    exact ⟨rfl, HB1.out⟩
end Go.Proofs.YtdeamjimjcojhaaDoor
