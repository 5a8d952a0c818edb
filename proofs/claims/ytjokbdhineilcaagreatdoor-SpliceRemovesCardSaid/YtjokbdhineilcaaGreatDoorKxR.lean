/-
  The reference of chapter 10: visits, Insert, Remove. Conditions: what is read can be read.
-/
import Derived.Test.YtjokbdhineilcaaGreatDoorLxJ
import Derived.Test.YtjokbdhineilcaaGreatDoorLuK
import Derived.Test.YtjokbdhineilcaaGreatDoorLqF
import Derived.Test.YtjokbdhineilcaaGreatDoorKqA
import Derived.Test.YtjokbdhineilcaaGreatDoorKdK
import Derived.Test.YtjokbdhineilcaaGreatDoorLdG
import Derived.Deep.DeepCutAuto
import Derived.Deep.CutBlock
import Derived.BigQuiet
import Derived.Deep.RegionHeld3
namespace Go.Proofs.YtjokbdhineilcaaGreatDoor
open Go.RowKit Go.Maps

theorem upN_cons_no {p : Nd → Bool} {y : Nd} {L : List Nd} (h : p y = false) : upN p (y :: L) = upN p L + 1 := by rw [upN]; simp [h]
theorem upN_cons_yes {p : Nd → Bool} {y : Nd} {L : List Nd} (h : p y = true) : upN p (y :: L) = 1 := by rw [upN]; simp [h]
theorem rev_take {l : List Nd} {a : Nat} (h : a < l.length) : (l.take (a + 1)).reverse = l[a] :: (l.take a).reverse := by
  rw [List.take_succ_eq_append_getElem h, List.reverse_append]
  rfl
set_option maxRecDepth 100000 in
set_option maxHeartbeats 1600000 in
theorem rvisits_any (A : Option Addr) (l : List Nd) (c : Nat) (x : Nd) (t : Nat) (w : World) (hl : Nds w w.heap.size A l) (hc : chkV l = 0) (hx : x ∈ l) (ht : t ≤ 16) :
    Calls Tryz.prog 42 #[.slice A l.length c, x.val, .int .i64 (t : Int)] w (fun e w' => e = .returned (.int .i64 (vsV l x t : Int)) ∧ Below w.heap.size w w') := by
  have hln : l.length ≤ 64 := (chkV_zero.1 hc).1
  have hlw := wide_of hc
  have hxw := hlw x hx
  have hnb := (nb_in hc (h := (t : Int)) (by omega) (by omega) hx).1
  have hfs := fnd_self (chkV_zero.1 hc).2.2 hx
  have HTH := Lib.hid (fun (W : World) (j : Below w.heap.size w W) => (by
    have := through_any A l c x.id (t : Int) W ((hl.below j).more j.size) (by omega) (fun y hy => (hlw y hy).2) hxw.1
    refine this.mono fun e w' h => ?_
    rcases h with ⟨h1, _⟩ | ⟨_, A', c', h2, h3, h4⟩
    · rw [hnb] at h1; cases h1
    · rw [hfs] at h2 h3
      exact ⟨A', c', h2, h3, h4⟩ : Calls Tryz.prog 66 #[.slice A l.length c, .int .i64 x.id, .int .i64 (t : Int)] W (fun e w' => ∃ A' c', e = .returned (.tuple #[.slice A' (grp (srt l) (t : Int) x.word).length c', .int .i64 (plc (grp (srt l) (t : Int) x.word) x.id : Int), .bool true]) ∧ Nds w' w'.heap.size A' (grp (srt l) (t : Int) x.word) ∧ Below W.heap.size W w')))
  have hgl : (grp (srt l) (t : Int) x.word).length ≤ 64 := by
    have h1 := grp_len (srt l) (t : Int) x.word
    have h2 : (srt l).length = l.length := (srt_srt l).1.length_eq
    omega
  have hgx : plc (grp (srt l) (t : Int) x.word) x.id < (grp (srt l) (t : Int) x.word).length := plc_mem (grp_self (by omega) (srt_mem.2 hx))
  have HGW : Hid (∀ y ∈ grp (srt l) (t : Int) x.word, y.word < 4294967296) := Lib.hid fun y hy => srt_wd hc y (List.mem_filter.1 hy).1
  have HVS : Hid (vsV l x t = upN (bsB t x) ((grp (srt l) (t : Int) x.word).take (plc (grp (srt l) (t : Int) x.word) x.id)).reverse + upN (bsB t x) ((grp (srt l) (t : Int) x.word).drop (plc (grp (srt l) (t : Int) x.word) x.id + 1))) := Lib.hid rfl
  have HXB := Lib.hid (fun (W : World) => rbit_any x.word (t : Int) W hxw.2)
  have HBI := Lib.hid (fun (y : Nd) (hy : y.word < 4294967296) (W : World) => rbit_any y.word (t : Int) W hy)
  have HDE := Lib.hid (fun (y : Nd) => wbit_dec y.word x.word (t : Int))
  have HBS : Hid (∀ y : Nd, bsB t x y = decide (wbit y.word (t : Int) = wbit x.word (t : Int))) := Lib.hid fun _ => rfl
  generalize vsV l x t = VS at *
  generalize bsB t x = p at *
  generalize grp (srt l) (t : Int) x.word = C at *
  generalize plc C x.id = a at *
  obtain ⟨LN, hLN⟩ : ∃ n, n = l.length := ⟨_, rfl⟩
  rw [← hLN] at HTH ⊢
  obtain ⟨CN, hCN⟩ : ∃ n, n = C.length := ⟨_, rfl⟩
  have HCN := Lib.hid hCN
  rw [← hCN] at HTH hgl hgx
  have HRT := Lib.hid (fun (k : Nat) (h : k < C.length) => rev_take h)
  have HDR := Lib.hid (fun (k : Nat) (h : k < C.length) => List.drop_eq_getElem_cons h)
  have HD0 := Lib.hid (fun (k : Nat) (h : C.length ≤ k) => List.drop_eq_nil_of_le h)
  obtain ⟨w1, hw1⟩ : ∃ w1, w1 = w.alloc (.cells #[.int .i64 x.id, .string x.key, .int .u32 (x.word : Int)] 25) := ⟨_, rfl⟩
  have hk1 : Below w.heap.size w w1 := by rw [hw1]; exact (Below.refl w.heap.size w).alloc (Nat.le_refl _) _
  have hX1 : Has w1 w.heap.size 25 #[.int .i64 x.id, .string x.key, .int .u32 (x.word : Int)] := by rw [hw1]; exact Has.new _ _ _
  have HX1 := Lib.hid hX1
  have HK1 := Lib.hid hk1
  have HT1 := Lib.hid (HTH.out w1 hk1)
  obtain ⟨xi, xk, xw⟩ := x
  show Calls Tryz.prog 42 #[.slice A LN c, .agg #[.int .i64 xi, .string xk, .int .u32 (xw : Int)], .int .i64 (t : Int)] w _
  simp only at *
  have x0 := HX1.out.cell 0
  clear hl hc hx hln hlw hxw hnb hfs hLN hCN hk1 hX1 HTH
  go_enter Tryz.func42, Tryz.ntmps42
  go_upto_region 1 with fail
  rw [← hw1]
  clear hw1
  go_wp2_with fail
  refine (HT1.out).mono ?_
  rintro e w2 ⟨A', c', rfl, hnd, hb2⟩
  have HND := Lib.hid hnd
  have HX2 := Lib.hid (HX1.out.below hb2)
  have HB2 := Lib.hid (HK1.out.trans (hb2.mono HK1.out.size))
  have hwa : IntKind.i64.wrap ((a : Int) - 1) = (a : Int) - 1 := IntWalk.i64_in _ (by omega)
  clear hnd hb2 HT1 HX1 HK1 x0
  obtain ⟨V1, hV1⟩ : ∃ n, n = upN p (C.take a).reverse := ⟨_, rfl⟩
  obtain ⟨V2, hV2⟩ : ∃ n, n = upN p (C.drop (a + 1)) := ⟨_, rfl⟩
  have HV1 := Lib.hid hV1
  have HV2 := Lib.hid hV2
  have HVV : Hid (VS = V1 + V2) := Lib.hid (by rw [HVS.out, hV1, hV2])
  have hV1n : V1 ≤ 64 := by rw [hV1]; have h1 := upN_le p (C.take a).reverse; rw [List.length_reverse, List.length_take] at h1; have := HCN.out; omega
  clear hV1 hV2 HVS
  go_upto_block 0 with fail
  go_cut [10] (fun s wx => s = .int .i64 (V1 : Int) ∧ Below w2.heap.size w2 wx)
  case first =>
    go_wp2_with fail
    go_loopw [10, 11] (fun vn vi wr => ∃ n : Nat, vn = .int .i64 (n : Int) ∧ vi = .int .i64 ((a : Int) - 1 - (n : Int)) ∧ n ≤ a ∧ Hid (V1 = n + upN p (C.take (a - n)).reverse) ∧ Below w2.heap.size w2 wr) (fun vn _ _ => a + 1 - (intOf vn).toNat)
    case atStart => exact ⟨0, rfl, by simp, by omega, Lib.hid (by rw [HV1.out]; simp), Below.refl _ _⟩
    case round =>
      obtain ⟨n, rfl, rfl, hn, HQ, hB⟩ := hrel
      by_cases hna : n = a
      · have i1 : ¬ ((0 : Int) ≤ (a : Int) - 1 - (n : Int)) := by omega
        have e0 : Hid (V1 = n) := Lib.hid (by rw [HQ.out, hna]; simp [upN])
        have HBR := Lib.hid hB
        clear HQ hB
        go_wp2_with fail
        go_meet
        exact ⟨by rw [e0.out]; exact congrArg (fun z : Nat => Value.int .i64 (z : Int)) (by omega), HBR.out⟩
      · have hlt : n < a := by omega
        obtain ⟨k, hk⟩ : ∃ k, k = a - 1 - n := ⟨_, rfl⟩
        have hki : (a : Int) - 1 - (n : Int) = (k : Int) := by omega
        have k1 : k < C.length := by rw [← HCN.out]; omega
        rw [hki]
        obtain ⟨b2, o2, e2, hb2, f1, f2, f3⟩ := HND.out.at_ k1
        have HRQ := Lib.hid (HRT.out k k1)
        have hyw := HGW.out _ (List.getElem_mem k1)
        have HQ2 : Hid (V1 = n + upN p (C.take (k + 1)).reverse) := Lib.hid (by rw [HQ.out, show a - n = k + 1 by omega])
        have f3 := (hB.cell (p := ⟨b2, o2 + k * 3 + 2, none⟩) hb2).trans f3
        generalize C[k] = y at *
        obtain ⟨yi, yk, yw⟩ := y
        simp only at f3 hyw
        have HB1 := Lib.hid (fun (W : World) => HBI.out ⟨yi, yk, yw⟩ hyw W)
        have HEQ := Lib.hid (HDE.out ⟨yi, yk, yw⟩)
        have HPP := Lib.hid (HBS.out ⟨yi, yk, yw⟩)
        simp only at HB1 HEQ HPP
        generalize hpy : p ⟨yi, yk, yw⟩ = py at *
        generalize wbit yw (t : Int) = b1 at *
        generalize wbit xw (t : Int) = b0 at *
        subst e2
        have x2 := (HX2.out.below hB).cell 2
        have HBR := Lib.hid hB
        have i0 : (0 : Int) ≤ (k : Int) := by omega
        have i1 : (k : Int) < (CN : Int) := by omega
        have hw64 : IntKind.i64.wrap ((n : Int) + 1) = (n : Int) + 1 := IntWalk.i64_in _ (by omega)
        have hw65 : IntKind.i64.wrap ((k : Int) - 1) = (k : Int) - 1 := IntWalk.i64_in _ (by omega)
        have HKK := Lib.hid hk
        clear hB f1 f2 HQ hk hki hb2
        go_upto_region 7 with fail
        go_quiet ((go_at_call 67; first | with_reducible exact quiet_left (HB1.out _) | with_reducible exact quiet_left (HXB.out _)))
        have hqb := below_drw (Below.refl wr.heap.size wr) nq
        have HBQ := Lib.hid (HBR.out.trans (hqb.mono HBR.out.size))
        generalize wr.drewN nq = WQ at *
        rw [HEQ.out, ← HPP.out]
        cases py with
        | true =>
          have h2 : Hid (V1 = n + 1) := Lib.hid (by rw [HQ2.out, HRQ.out, upN_cons_yes hpy])
          clear HQ2 hqb
          go_wp2_with fail
          go_meet
          exact ⟨by rw [h2.out]; simp, HBQ.out⟩
        | false =>
          have h2 : Hid (V1 = n + 1 + upN p (C.take k).reverse) := Lib.hid (by rw [HQ2.out, HRQ.out, upN_cons_no hpy]; omega)
          clear HQ2 hqb
          go_wp2_with fail
          exact ⟨⟨n + 1, by simp, by rw [show (a : Int) - 1 - ((n + 1 : Nat) : Int) = (k : Int) - 1 by have := HKK.out; omega], hlt, Lib.hid (by rw [show a - (n + 1) = k by have := HKK.out; omega]; exact h2.out), HBQ.out⟩, by simp [intOf]; omega⟩
  case rest =>
  obtain ⟨rfl, hB⟩ := hcut
  have HBC := Lib.hid hB
  have hwb : IntKind.i64.wrap ((a : Int) + 1) = ((a + 1 : Nat) : Int) := by rw [IntWalk.i64_in _ (by omega)]; omega
  obtain ⟨a1, ha1⟩ : ∃ a1, a1 = a + 1 := ⟨_, rfl⟩
  rw [← ha1] at hwb
  have ha2 : a1 ≤ CN := by omega
  rw [← ha1] at HV2
  clear hB hwa HRT HV1 ha1 hgx
  go_wp2_with fail
  go_loopw [10, 12] (fun vn vi wr => ∃ (n i : Nat), vn = .int .i64 (n : Int) ∧ vi = .int .i64 (i : Int) ∧ a1 ≤ i ∧ i ≤ CN ∧ n ≤ 64 + i ∧ Hid (V1 + V2 = n + upN p (C.drop i)) ∧ Below w2.heap.size w2 wr) (fun _ vi _ => CN + 1 - (intOf vi).toNat)
  case atStart => exact ⟨V1, a1, rfl, rfl, by omega, by omega, by omega, Lib.hid (by rw [HV2.out]), HBC.out⟩
  case round =>
    clear HBC
    obtain ⟨n, i, rfl, rfl, hai, hi, hn, HQ, hB⟩ := hrel
    by_cases hlt : i < CN
    · have k1 : i < C.length := by rw [← HCN.out]; exact hlt
      obtain ⟨b2, o2, e2, hb2, f1, f2, f3⟩ := HND.out.at_ k1
      have HRQ := Lib.hid (HDR.out i k1)
      have hyw := HGW.out _ (List.getElem_mem k1)
      have f3 := (hB.cell (p := ⟨b2, o2 + i * 3 + 2, none⟩) hb2).trans f3
      generalize C[i] = y at *
      obtain ⟨yi, yk, yw⟩ := y
      simp only at f3 hyw
      have HB1 := Lib.hid (fun (W : World) => HBI.out ⟨yi, yk, yw⟩ hyw W)
      have HEQ := Lib.hid (HDE.out ⟨yi, yk, yw⟩)
      have HPP := Lib.hid (HBS.out ⟨yi, yk, yw⟩)
      simp only at HB1 HEQ HPP
      generalize hpy : p ⟨yi, yk, yw⟩ = py at *
      generalize wbit yw (t : Int) = b1 at *
      generalize wbit xw (t : Int) = b0 at *
      subst e2
      have x2 := (HX2.out.below hB).cell 2
      have HBR := Lib.hid hB
      have i0 : (0 : Int) ≤ (i : Int) := by omega
      have i1 : (i : Int) < (CN : Int) := by omega
      have hw64 : IntKind.i64.wrap ((n : Int) + 1) = (n : Int) + 1 := IntWalk.i64_in _ (by omega)
      clear hB f1 f2 hb2
      go_upto_region 12 with fail
      go_quiet ((go_at_call 67; first | with_reducible exact quiet_left (HB1.out _) | with_reducible exact quiet_left (HXB.out _)))
      have hqb := below_drw (Below.refl wr.heap.size wr) nq
      have HBQ := Lib.hid (HBR.out.trans (hqb.mono HBR.out.size))
      generalize wr.drewN nq = WQ at *
      rw [HEQ.out, ← HPP.out]
      cases py with
      | true =>
        have h2 : Hid (((V1 + V2 : Nat) : Int) = (n : Int) + 1) := Lib.hid (by rw [HQ.out, HRQ.out, upN_cons_yes hpy]; simp)
        have HBF := Lib.hid (HB2.out.trans (HBQ.out.mono HB2.out.size))
        clear HQ hqb
        go_wp2_with fail
        go_ret
        exact ⟨by rw [HVV.out, h2.out]; rfl, HBF.out⟩
      | false =>
        have h2 : Hid (V1 + V2 = n + 1 + upN p (C.drop (i + 1))) := Lib.hid (by rw [HQ.out, HRQ.out, upN_cons_no hpy]; omega)
        clear HQ hqb
        go_wp2_with fail
        exact ⟨⟨n + 1, i + 1, by simp, by go_num, by omega, hlt, by omega, h2, HBQ.out⟩, by simp [intOf]; omega⟩
    · have h2 : Hid (((V1 + V2 : Nat) : Int) = (n : Int)) := Lib.hid (by rw [HQ.out, HD0.out i (by rw [← HCN.out]; omega)]; simp [upN])
      have HBF := Lib.hid (HB2.out.trans (hB.mono HB2.out.size))
      have i1 : ¬ (i : Int) < (CN : Int) := by omega
      clear HQ hB
      go_wp2_with fail
      go_ret
      exact ⟨by rw [HVV.out, h2.out]; rfl, HBF.out⟩
/-! what Insert and Remove answer, in one form -/
def insR (l : List Nd) (k : List Ld) (x : Nd) (id h : Int) : List Ld := if insE l k x id h = 0 then bldV (l ++ [x]) (h + 1).toNat else []
def insC (l : List Nd) (k : List Ld) (x : Nd) (id h : Int) : Nat := if insE l k x id h = 0 then insN l k x id h else 0
def remR (l : List Nd) (k : List Ld) (id h : Int) : List Ld := if remE l k id h = 0 then bldV (wout l [id]) (h + 1).toNat else []
def remC (l : List Nd) (k : List Ld) (id h : Int) : Nat := if remE l k id h = 0 then remN k id h else 0
/-- One answer with links, a number and an error. -/
def AnsP (R : List Ld) (n : Nat) (E : Int) (w : World) (e : Ending) (w' : World) : Prop := ∃ v, e = .returned (.tuple #[v, .int .i64 (n : Int), .int .i64 E]) ∧ OwnD w' w.heap.size v R ∧ Below w.heap.size w w'
theorem insP_ans {l : List Nd} {k : List Ld} {x : Nd} {id h : Int} {w w' : World} {e : Ending} (p : InsP l k x id h w e w') : AnsP (insR l k x id h) (insC l k x id h) (insE l k x id h) w e w' := by
  unfold insR insC
  rcases p with ⟨h1, h2, h3⟩ | ⟨h1, v, h2, h3, h4⟩
  · rw [if_neg h1, if_neg h1]
    exact ⟨_, h2, OwnD.nil _ _, h3⟩
  · rw [if_pos h1, if_pos h1, h1]
    exact ⟨v, h2, h3, h4⟩
theorem remP_ans {l : List Nd} {k : List Ld} {id h : Int} {w w' : World} {e : Ending} (p : RemP l k id h w e w') : AnsP (remR l k id h) (remC l k id h) (remE l k id h) w e w' := by
  unfold remR remC
  rcases p with ⟨h1, h2, h3⟩ | ⟨h1, v, h2, h3, h4⟩
  · rw [if_neg h1, if_neg h1]
    exact ⟨_, h2, OwnD.nil _ _, h3⟩
  · rw [if_pos h1, if_pos h1, h1]
    exact ⟨v, h2, h3, h4⟩
theorem insR_len (l : List Nd) (k : List Ld) (x : Nd) (id h : Int) : (insR l k x id h).length ≤ l.length + 1 := by
  unfold insR
  split
  · rw [bld_len, List.length_append]; simp
  · simp
theorem remR_len (l : List Nd) (k : List Ld) (id h : Int) : (remR l k id h).length ≤ l.length := by
  unfold remR
  split
  · rw [bld_len]; exact (wo_sub l [id]).length_le
  · simp
theorem rbuild_yes {A : Option Addr} {l : List Nd} {c m : Nat} {w : World} (hl : Nds w w.heap.size A l) (hc : chkV l = 0) (hm : m ≤ 16) : Calls Tryz.prog 23 #[.slice A l.length c, .int .i64 (m : Int)] w (RBldOk (bldV l (m + 1)) w) := by
  refine (rbuild_any A l c (m : Int) w hl (fun x hx => (wide_of hc x hx).2)).mono fun e w' h => ?_
  have hE : bldE l (m : Int) = 0 := by
    unfold bldE
    rw [if_pos hc, if_pos (by simp [lvB]; omega)]
  rcases h with ⟨h1, _⟩ | ⟨_, h⟩
  · exact absurd hE h1
  · rw [show ((m : Int) + 1).toNat = m + 1 by omega] at h
    exact h
set_option maxRecDepth 100000 in
set_option maxHeartbeats 1600000 in
theorem rremove_any (A A2 : Option Addr) (l : List Nd) (k : List Ld) (c c2 : Nat) (id h : Int) (w : World) (hl : Nds w w.heap.size A l) (hk : Lds w w.heap.size A2 k) (hkn : k.length ≤ 1000000) (hwd : ∀ y ∈ l, y.word < 4294967296) (hln0 : l.length ≤ 1000) (hid : I64 id) :
    Calls Tryz.prog 18 #[.slice A l.length c, .slice A2 k.length c2, .int .i64 id, .int .i64 h] w (RemP l k id h w) := by
  have HI := Lib.hid (fun (W : World) => rLevel_any h W)
  have HE := Lib.hid (rexact_any A A2 l k c c2 h w hl hk hkn hwd)
  have HFD := Lib.hid (fun (W : World) (j : Below w.heap.size w W) => rfind_any A l c id W ((hl.below j).more j.size) (by omega))
  rcases remE_cases l k id h with ⟨h1, he⟩ | ⟨h1, h2, he⟩ | ⟨h1, h2, h3, he⟩ | ⟨h1, h2, h3, he⟩
  · refine (show Calls Tryz.prog 18 _ w (ErrI 2 w) from ?_).mono fun e w' k => .inl ⟨by rw [he]; decide, by rw [he]; exact k⟩
    rw [h1] at HI
    clear hl hk hkn hwd h1 he HE HFD hln0
    generalize l.length = an
    generalize k.length = kn
    go_enter Tryz.func18, Tryz.ntmps18
    go_wp2_with fail
    refine (HI.out _).mono ?_
    rintro e w2 ⟨rfl, rfl⟩
    go_wp2_with fail
    go_ret3
    exact ⟨rfl, Below.refl _ _⟩
  · refine (show Calls Tryz.prog 18 _ w (ErrI 1 w) from ?_).mono fun e w' k => .inl ⟨by rw [he]; decide, by rw [he]; exact k⟩
    rw [h1] at HI
    rw [h2] at HE
    clear hl hk hkn hwd h1 h2 he HFD hln0
    generalize l.length = an at *
    generalize k.length = kn at *
    go_enter Tryz.func18, Tryz.ntmps18
    go_wp2_with fail
    refine (HI.out _).mono ?_
    rintro e w2 ⟨rfl, rfl⟩
    go_wp2_with fail
    refine (HE.out).mono ?_
    rintro e w2 ⟨rfl, hb2⟩
    have HK2 := Lib.hid hb2
    clear hb2 HE
    go_wp2_with fail
    go_ret3
    exact ⟨rfl, HK2.out⟩
  · refine (show Calls Tryz.prog 18 _ w (ErrI 6 w) from ?_).mono fun e w' k => .inl ⟨by rw [he]; decide, by rw [he]; exact k⟩
    rw [h1] at HI
    rw [h2] at HE
    unfold FndP at HFD
    rw [decide_eq_false h3] at HFD
    clear hl hk hkn hwd h1 h2 h3 he hln0
    generalize l.length = an at *
    generalize k.length = kn at *
    generalize fndV l id = y at *
    obtain ⟨yi, yk, yw⟩ := y
    go_enter Tryz.func18, Tryz.ntmps18
    go_wp2_with fail
    refine (HI.out _).mono ?_
    rintro e w2 ⟨rfl, rfl⟩
    go_wp2_with fail
    refine (HE.out).mono ?_
    rintro e w2 ⟨rfl, hb2⟩
    have HK2 := Lib.hid hb2
    have HF2 := Lib.hid (HFD.out w2 hb2)
    clear hb2 HE HFD
    go_wp2_with fail
    refine (HF2.out).mono ?_
    rintro e w3 ⟨rfl, hb3⟩
    have HK3 := Lib.hid (HK2.out.trans (hb3.mono HK2.out.size))
    have HK4 := Lib.hid (HK3.out.trans (((Below.refl w3.heap.size w3).alloc (Nat.le_refl _) (.cells #[.int .i64 yi, .string yk, .int .u32 (yw : Int)] 25)).mono HK3.out.size))
    clear hb3 HF2 HK2 HK3
    go_wp2_with fail
    go_ret3
    exact ⟨rfl, HK4.out⟩
  · obtain ⟨m, rfl, hm⟩ := lvB_is h1
    obtain ⟨hl0, ek⟩ := exa_is h2
    have hr0 : chkV (wout l [id]) = 0 := chk_sub hl0 (wo_sub _ _)
    have hrw := wide_of hr0
    refine (show Calls Tryz.prog 18 _ w (InsOk (bldV (wout l [id]) (m + 1)) (sumR (fun t => nzK (atV k id (t : Int))) (m + 1)) w) from ?_).mono fun e w' k => .inr ⟨he, by
      unfold remN
      rw [show ((m : Int) + 1).toNat = m + 1 by omega]
      exact k⟩
    rw [h1] at HI
    rw [h2] at HE
    unfold FndP at HFD
    rw [decide_eq_true h3] at HFD
    have HAT := Lib.hid (fun (t : Nat) (W : World) (j : Below w.heap.size w W) => rat_any A2 k c2 id (t : Int) W ((hk.below j).more j.size) (by unfold maxLen; omega))
    unfold AtP at HAT
    have HNZ := Lib.hid (fun (t : Nat) => nzK_parts (atV k id (t : Int)))
    have HWO := Lib.hid (fun (W : World) (j : Below w.heap.size w W) (A3 : Option Addr) (c3 : Nat) (h : Ins W W.heap.size A3 [id]) => rwithout_any A A3 l c c3 [id] W ((hl.below j).more j.size) h hln0 (by simp))
    have HBD := Lib.hid (fun (W : World) (A3 : Option Addr) (c3 : Nat) (h : Nds W W.heap.size A3 (wout l [id])) => rbuild_yes (m := m) (c := c3) h hr0 hm)
    have HIW := Lib.hid hid
    obtain ⟨nz, hnz⟩ : ∃ f : Nat → Nat, f = fun (t : Nat) => nzK (atV k id (t : Int)) := ⟨_, rfl⟩
    obtain ⟨lk, hlk⟩ : ∃ f : Nat → Lk, f = fun (t : Nat) => atV k id (t : Int) := ⟨_, rfl⟩
    have e1 : ∀ t : Nat, nzK (atV k id (t : Int)) = nz t := fun t => by rw [hnz]
    have e2 : ∀ t : Nat, atV k id (t : Int) = lk t := fun t => by rw [hlk]
    simp only [e1] at HNZ ⊢
    simp only [e2] at HAT HNZ
    generalize bldV (wout l [id]) (m + 1) = RB at *
    generalize wout l [id] = rs at *
    generalize fndV l id = y at *
    obtain ⟨yi, yk, yw⟩ := y
    clear hl hk hkn hwd h1 h2 h3 he hln0 hl0 ek hr0 hrw hnz hlk e1 e2 hid
    generalize l.length = an at *
    generalize k.length = kn at *
    obtain ⟨RN, hRN⟩ : ∃ n, n = rs.length := ⟨_, rfl⟩
    have HRN := Lib.hid hRN
    rw [← hRN] at HBD
    clear hRN
    go_enter Tryz.func18, Tryz.ntmps18
    go_wp2_with fail
    refine (HI.out _).mono ?_
    rintro e w2 ⟨rfl, rfl⟩
    go_wp2_with fail
    refine (HE.out).mono ?_
    rintro e w2 ⟨rfl, hb2⟩
    have HK2 := Lib.hid hb2
    have HF2 := Lib.hid (HFD.out w2 hb2)
    clear hb2 HE HFD
    go_wp2_with fail
    refine (HF2.out).mono ?_
    rintro e w3 ⟨rfl, hb3⟩
    have HK3 := Lib.hid (HK2.out.trans (hb3.mono HK2.out.size))
    have HK4 := Lib.hid (HK3.out.trans (((Below.refl w3.heap.size w3).alloc (Nat.le_refl _) (.cells #[.int .i64 yi, .string yk, .int .u32 (yw : Int)] 25)).mono HK3.out.size))
    clear hb3 HF2 HK2 HK3
    go_upto_region 8 with fail
    obtain ⟨w4, hw4⟩ : ∃ w4, w4 = w3.alloc (.cells #[.int .i64 yi, .string yk, .int .u32 (yw : Int)] 25) := ⟨_, rfl⟩
    rw [← hw4] at HK4 ⊢
    clear hw4
    go_wp2_with fail
    go_loopw [13, 14] (fun vn vt wr => ∃ (n t : Nat), vn = .int .i64 (n : Int) ∧ vt = .int .i64 (t : Int) ∧ t ≤ m + 1 ∧ n ≤ 2 * t ∧ Hid (n = sumR nz t) ∧ Below w.heap.size w wr) (fun _ vt _ => m + 1 - (intOf vt).toNat)
    case atStart => exact ⟨0, 0, rfl, rfl, by omega, by omega, Lib.hid rfl, HK4.out⟩
    case round =>
      clear HK4
      obtain ⟨n, t, rfl, rfl, ht, hn, HQ, hB⟩ := hrel
      by_cases hlt : t < m + 1
      · have i1 : (t : Int) ≤ (m : Int) := by omega
        have HAT1 := Lib.hid (HAT.out t wr hB)
        have HZ := Lib.hid (HNZ.out t)
        have HSU : Hid (sumR nz (t + 1) = n + nz t) := Lib.hid (by rw [HQ.out, sumR])
        have HBR := Lib.hid hB
        generalize lk t = y at *
        obtain ⟨yl, yr⟩ := y
        simp only at HZ
        have hw1 : IntKind.i64.wrap ((n : Int) + 1) = (n : Int) + 1 := IntWalk.i64_in _ (by omega)
        have hw2 : IntKind.i64.wrap ((n : Int) + 1 + 1) = (n : Int) + 1 + 1 := IntWalk.i64_in _ (by omega)
        clear hB HQ
        go_wp2_with fail
        refine (HAT1.out).mono ?_
        rintro e wa ⟨rfl, hba⟩
        have HBA := Lib.hid ((HBR.out.trans (hba.mono HBR.out.size)).trans (((Below.refl wa.heap.size wa).alloc (Nat.le_refl _) (.cells #[.int .i64 yl, .int .i64 yr] 53)).mono (Nat.le_trans HBR.out.size hba.size)))
        have hY := Has.new wa 53 #[.int .i64 yl, .int .i64 yr]
        have y0 := hY.cell 0
        have y1 := hY.cell 1
        clear hba HAT1 HBR hY
        by_cases h1 : yl = 0
        · have hz1 : (yl != 0) = false := by simp [h1]
          by_cases h2 : yr = 0
          · have hz2 : (yr != 0) = false := by simp [h2]
            have HE : Hid (nz t = 0) := Lib.hid (by rw [HZ.out, if_pos h1, if_pos h2])
            clear h1 h2
            go_wp2_with fail
            exact ⟨⟨n, t + 1, rfl, by go_num, hlt, by omega, Lib.hid (by rw [HSU.out, HE.out]; rfl), HBA.out⟩, by simp [intOf]; omega⟩
          · have hz2 : (yr != 0) = true := by simp [h2]
            have HE : Hid (nz t = 1) := Lib.hid (by rw [HZ.out, if_pos h1, if_neg h2])
            clear h1 h2
            go_wp2_with fail
            exact ⟨⟨n + 1, t + 1, by simp, by go_num, hlt, by omega, Lib.hid (by rw [HSU.out, HE.out]), HBA.out⟩, by simp [intOf]; omega⟩
        · have hz1 : (yl != 0) = true := by simp [h1]
          by_cases h2 : yr = 0
          · have hz2 : (yr != 0) = false := by simp [h2]
            have HE : Hid (nz t = 1) := Lib.hid (by rw [HZ.out, if_neg h1, if_pos h2])
            clear h1 h2
            go_wp2_with fail
            exact ⟨⟨n + 1, t + 1, by simp, by go_num, hlt, by omega, Lib.hid (by rw [HSU.out, HE.out]), HBA.out⟩, by simp [intOf]; omega⟩
          · have hz2 : (yr != 0) = true := by simp [h2]
            have HE : Hid (nz t = 2) := Lib.hid (by rw [HZ.out, if_neg h1, if_neg h2])
            clear h1 h2
            go_wp2_with fail
            exact ⟨⟨n + 2, t + 1, by simp; omega, by go_num, hlt, by omega, Lib.hid (by rw [HSU.out, HE.out]), HBA.out⟩, by simp [intOf]; omega⟩
      · have i1 : ¬ (t : Int) ≤ (m : Int) := by omega
        have et : t = m + 1 := by omega
        have HNN : Hid (((sumR nz (m + 1) : Nat) : Int) = (n : Int)) := Lib.hid (by rw [HQ.out, et])
        have HBR := Lib.hid hB
        clear HQ hB et
        go_wp2_with fail
        obtain ⟨wb, hwb⟩ : ∃ wb, wb = wr.alloc (.cells #[.int .i64 id] 3) := ⟨_, rfl⟩
        have hkb : Below wr.heap.size wr wb := by rw [hwb]; exact (Below.refl wr.heap.size wr).alloc (Nat.le_refl _) _
        have hXb : Has wb wr.heap.size 3 #[.int .i64 id] := by rw [hwb]; exact Has.new _ _ _
        have HBb := Lib.hid (HBR.out.trans (hkb.mono HBR.out.size))
        have HWOb := Lib.hid (HWO.out wb HBb.out (some ⟨wr.heap.size, 0, none⟩) 1 (one_int10 HIW.out hXb))
        rw [← hwb]
        clear hkb hXb hwb HBR HWO
        refine (HWOb.out).mono ?_
        rintro e wc ⟨A6, c6, rfl, ho6, hb6⟩
        obtain ⟨_, _, er, hnd6⟩ := ho6.read
        injection er with e1 e3 e2
        clear e3
        subst e1 e2
        rw [← HRN.out]
        have HBc := Lib.hid (HBb.out.trans (hb6.mono HBb.out.size))
        have HBDc := Lib.hid (HBD.out wc A6 c6 hnd6)
        clear ho6 hnd6 hb6 HWOb HBb HBD
        go_wp2_with fail
        refine (HBDc.out).mono ?_
        rintro e wd ⟨v, rfl, hov, hbd⟩
        have HOV := Lib.hid (hov.low_ HBc.out.size)
        have HBd := Lib.hid (HBc.out.trans (hbd.mono HBc.out.size))
        clear hov hbd HBDc HBc
        go_wp2_with fail
        go_ret3
        exact ⟨v, by rw [HNN.out]; rfl, HOV.out, HBd.out⟩
end Go.Proofs.YtjokbdhineilcaaGreatDoor
