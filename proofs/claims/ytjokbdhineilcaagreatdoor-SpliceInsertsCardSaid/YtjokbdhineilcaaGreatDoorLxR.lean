/-
  The reference of chapter 10: visits, Insert, Remove. Conditions: what is read can be read.
  The reference of chapter 10: Insert; OddRoster of a list that is not empty. Conditions: what is read can be read.
-/
import Derived.Test.YtjokbdhineilcaaGreatDoorLxJ
import Derived.Test.YtjokbdhineilcaaGreatDoorLuK
import Derived.Test.YtjokbdhineilcaaGreatDoorLqF
import Derived.Test.YtjokbdhineilcaaGreatDoorKqA
import Derived.Test.YtjokbdhineilcaaGreatDoorKdK
import Derived.Test.YtjokbdhineilcaaGreatDoorLdG
import Derived.Deep.DeepCutAuto
import Derived.Deep.CutBlock
import Derived.BigQuiet
import Derived.Deep.RegionHeld3
import Derived.Test.YtjokbdhineilcaaGreatDoorKhU
import Derived.Deep.RegionLaw
namespace Go.Proofs.YtjokbdhineilcaaGreatDoor
section
open Go.RowKit Go.Maps

theorem upN_cons_no {p : Nd → Bool} {y : Nd} {L : List Nd} (h : p y = false) : upN p (y :: L) = upN p L + 1 := by rw [upN]; simp [h]
theorem upN_cons_yes {p : Nd → Bool} {y : Nd} {L : List Nd} (h : p y = true) : upN p (y :: L) = 1 := by rw [upN]; simp [h]
theorem rev_take {l : List Nd} {a : Nat} (h : a < l.length) : (l.take (a + 1)).reverse = l[a] :: (l.take a).reverse := by
  rw [List.take_succ_eq_append_getElem h, List.reverse_append]
  rfl
set_option maxRecDepth 100000 in
set_option maxHeartbeats 1600000 in
theorem rvisits_any (A : Option Addr) (l : List Nd) (c : Nat) (x : Nd) (t : Nat) (w : World) (hl : Nds w w.heap.size A l) (hc : chkV l = 0) (hx : x ∈ l) (ht : t ≤ 16) :
    Calls Tryz.prog 42 #[.slice A l.length c, x.val, .int .i64 (t : Int)] w (fun e w' => e = .returned (.int .i64 (vsV l x t : Int)) ∧ Below w.heap.size w w') := by
  have hln : l.length ≤ 64 := (chkV_zero.1 hc).1
  have hlw := wide_of hc
  have hxw := hlw x hx
  have hnb := (nb_in hc (h := (t : Int)) (by omega) (by omega) hx).1
  have hfs := fnd_self (chkV_zero.1 hc).2.2 hx
  have HTH := Lib.hid (fun (W : World) (j : Below w.heap.size w W) => (by
    have := through_any A l c x.id (t : Int) W ((hl.below j).more j.size) (by omega) (fun y hy => (hlw y hy).2) hxw.1
    refine this.mono fun e w' h => ?_
    rcases h with ⟨h1, _⟩ | ⟨_, A', c', h2, h3, h4⟩
    · rw [hnb] at h1; cases h1
    · rw [hfs] at h2 h3
      exact ⟨A', c', h2, h3, h4⟩ : Calls Tryz.prog 66 #[.slice A l.length c, .int .i64 x.id, .int .i64 (t : Int)] W (fun e w' => ∃ A' c', e = .returned (.tuple #[.slice A' (grp (srt l) (t : Int) x.word).length c', .int .i64 (plc (grp (srt l) (t : Int) x.word) x.id : Int), .bool true]) ∧ Nds w' w'.heap.size A' (grp (srt l) (t : Int) x.word) ∧ Below W.heap.size W w')))
  have hgl : (grp (srt l) (t : Int) x.word).length ≤ 64 := by
    have h1 := grp_len (srt l) (t : Int) x.word
    have h2 : (srt l).length = l.length := (srt_srt l).1.length_eq
    omega
  have hgx : plc (grp (srt l) (t : Int) x.word) x.id < (grp (srt l) (t : Int) x.word).length := plc_mem (grp_self (by omega) (srt_mem.2 hx))
  have HGW : Hid (∀ y ∈ grp (srt l) (t : Int) x.word, y.word < 4294967296) := Lib.hid fun y hy => srt_wd hc y (List.mem_filter.1 hy).1
  have HVS : Hid (vsV l x t = upN (bsB t x) ((grp (srt l) (t : Int) x.word).take (plc (grp (srt l) (t : Int) x.word) x.id)).reverse + upN (bsB t x) ((grp (srt l) (t : Int) x.word).drop (plc (grp (srt l) (t : Int) x.word) x.id + 1))) := Lib.hid rfl
  have HXB := Lib.hid (fun (W : World) => rbit_any x.word (t : Int) W hxw.2)
  have HBI := Lib.hid (fun (y : Nd) (hy : y.word < 4294967296) (W : World) => rbit_any y.word (t : Int) W hy)
  have HDE := Lib.hid (fun (y : Nd) => wbit_dec y.word x.word (t : Int))
  have HBS : Hid (∀ y : Nd, bsB t x y = decide (wbit y.word (t : Int) = wbit x.word (t : Int))) := Lib.hid fun _ => rfl
  generalize vsV l x t = VS at *
  generalize bsB t x = p at *
  generalize grp (srt l) (t : Int) x.word = C at *
  generalize plc C x.id = a at *
  obtain ⟨LN, hLN⟩ : ∃ n, n = l.length := ⟨_, rfl⟩
  rw [← hLN] at HTH ⊢
  obtain ⟨CN, hCN⟩ : ∃ n, n = C.length := ⟨_, rfl⟩
  have HCN := Lib.hid hCN
  rw [← hCN] at HTH hgl hgx
  have HRT := Lib.hid (fun (k : Nat) (h : k < C.length) => rev_take h)
  have HDR := Lib.hid (fun (k : Nat) (h : k < C.length) => List.drop_eq_getElem_cons h)
  have HD0 := Lib.hid (fun (k : Nat) (h : C.length ≤ k) => List.drop_eq_nil_of_le h)
  obtain ⟨w1, hw1⟩ : ∃ w1, w1 = w.alloc (.cells #[.int .i64 x.id, .string x.key, .int .u32 (x.word : Int)] 25) := ⟨_, rfl⟩
  have hk1 : Below w.heap.size w w1 := by rw [hw1]; exact (Below.refl w.heap.size w).alloc (Nat.le_refl _) _
  have hX1 : Has w1 w.heap.size 25 #[.int .i64 x.id, .string x.key, .int .u32 (x.word : Int)] := by rw [hw1]; exact Has.new _ _ _
  have HX1 := Lib.hid hX1
  have HK1 := Lib.hid hk1
  have HT1 := Lib.hid (HTH.out w1 hk1)
  obtain ⟨xi, xk, xw⟩ := x
  show Calls Tryz.prog 42 #[.slice A LN c, .agg #[.int .i64 xi, .string xk, .int .u32 (xw : Int)], .int .i64 (t : Int)] w _
  simp only at *
  have x0 := HX1.out.cell 0
  clear hl hc hx hln hlw hxw hnb hfs hLN hCN hk1 hX1 HTH
  go_enter Tryz.func42, Tryz.ntmps42
  go_upto_region 1 with fail
  rw [← hw1]
  clear hw1
  go_wp2_with fail
  refine (HT1.out).mono ?_
  rintro e w2 ⟨A', c', rfl, hnd, hb2⟩
  have HND := Lib.hid hnd
  have HX2 := Lib.hid (HX1.out.below hb2)
  have HB2 := Lib.hid (HK1.out.trans (hb2.mono HK1.out.size))
  have hwa : IntKind.i64.wrap ((a : Int) - 1) = (a : Int) - 1 := IntWalk.i64_in _ (by omega)
  clear hnd hb2 HT1 HX1 HK1 x0
  obtain ⟨V1, hV1⟩ : ∃ n, n = upN p (C.take a).reverse := ⟨_, rfl⟩
  obtain ⟨V2, hV2⟩ : ∃ n, n = upN p (C.drop (a + 1)) := ⟨_, rfl⟩
  have HV1 := Lib.hid hV1
  have HV2 := Lib.hid hV2
  have HVV : Hid (VS = V1 + V2) := Lib.hid (by rw [HVS.out, hV1, hV2])
  have hV1n : V1 ≤ 64 := by rw [hV1]; have h1 := upN_le p (C.take a).reverse; rw [List.length_reverse, List.length_take] at h1; have := HCN.out; omega
  clear hV1 hV2 HVS
  go_upto_block 0 with fail
  go_cut [10] (fun s wx => s = .int .i64 (V1 : Int) ∧ Below w2.heap.size w2 wx)
  case first =>
    go_wp2_with fail
    go_loopw [10, 11] (fun vn vi wr => ∃ n : Nat, vn = .int .i64 (n : Int) ∧ vi = .int .i64 ((a : Int) - 1 - (n : Int)) ∧ n ≤ a ∧ Hid (V1 = n + upN p (C.take (a - n)).reverse) ∧ Below w2.heap.size w2 wr) (fun vn _ _ => a + 1 - (intOf vn).toNat)
    case atStart => exact ⟨0, rfl, by simp, by omega, Lib.hid (by rw [HV1.out]; simp), Below.refl _ _⟩
    case round =>
      obtain ⟨n, rfl, rfl, hn, HQ, hB⟩ := hrel
      by_cases hna : n = a
      · have i1 : ¬ ((0 : Int) ≤ (a : Int) - 1 - (n : Int)) := by omega
        have e0 : Hid (V1 = n) := Lib.hid (by rw [HQ.out, hna]; simp [upN])
        have HBR := Lib.hid hB
        clear HQ hB
        go_wp2_with fail
        go_meet
        exact ⟨by rw [e0.out]; exact congrArg (fun z : Nat => Value.int .i64 (z : Int)) (by omega), HBR.out⟩
      · have hlt : n < a := by omega
        obtain ⟨k, hk⟩ : ∃ k, k = a - 1 - n := ⟨_, rfl⟩
        have hki : (a : Int) - 1 - (n : Int) = (k : Int) := by omega
        have k1 : k < C.length := by rw [← HCN.out]; omega
        rw [hki]
        obtain ⟨b2, o2, e2, hb2, f1, f2, f3⟩ := HND.out.at_ k1
        have HRQ := Lib.hid (HRT.out k k1)
        have hyw := HGW.out _ (List.getElem_mem k1)
        have HQ2 : Hid (V1 = n + upN p (C.take (k + 1)).reverse) := Lib.hid (by rw [HQ.out, show a - n = k + 1 by omega])
        have f3 := (hB.cell (p := ⟨b2, o2 + k * 3 + 2, none⟩) hb2).trans f3
        generalize C[k] = y at *
        obtain ⟨yi, yk, yw⟩ := y
        simp only at f3 hyw
        have HB1 := Lib.hid (fun (W : World) => HBI.out ⟨yi, yk, yw⟩ hyw W)
        have HEQ := Lib.hid (HDE.out ⟨yi, yk, yw⟩)
        have HPP := Lib.hid (HBS.out ⟨yi, yk, yw⟩)
        simp only at HB1 HEQ HPP
        generalize hpy : p ⟨yi, yk, yw⟩ = py at *
        generalize wbit yw (t : Int) = b1 at *
        generalize wbit xw (t : Int) = b0 at *
        subst e2
        have x2 := (HX2.out.below hB).cell 2
        have HBR := Lib.hid hB
        have i0 : (0 : Int) ≤ (k : Int) := by omega
        have i1 : (k : Int) < (CN : Int) := by omega
        have hw64 : IntKind.i64.wrap ((n : Int) + 1) = (n : Int) + 1 := IntWalk.i64_in _ (by omega)
        have hw65 : IntKind.i64.wrap ((k : Int) - 1) = (k : Int) - 1 := IntWalk.i64_in _ (by omega)
        have HKK := Lib.hid hk
        clear hB f1 f2 HQ hk hki hb2
        go_upto_region 7 with fail
        go_quiet ((go_at_call 67; first | with_reducible exact quiet_left (HB1.out _) | with_reducible exact quiet_left (HXB.out _)))
        have hqb := below_drw (Below.refl wr.heap.size wr) nq
        have HBQ := Lib.hid (HBR.out.trans (hqb.mono HBR.out.size))
        generalize wr.drewN nq = WQ at *
        rw [HEQ.out, ← HPP.out]
        cases py with
        | true =>
          have h2 : Hid (V1 = n + 1) := Lib.hid (by rw [HQ2.out, HRQ.out, upN_cons_yes hpy])
          clear HQ2 hqb
          go_wp2_with fail
          go_meet
          exact ⟨by rw [h2.out]; simp, HBQ.out⟩
        | false =>
          have h2 : Hid (V1 = n + 1 + upN p (C.take k).reverse) := Lib.hid (by rw [HQ2.out, HRQ.out, upN_cons_no hpy]; omega)
          clear HQ2 hqb
          go_wp2_with fail
          exact ⟨⟨n + 1, by simp, by rw [show (a : Int) - 1 - ((n + 1 : Nat) : Int) = (k : Int) - 1 by have := HKK.out; omega], hlt, Lib.hid (by rw [show a - (n + 1) = k by have := HKK.out; omega]; exact h2.out), HBQ.out⟩, by simp [intOf]; omega⟩
  case rest =>
  obtain ⟨rfl, hB⟩ := hcut
  have HBC := Lib.hid hB
  have hwb : IntKind.i64.wrap ((a : Int) + 1) = ((a + 1 : Nat) : Int) := by rw [IntWalk.i64_in _ (by omega)]; omega
  obtain ⟨a1, ha1⟩ : ∃ a1, a1 = a + 1 := ⟨_, rfl⟩
  rw [← ha1] at hwb
  have ha2 : a1 ≤ CN := by omega
  rw [← ha1] at HV2
  clear hB hwa HRT HV1 ha1 hgx
  go_wp2_with fail
  go_loopw [10, 12] (fun vn vi wr => ∃ (n i : Nat), vn = .int .i64 (n : Int) ∧ vi = .int .i64 (i : Int) ∧ a1 ≤ i ∧ i ≤ CN ∧ n ≤ 64 + i ∧ Hid (V1 + V2 = n + upN p (C.drop i)) ∧ Below w2.heap.size w2 wr) (fun _ vi _ => CN + 1 - (intOf vi).toNat)
  case atStart => exact ⟨V1, a1, rfl, rfl, by omega, by omega, by omega, Lib.hid (by rw [HV2.out]), HBC.out⟩
  case round =>
    clear HBC
    obtain ⟨n, i, rfl, rfl, hai, hi, hn, HQ, hB⟩ := hrel
    by_cases hlt : i < CN
    · have k1 : i < C.length := by rw [← HCN.out]; exact hlt
      obtain ⟨b2, o2, e2, hb2, f1, f2, f3⟩ := HND.out.at_ k1
      have HRQ := Lib.hid (HDR.out i k1)
      have hyw := HGW.out _ (List.getElem_mem k1)
      have f3 := (hB.cell (p := ⟨b2, o2 + i * 3 + 2, none⟩) hb2).trans f3
      generalize C[i] = y at *
      obtain ⟨yi, yk, yw⟩ := y
      simp only at f3 hyw
      have HB1 := Lib.hid (fun (W : World) => HBI.out ⟨yi, yk, yw⟩ hyw W)
      have HEQ := Lib.hid (HDE.out ⟨yi, yk, yw⟩)
      have HPP := Lib.hid (HBS.out ⟨yi, yk, yw⟩)
      simp only at HB1 HEQ HPP
      generalize hpy : p ⟨yi, yk, yw⟩ = py at *
      generalize wbit yw (t : Int) = b1 at *
      generalize wbit xw (t : Int) = b0 at *
      subst e2
      have x2 := (HX2.out.below hB).cell 2
      have HBR := Lib.hid hB
      have i0 : (0 : Int) ≤ (i : Int) := by omega
      have i1 : (i : Int) < (CN : Int) := by omega
      have hw64 : IntKind.i64.wrap ((n : Int) + 1) = (n : Int) + 1 := IntWalk.i64_in _ (by omega)
      clear hB f1 f2 hb2
      go_upto_region 12 with fail
      go_quiet ((go_at_call 67; first | with_reducible exact quiet_left (HB1.out _) | with_reducible exact quiet_left (HXB.out _)))
      have hqb := below_drw (Below.refl wr.heap.size wr) nq
      have HBQ := Lib.hid (HBR.out.trans (hqb.mono HBR.out.size))
      generalize wr.drewN nq = WQ at *
      rw [HEQ.out, ← HPP.out]
      cases py with
      | true =>
        have h2 : Hid (((V1 + V2 : Nat) : Int) = (n : Int) + 1) := Lib.hid (by rw [HQ.out, HRQ.out, upN_cons_yes hpy]; simp)
        have HBF := Lib.hid (HB2.out.trans (HBQ.out.mono HB2.out.size))
        clear HQ hqb
        go_wp2_with fail
        go_ret
        exact ⟨by rw [HVV.out, h2.out]; rfl, HBF.out⟩
      | false =>
        have h2 : Hid (V1 + V2 = n + 1 + upN p (C.drop (i + 1))) := Lib.hid (by rw [HQ.out, HRQ.out, upN_cons_no hpy]; omega)
        clear HQ hqb
        go_wp2_with fail
        exact ⟨⟨n + 1, i + 1, by simp, by go_num, by omega, hlt, by omega, h2, HBQ.out⟩, by simp [intOf]; omega⟩
    · have h2 : Hid (((V1 + V2 : Nat) : Int) = (n : Int)) := Lib.hid (by rw [HQ.out, HD0.out i (by rw [← HCN.out]; omega)]; simp [upN])
      have HBF := Lib.hid (HB2.out.trans (hB.mono HB2.out.size))
      have i1 : ¬ (i : Int) < (CN : Int) := by omega
      clear HQ hB
      go_wp2_with fail
      go_ret
      exact ⟨by rw [HVV.out, h2.out]; rfl, HBF.out⟩
/-! what Insert and Remove answer, in one form -/
def insR (l : List Nd) (k : List Ld) (x : Nd) (id h : Int) : List Ld := if insE l k x id h = 0 then bldV (l ++ [x]) (h + 1).toNat else []
def insC (l : List Nd) (k : List Ld) (x : Nd) (id h : Int) : Nat := if insE l k x id h = 0 then insN l k x id h else 0
def remR (l : List Nd) (k : List Ld) (id h : Int) : List Ld := if remE l k id h = 0 then bldV (wout l [id]) (h + 1).toNat else []
def remC (l : List Nd) (k : List Ld) (id h : Int) : Nat := if remE l k id h = 0 then remN k id h else 0
/-- One answer with links, a number and an error. -/
def AnsP (R : List Ld) (n : Nat) (E : Int) (w : World) (e : Ending) (w' : World) : Prop := ∃ v, e = .returned (.tuple #[v, .int .i64 (n : Int), .int .i64 E]) ∧ OwnD w' w.heap.size v R ∧ Below w.heap.size w w'
theorem insP_ans {l : List Nd} {k : List Ld} {x : Nd} {id h : Int} {w w' : World} {e : Ending} (p : InsP l k x id h w e w') : AnsP (insR l k x id h) (insC l k x id h) (insE l k x id h) w e w' := by
  unfold insR insC
  rcases p with ⟨h1, h2, h3⟩ | ⟨h1, v, h2, h3, h4⟩
  · rw [if_neg h1, if_neg h1]
    exact ⟨_, h2, OwnD.nil _ _, h3⟩
  · rw [if_pos h1, if_pos h1, h1]
    exact ⟨v, h2, h3, h4⟩
theorem remP_ans {l : List Nd} {k : List Ld} {id h : Int} {w w' : World} {e : Ending} (p : RemP l k id h w e w') : AnsP (remR l k id h) (remC l k id h) (remE l k id h) w e w' := by
  unfold remR remC
  rcases p with ⟨h1, h2, h3⟩ | ⟨h1, v, h2, h3, h4⟩
  · rw [if_neg h1, if_neg h1]
    exact ⟨_, h2, OwnD.nil _ _, h3⟩
  · rw [if_pos h1, if_pos h1, h1]
    exact ⟨v, h2, h3, h4⟩
theorem insR_len (l : List Nd) (k : List Ld) (x : Nd) (id h : Int) : (insR l k x id h).length ≤ l.length + 1 := by
  unfold insR
  split
  · rw [bld_len, List.length_append]; simp
  · simp
theorem remR_len (l : List Nd) (k : List Ld) (id h : Int) : (remR l k id h).length ≤ l.length := by
  unfold remR
  split
  · rw [bld_len]; exact (wo_sub l [id]).length_le
  · simp
theorem rbuild_yes {A : Option Addr} {l : List Nd} {c m : Nat} {w : World} (hl : Nds w w.heap.size A l) (hc : chkV l = 0) (hm : m ≤ 16) : Calls Tryz.prog 23 #[.slice A l.length c, .int .i64 (m : Int)] w (RBldOk (bldV l (m + 1)) w) := by
  refine (rbuild_any A l c (m : Int) w hl (fun x hx => (wide_of hc x hx).2)).mono fun e w' h => ?_
  have hE : bldE l (m : Int) = 0 := by
    unfold bldE
    rw [if_pos hc, if_pos (by simp [lvB]; omega)]
  rcases h with ⟨h1, _⟩ | ⟨_, h⟩
  · exact absurd hE h1
  · rw [show ((m : Int) + 1).toNat = m + 1 by omega] at h
    exact h
set_option maxRecDepth 100000 in
set_option maxHeartbeats 1600000 in
theorem rremove_any (A A2 : Option Addr) (l : List Nd) (k : List Ld) (c c2 : Nat) (id h : Int) (w : World) (hl : Nds w w.heap.size A l) (hk : Lds w w.heap.size A2 k) (hkn : k.length ≤ 1000000) (hwd : ∀ y ∈ l, y.word < 4294967296) (hln0 : l.length ≤ 1000) (hid : I64 id) :
    Calls Tryz.prog 18 #[.slice A l.length c, .slice A2 k.length c2, .int .i64 id, .int .i64 h] w (RemP l k id h w) := by
  have HI := Lib.hid (fun (W : World) => rLevel_any h W)
  have HE := Lib.hid (rexact_any A A2 l k c c2 h w hl hk hkn hwd)
  have HFD := Lib.hid (fun (W : World) (j : Below w.heap.size w W) => rfind_any A l c id W ((hl.below j).more j.size) (by omega))
  rcases remE_cases l k id h with ⟨h1, he⟩ | ⟨h1, h2, he⟩ | ⟨h1, h2, h3, he⟩ | ⟨h1, h2, h3, he⟩
  · refine (show Calls Tryz.prog 18 _ w (ErrI 2 w) from ?_).mono fun e w' k => .inl ⟨by rw [he]; decide, by rw [he]; exact k⟩
    rw [h1] at HI
    clear hl hk hkn hwd h1 he HE HFD hln0
    generalize l.length = an
    generalize k.length = kn
    go_enter Tryz.func18, Tryz.ntmps18
    go_wp2_with fail
    refine (HI.out _).mono ?_
    rintro e w2 ⟨rfl, rfl⟩
    go_wp2_with fail
    go_ret3
    exact ⟨rfl, Below.refl _ _⟩
  · refine (show Calls Tryz.prog 18 _ w (ErrI 1 w) from ?_).mono fun e w' k => .inl ⟨by rw [he]; decide, by rw [he]; exact k⟩
    rw [h1] at HI
    rw [h2] at HE
    clear hl hk hkn hwd h1 h2 he HFD hln0
    generalize l.length = an at *
    generalize k.length = kn at *
    go_enter Tryz.func18, Tryz.ntmps18
    go_wp2_with fail
    refine (HI.out _).mono ?_
    rintro e w2 ⟨rfl, rfl⟩
    go_wp2_with fail
    refine (HE.out).mono ?_
    rintro e w2 ⟨rfl, hb2⟩
    have HK2 := Lib.hid hb2
    clear hb2 HE
    go_wp2_with fail
    go_ret3
    exact ⟨rfl, HK2.out⟩
  · refine (show Calls Tryz.prog 18 _ w (ErrI 6 w) from ?_).mono fun e w' k => .inl ⟨by rw [he]; decide, by rw [he]; exact k⟩
    rw [h1] at HI
    rw [h2] at HE
    unfold FndP at HFD
    rw [decide_eq_false h3] at HFD
    clear hl hk hkn hwd h1 h2 h3 he hln0
    generalize l.length = an at *
    generalize k.length = kn at *
    generalize fndV l id = y at *
    obtain ⟨yi, yk, yw⟩ := y
    go_enter Tryz.func18, Tryz.ntmps18
    go_wp2_with fail
    refine (HI.out _).mono ?_
    rintro e w2 ⟨rfl, rfl⟩
    go_wp2_with fail
    refine (HE.out).mono ?_
    rintro e w2 ⟨rfl, hb2⟩
    have HK2 := Lib.hid hb2
    have HF2 := Lib.hid (HFD.out w2 hb2)
    clear hb2 HE HFD
    go_wp2_with fail
    refine (HF2.out).mono ?_
    rintro e w3 ⟨rfl, hb3⟩
    have HK3 := Lib.hid (HK2.out.trans (hb3.mono HK2.out.size))
    have HK4 := Lib.hid (HK3.out.trans (((Below.refl w3.heap.size w3).alloc (Nat.le_refl _) (.cells #[.int .i64 yi, .string yk, .int .u32 (yw : Int)] 25)).mono HK3.out.size))
    clear hb3 HF2 HK2 HK3
    go_wp2_with fail
    go_ret3
    exact ⟨rfl, HK4.out⟩
  · obtain ⟨m, rfl, hm⟩ := lvB_is h1
    obtain ⟨hl0, ek⟩ := exa_is h2
    have hr0 : chkV (wout l [id]) = 0 := chk_sub hl0 (wo_sub _ _)
    have hrw := wide_of hr0
    refine (show Calls Tryz.prog 18 _ w (InsOk (bldV (wout l [id]) (m + 1)) (sumR (fun t => nzK (atV k id (t : Int))) (m + 1)) w) from ?_).mono fun e w' k => .inr ⟨he, by
      unfold remN
      rw [show ((m : Int) + 1).toNat = m + 1 by omega]
      exact k⟩
    rw [h1] at HI
    rw [h2] at HE
    unfold FndP at HFD
    rw [decide_eq_true h3] at HFD
    have HAT := Lib.hid (fun (t : Nat) (W : World) (j : Below w.heap.size w W) => rat_any A2 k c2 id (t : Int) W ((hk.below j).more j.size) (by unfold maxLen; omega))
    unfold AtP at HAT
    have HNZ := Lib.hid (fun (t : Nat) => nzK_parts (atV k id (t : Int)))
    have HWO := Lib.hid (fun (W : World) (j : Below w.heap.size w W) (A3 : Option Addr) (c3 : Nat) (h : Ins W W.heap.size A3 [id]) => rwithout_any A A3 l c c3 [id] W ((hl.below j).more j.size) h hln0 (by simp))
    have HBD := Lib.hid (fun (W : World) (A3 : Option Addr) (c3 : Nat) (h : Nds W W.heap.size A3 (wout l [id])) => rbuild_yes (m := m) (c := c3) h hr0 hm)
    have HIW := Lib.hid hid
    obtain ⟨nz, hnz⟩ : ∃ f : Nat → Nat, f = fun (t : Nat) => nzK (atV k id (t : Int)) := ⟨_, rfl⟩
    obtain ⟨lk, hlk⟩ : ∃ f : Nat → Lk, f = fun (t : Nat) => atV k id (t : Int) := ⟨_, rfl⟩
    have e1 : ∀ t : Nat, nzK (atV k id (t : Int)) = nz t := fun t => by rw [hnz]
    have e2 : ∀ t : Nat, atV k id (t : Int) = lk t := fun t => by rw [hlk]
    simp only [e1] at HNZ ⊢
    simp only [e2] at HAT HNZ
    generalize bldV (wout l [id]) (m + 1) = RB at *
    generalize wout l [id] = rs at *
    generalize fndV l id = y at *
    obtain ⟨yi, yk, yw⟩ := y
    clear hl hk hkn hwd h1 h2 h3 he hln0 hl0 ek hr0 hrw hnz hlk e1 e2 hid
    generalize l.length = an at *
    generalize k.length = kn at *
    obtain ⟨RN, hRN⟩ : ∃ n, n = rs.length := ⟨_, rfl⟩
    have HRN := Lib.hid hRN
    rw [← hRN] at HBD
    clear hRN
    go_enter Tryz.func18, Tryz.ntmps18
    go_wp2_with fail
    refine (HI.out _).mono ?_
    rintro e w2 ⟨rfl, rfl⟩
    go_wp2_with fail
    refine (HE.out).mono ?_
    rintro e w2 ⟨rfl, hb2⟩
    have HK2 := Lib.hid hb2
    have HF2 := Lib.hid (HFD.out w2 hb2)
    clear hb2 HE HFD
    go_wp2_with fail
    refine (HF2.out).mono ?_
    rintro e w3 ⟨rfl, hb3⟩
    have HK3 := Lib.hid (HK2.out.trans (hb3.mono HK2.out.size))
    have HK4 := Lib.hid (HK3.out.trans (((Below.refl w3.heap.size w3).alloc (Nat.le_refl _) (.cells #[.int .i64 yi, .string yk, .int .u32 (yw : Int)] 25)).mono HK3.out.size))
    clear hb3 HF2 HK2 HK3
    go_upto_region 8 with fail
    obtain ⟨w4, hw4⟩ : ∃ w4, w4 = w3.alloc (.cells #[.int .i64 yi, .string yk, .int .u32 (yw : Int)] 25) := ⟨_, rfl⟩
    rw [← hw4] at HK4 ⊢
    clear hw4
    go_wp2_with fail
    go_loopw [13, 14] (fun vn vt wr => ∃ (n t : Nat), vn = .int .i64 (n : Int) ∧ vt = .int .i64 (t : Int) ∧ t ≤ m + 1 ∧ n ≤ 2 * t ∧ Hid (n = sumR nz t) ∧ Below w.heap.size w wr) (fun _ vt _ => m + 1 - (intOf vt).toNat)
    case atStart => exact ⟨0, 0, rfl, rfl, by omega, by omega, Lib.hid rfl, HK4.out⟩
    case round =>
      clear HK4
      obtain ⟨n, t, rfl, rfl, ht, hn, HQ, hB⟩ := hrel
      by_cases hlt : t < m + 1
      · have i1 : (t : Int) ≤ (m : Int) := by omega
        have HAT1 := Lib.hid (HAT.out t wr hB)
        have HZ := Lib.hid (HNZ.out t)
        have HSU : Hid (sumR nz (t + 1) = n + nz t) := Lib.hid (by rw [HQ.out, sumR])
        have HBR := Lib.hid hB
        generalize lk t = y at *
        obtain ⟨yl, yr⟩ := y
        simp only at HZ
        have hw1 : IntKind.i64.wrap ((n : Int) + 1) = (n : Int) + 1 := IntWalk.i64_in _ (by omega)
        have hw2 : IntKind.i64.wrap ((n : Int) + 1 + 1) = (n : Int) + 1 + 1 := IntWalk.i64_in _ (by omega)
        clear hB HQ
        go_wp2_with fail
        refine (HAT1.out).mono ?_
        rintro e wa ⟨rfl, hba⟩
        have HBA := Lib.hid ((HBR.out.trans (hba.mono HBR.out.size)).trans (((Below.refl wa.heap.size wa).alloc (Nat.le_refl _) (.cells #[.int .i64 yl, .int .i64 yr] 53)).mono (Nat.le_trans HBR.out.size hba.size)))
        have hY := Has.new wa 53 #[.int .i64 yl, .int .i64 yr]
        have y0 := hY.cell 0
        have y1 := hY.cell 1
        clear hba HAT1 HBR hY
        by_cases h1 : yl = 0
        · have hz1 : (yl != 0) = false := by simp [h1]
          by_cases h2 : yr = 0
          · have hz2 : (yr != 0) = false := by simp [h2]
            have HE : Hid (nz t = 0) := Lib.hid (by rw [HZ.out, if_pos h1, if_pos h2])
            clear h1 h2
            go_wp2_with fail
            exact ⟨⟨n, t + 1, rfl, by go_num, hlt, by omega, Lib.hid (by rw [HSU.out, HE.out]; rfl), HBA.out⟩, by simp [intOf]; omega⟩
          · have hz2 : (yr != 0) = true := by simp [h2]
            have HE : Hid (nz t = 1) := Lib.hid (by rw [HZ.out, if_pos h1, if_neg h2])
            clear h1 h2
            go_wp2_with fail
            exact ⟨⟨n + 1, t + 1, by simp, by go_num, hlt, by omega, Lib.hid (by rw [HSU.out, HE.out]), HBA.out⟩, by simp [intOf]; omega⟩
        · have hz1 : (yl != 0) = true := by simp [h1]
          by_cases h2 : yr = 0
          · have hz2 : (yr != 0) = false := by simp [h2]
            have HE : Hid (nz t = 1) := Lib.hid (by rw [HZ.out, if_neg h1, if_pos h2])
            clear h1 h2
            go_wp2_with fail
            exact ⟨⟨n + 1, t + 1, by simp, by go_num, hlt, by omega, Lib.hid (by rw [HSU.out, HE.out]), HBA.out⟩, by simp [intOf]; omega⟩
          · have hz2 : (yr != 0) = true := by simp [h2]
            have HE : Hid (nz t = 2) := Lib.hid (by rw [HZ.out, if_neg h1, if_neg h2])
            clear h1 h2
            go_wp2_with fail
            exact ⟨⟨n + 2, t + 1, by simp; omega, by go_num, hlt, by omega, Lib.hid (by rw [HSU.out, HE.out]), HBA.out⟩, by simp [intOf]; omega⟩
      · have i1 : ¬ (t : Int) ≤ (m : Int) := by omega
        have et : t = m + 1 := by omega
        have HNN : Hid (((sumR nz (m + 1) : Nat) : Int) = (n : Int)) := Lib.hid (by rw [HQ.out, et])
        have HBR := Lib.hid hB
        clear HQ hB et
        go_wp2_with fail
        obtain ⟨wb, hwb⟩ : ∃ wb, wb = wr.alloc (.cells #[.int .i64 id] 3) := ⟨_, rfl⟩
        have hkb : Below wr.heap.size wr wb := by rw [hwb]; exact (Below.refl wr.heap.size wr).alloc (Nat.le_refl _) _
        have hXb : Has wb wr.heap.size 3 #[.int .i64 id] := by rw [hwb]; exact Has.new _ _ _
        have HBb := Lib.hid (HBR.out.trans (hkb.mono HBR.out.size))
        have HWOb := Lib.hid (HWO.out wb HBb.out (some ⟨wr.heap.size, 0, none⟩) 1 (one_int10 HIW.out hXb))
        rw [← hwb]
        clear hkb hXb hwb HBR HWO
        refine (HWOb.out).mono ?_
        rintro e wc ⟨A6, c6, rfl, ho6, hb6⟩
        obtain ⟨_, _, er, hnd6⟩ := ho6.read
        injection er with e1 e3 e2
        clear e3
        subst e1 e2
        rw [← HRN.out]
        have HBc := Lib.hid (HBb.out.trans (hb6.mono HBb.out.size))
        have HBDc := Lib.hid (HBD.out wc A6 c6 hnd6)
        clear ho6 hnd6 hb6 HWOb HBb HBD
        go_wp2_with fail
        refine (HBDc.out).mono ?_
        rintro e wd ⟨v, rfl, hov, hbd⟩
        have HOV := Lib.hid (hov.low_ HBc.out.size)
        have HBd := Lib.hid (HBc.out.trans (hbd.mono HBc.out.size))
        clear hov hbd HBDc HBc
        go_wp2_with fail
        go_ret3
        exact ⟨v, by rw [HNN.out]; rfl, HOV.out, HBd.out⟩
end
section
open Go.RowKit Go.Maps

/-- What OddRoster gives of a list that is not empty. -/
def OddQ (n g : Nat) (w : World) (e : Ending) (w' : World) : Prop := ∃ A c l, e = .returned (.slice A (l : List Nd).length c) ∧ OwnN w' w.heap.size (.slice A l.length c) l ∧ l.length ≤ n + 1 ∧ (∀ x ∈ l, x.wide) ∧ TStep w g w' ∧ 1 ≤ l.length
theorem oddQ_mk {n g : Nat} {w w' : World} {v : Value} {l : List Nd} (ho : OwnN w' w.heap.size v l) (hn : l.length ≤ n + 1) (hw : ∀ x ∈ l, x.wide) (hs : TStep w g w') (h1 : 1 ≤ l.length) : OddQ n g w (.returned v) w' := by
  obtain ⟨A, c, rfl, _⟩ := ho.read
  exact ⟨A, c, l, rfl, ho, hn, hw, hs, h1⟩
set_option maxRecDepth 100000 in
set_option maxHeartbeats 3200000 in
theorem oddRoster_some (A : Option Addr) (l : List Nd) (c : Nat) (g : Nat) (w : World) (ht : Tape w g) (hl : Lets w) (hne : 0 ≠ g) (hnd : Nds w w.heap.size A l) (h0 : l ≠ []) (hn : l.length ≤ 1000) (hw : ∀ x ∈ l, x.wide) :
    Calls Tryz.prog 12 #[.pointer (some ⟨g, 0, none⟩), .slice A l.length c] w (OddQ l.length g w) := by
  have hg := ht.lt
  obtain ⟨inf, hif, hif1, hif2, hif3⟩ := infoN_parts
  obtain ⟨n, hn'⟩ : ∃ n, n = l.length := ⟨_, rfl⟩
  have HN := Lib.hid hn'
  have hn1 : 1 ≤ n := by rw [hn']; exact List.length_pos_iff.2 h0
  rw [← hn'] at hn ⊢
  have HN1 := Lib.hid hn1
  have hst := TStep.refl ht
  have hq : ([] : List Nd).length + n ≤ 1000000 := by simp; omega
  have hnz : ((n : Int) == 0) = false := by simp; omega
  have HP1 := Lib.hid (fun (w1 : World) (h : Tape w1 g) => pick_new g w1 h [0, -1, 2147483648, 2147483647, -9223372036854775808] (by simp) (by simp))
  have HP2 := Lib.hid (fun (w1 : World) (h : Tape w1 g) => pick_new g w1 h [65536, 4294967295, 5] (by simp) (by simp))
  have HW := Lib.hid hw
  clear ht hn' hw
  go_enter Tryz.func12, Tryz.ntmps12
  go_wp2_with (at_builtin; refine wpList_pushNs rfl (.const (.slice none 0 0)) (.tmp 6) 28 rfl w.heap.size inf Tryz.underlying28 hif hif1 hif2 hif3 (.slice none 0 0) [] rfl (OwnN.nil _ _) w.heap.size A l n c HN.out.symm rfl hnd hq (Nat.le_refl _) ?_; intro v1 w1 ho1 hb1; rw [List.nil_append] at ho1; obtain ⟨G, cap, pad, e1, hG, hH, hback⟩ := ho1.row h0; rw [← HN.out] at e1; subst e1)
  have s1 := hst.below hb1
  have hGg : G ≠ g := by omega
  have HBK := Lib.hid (fun (W : World) (m : List Nd) (h1 : m.length = l.length) (h2 : Has W G 25 (flatN m ++ pad).toArray) => hback W m h1 h2)
  clear hback ho1 hb1 hst hnd hq
  refine (next_any g _ _ s1.1 (by omega)).mono ?_
  rintro e w2 ⟨r, r0, r1, rfl, hst2⟩
  obtain ⟨q, rfl⟩ : ∃ q : Nat, r = (q : Int) := ⟨r.toNat, by omega⟩
  have hqn : q < n := by omega
  have s2 := s1.trans hst2
  have H2 := has_tstep hH hGg hst2
  have hz1 : (q : Int) < (n : Int) := by omega
  clear r1 s1 hst2 hH
  go_wp2_with fail
  refine (next_any g _ _ s2.1 (by omega)).mono ?_
  rintro e w3 ⟨r2, r20, r21, rfl, hst3⟩
  have s3 := s2.trans hst3
  have H3 := has_tstep H2 hGg hst3
  have hql : q < l.length := by rw [← HN.out]; exact hqn
  have hwq := HW.out _ (List.getElem_mem hql)
  have HS0 := Lib.hid (flatN_set0 l pad q hql)
  have HS1 := Lib.hid (flatN_set1 l pad q hql)
  have HS2 := Lib.hid (flatN_set2 l pad q hql)
  have hf := flatN_at l q hql
  have hcell : ∀ (W : World), Has W G 25 (flatN l ++ pad).toArray → W.cell? ⟨G, q * 3, none⟩ = some (.int .i64 l[q].id) ∧ W.cell? ⟨G, q * 3 + 1, none⟩ = some (.string l[q].key) ∧ W.cell? ⟨G, q * 3 + 2, none⟩ = some (.int .u32 (l[q].word : Int)) := fun W h => by
    have hlen := flatN_len l
    have ht : ∀ j u, j < (flatN l).length → (flatN l)[j]? = some u → W.cell? ⟨G, j, none⟩ = some u := fun j u hj hu => by
      rw [h.cell, List.getElem?_toArray, List.getElem?_append_left hj, hu]
    exact ⟨ht _ _ (by omega) hf.1, ht _ _ (by omega) hf.2.1, ht _ _ (by omega) hf.2.2⟩
  generalize l[q] = x at *
  obtain ⟨xi, xk, xw⟩ := x
  obtain ⟨hwi, hww⟩ := hwq
  simp only at hwi hww hcell
  have HCE := Lib.hid hcell
  have hr2 : r2 = 0 ∨ r2 = 1 ∨ r2 = 2 ∨ r2 = 3 ∨ r2 = 4 ∨ r2 = 5 := by omega
  clear s2 hst3 H2 r20 r21 hf hcell
  rcases hr2 with rfl | rfl | rfl | rfl | rfl | rfl
  · have HQ := Lib.hid (HP1.out w3 s3.1)
    clear HP1 HP2
    go_wp2_with fail
    refine (HQ.out).mono ?_
    rintro e w4 ⟨v, hv, rfl, hst4⟩
    have s4 := (s3.alloc _).trans hst4
    have H4 := has_tstep (H3.alloc _) hGg hst4
    obtain ⟨z0, z1, z2⟩ := HCE.out _ H4
    have hfz := fun o => H4.frozen o
    have hv' : -9223372036854775808 ≤ v ∧ v ≤ 9223372036854775807 := by simp at hv; omega
    have H5 := H4.set_ (q * 3) (.int .i64 v)
    simp only [List.setIfInBounds_toArray] at H5
    rw [HS0.out] at H5
    have HO := Lib.hid (HBK.out _ _ (List.length_set ..) H5)
    have HS := Lib.hid (s4.set (p := ⟨G, q * 3, none⟩) hG hg (.int .i64 v))
    clear hst4 s3 s4 H3 H4 H5 hv HQ
    go_wp2_with fail
    go_ret
    have ho := HO.out
    rw [List.length_set, ← HN.out] at ho
    exact oddQ_mk ho (by rw [List.length_set, ← HN.out]; omega) (wide_set HW.out ⟨hv', hww⟩) HS.out (by rw [List.length_set, ← HN.out]; exact HN1.out)
  · clear HP1 HP2
    go_wp2_with fail
    refine (oddKey_any g _ s3.1 (hl.step hne s3) hne).mono ?_
    rintro e w4 ⟨key, _, rfl, hst4⟩
    have s4 := s3.trans hst4
    have H4 := has_tstep H3 hGg hst4
    obtain ⟨z0, z1, z2⟩ := HCE.out _ H4
    have hfz := fun o => H4.frozen o
    have H5 := H4.set_ (q * 3 + 1) (.string key)
    simp only [List.setIfInBounds_toArray] at H5
    rw [HS1.out] at H5
    have HO := Lib.hid (HBK.out _ _ (List.length_set ..) H5)
    have HS := Lib.hid (s4.set (p := ⟨G, q * 3 + 1, none⟩) hG hg (.string key))
    clear hst4 s3 s4 H3 H4 H5
    go_wp2_with fail
    go_ret
    have ho := HO.out
    rw [List.length_set, ← HN.out] at ho
    exact oddQ_mk ho (by rw [List.length_set, ← HN.out]; omega) (wide_set HW.out ⟨hwi, hww⟩) HS.out (by rw [List.length_set, ← HN.out]; exact HN1.out)
  · have HQ := Lib.hid (HP2.out w3 s3.1)
    clear HP1 HP2
    go_wp2_with fail
    refine (HQ.out).mono ?_
    rintro e w4 ⟨v, hv, rfl, hst4⟩
    have s4 := (s3.alloc _).trans hst4
    have H4 := has_tstep (H3.alloc _) hGg hst4
    obtain ⟨z0, z1, z2⟩ := HCE.out _ H4
    have hfz := fun o => H4.frozen o
    obtain ⟨wd, rfl, hwd⟩ : ∃ wd : Nat, v = (wd : Int) ∧ wd < 4294967296 := ⟨v.toNat, by simp at hv; omega, by simp at hv; omega⟩
    have hcv : IntKind.u32.wrap (wd : Int) = (wd : Int) := IntWalk.u32_in _ (by omega)
    have H5 := H4.set_ (q * 3 + 2) (.int .u32 (wd : Int))
    simp only [List.setIfInBounds_toArray] at H5
    rw [HS2.out] at H5
    have HO := Lib.hid (HBK.out _ _ (List.length_set ..) H5)
    have HS := Lib.hid (s4.set (p := ⟨G, q * 3 + 2, none⟩) hG hg (.int .u32 (wd : Int)))
    clear hst4 s3 s4 H3 H4 H5 hv HQ
    go_wp2_with fail
    go_ret
    have ho := HO.out
    rw [List.length_set, ← HN.out] at ho
    exact oddQ_mk ho (by rw [List.length_set, ← HN.out]; omega) (wide_set HW.out ⟨hwi, hwd⟩) HS.out (by rw [List.length_set, ← HN.out]; exact HN1.out)
  · have ho3 := HBK.out _ _ rfl H3
    rw [← HN.out] at ho3
    obtain ⟨z0, z1, z2⟩ := HCE.out _ H3
    have hsz := s3.2.size
    have hln : l.length < 1000000 := by rw [← HN.out]; omega
    clear HP1 HP2 H3
    go_wp2_with (at_builtin; refine wpList_pushN rfl _ _ 28 rfl w.heap.size inf Tryz.underlying28 hif hif1 hif2 hif3 (.slice (some ⟨G, 0, none⟩) n cap) l w3 ⟨xi, xk, xw⟩ rfl ho3 rfl hln hsz ?_; intro v5 w5 ho5 hb5)
    go_ret
    exact oddQ_mk ho5 (by simp [HN.out]) (wide_snoc HW.out ⟨hwi, hww⟩) (s3.below_base hg hb5) (by simp)
  · have s3d := s3.below ((Below.refl w3.heap.size w3).drew)
    have H3d : Has w3.drew G 25 (flatN l ++ pad).toArray := H3
    have HNX := Lib.hid (next_any g 50 w3.drew s3d.1 (by omega))
    have z1 : w3.drew.cell? ⟨G, q * 3 + 1, none⟩ = some (.string xk) := (HCE.out _ H3).2.1
    have HAF := Lib.hid (fun (w4 : World) (p : Int) (h : TStep w3.drew g w4) => (⟨(HCE.out _ (has_tstep H3d hGg h)).2.1, s3d.trans h, (HBK.out _ l rfl (has_tstep H3d hGg h)).below ((Below.refl _ _).alloc (Nat.le_refl _) (.cells #[.int .i64 (1 + p), .string xk, .int .u32 0] 25))⟩ : w4.cell? ⟨G, q * 3 + 1, none⟩ = some (.string xk) ∧ TStep w g w4 ∧ OwnN (w4.alloc (.cells #[.int .i64 (1 + p), .string xk, .int .u32 0] 25)) w.heap.size (.slice (some ⟨G, 0, none⟩) l.length cap) l))
    rw [← HN.out] at HAF
    have hln : l.length + 1 ≤ 1000000 := by rw [← HN.out]; omega
    clear HP1 HP2 H3 H3d
    go_wp2_with fail
    go_region_law (first | (go_simp; go_at_call 7; refine (HNX.out).mono ?_; rintro e w4 ⟨p, p0, p1, rfl, hst4⟩; have w3' : IntKind.i64.wrap (1 + p) = 1 + p := (IntWalk.i64_in _ (by omega)); obtain ⟨z1', s4, o4⟩ := HAF.out w4 p hst4; have hsz := (s4.alloc (.cells #[.int .i64 (1 + p), .string xk, .int .u32 0] 25)).2.size; have one4 := one_node w4 ⟨1 + p, xk, 0⟩) | (refine step_pushNs (w := w4.alloc (.cells #[.int .i64 (1 + p), .string xk, .int .u32 0] 25)) (o := ⟨some 86, _, _, _, _, _⟩) rfl (.tmp 76) (.tmp 85) 28 (by rfl) w.heap.size inf Tryz.underlying28 hif hif1 hif2 hif3 (.slice (some ⟨G, 0, none⟩) n cap) l (by simp [Act.eval]) o4 _ (some ⟨w4.heap.size, 0, none⟩) [⟨1 + p, xk, 0⟩] 1 1 rfl (by simp [Act.eval]) one4 hln hsz ?_; intro v5 w5 ho5 hb5))
    all_goals
      have s5 := (s4.alloc (.cells #[.int .i64 (1 + p), .string xk, .int .u32 0] 25)).below_base hg hb5
      have HO := Lib.hid ho5
      clear ho5 hb5 one4 o4 z1 z1'
      go_wp2_with fail
      go_ret
      exact oddQ_mk HO.out (by simp [HN.out]) (wide_snoc HW.out ⟨⟨by show _ ≤ 1 + p; omega, by show 1 + p ≤ _; omega⟩, by show 0 < _; omega⟩) s5 (by simp)
  · have s3d := s3.below ((Below.refl w3.heap.size w3).drew)
    have H3d : Has w3.drew G 25 (flatN l ++ pad).toArray := H3
    have HNX := Lib.hid (key_any g w3.drew s3d.1 (hl.step hne s3d) hne)
    have z1 : w3.drew.cell? ⟨G, q * 3, none⟩ = some (.int .i64 xi) := (HCE.out _ H3).1
    have HAF := Lib.hid (fun (w4 : World) (key : ByteArray) (h : TStep w3.drew g w4) => (⟨(HCE.out _ (has_tstep H3d hGg h)).1, s3d.trans h, (HBK.out _ l rfl (has_tstep H3d hGg h)).below ((Below.refl _ _).alloc (Nat.le_refl _) (.cells #[.int .i64 xi, .string key, .int .u32 0] 25))⟩ : w4.cell? ⟨G, q * 3, none⟩ = some (.int .i64 xi) ∧ TStep w g w4 ∧ OwnN (w4.alloc (.cells #[.int .i64 xi, .string key, .int .u32 0] 25)) w.heap.size (.slice (some ⟨G, 0, none⟩) l.length cap) l))
    rw [← HN.out] at HAF
    have hln : l.length + 1 ≤ 1000000 := by rw [← HN.out]; omega
    clear HP1 HP2 H3 H3d
    go_wp2_with fail
    go_region_law (first | (go_simp; go_at_call 19; refine (HNX.out).mono ?_; rintro e w4 ⟨key, _, rfl, hst4⟩; obtain ⟨z1', s4, o4⟩ := HAF.out w4 key hst4; have hsz := (s4.alloc (.cells #[.int .i64 xi, .string key, .int .u32 0] 25)).2.size; have one4 := one_node w4 ⟨xi, key, 0⟩) | (refine step_pushNs (w := w4.alloc (.cells #[.int .i64 xi, .string key, .int .u32 0] 25)) (o := ⟨some 41, _, _, _, _, _⟩) rfl (.tmp 32) (.tmp 40) 28 (by rfl) w.heap.size inf Tryz.underlying28 hif hif1 hif2 hif3 (.slice (some ⟨G, 0, none⟩) n cap) l (by simp [Act.eval]) o4 _ (some ⟨w4.heap.size, 0, none⟩) [⟨xi, key, 0⟩] 1 1 rfl (by simp [Act.eval]) one4 hln hsz ?_; intro v5 w5 ho5 hb5))
    all_goals
      have s5 := (s4.alloc (.cells #[.int .i64 xi, .string key, .int .u32 0] 25)).below_base hg hb5
      have HO := Lib.hid ho5
      clear ho5 hb5 one4 o4 z1 z1'
      go_wp2_with fail
      go_ret
      exact oddQ_mk HO.out (by simp [HN.out]) (wide_snoc HW.out ⟨hwi, by show 0 < _; omega⟩) s5 (by simp)
set_option maxRecDepth 100000 in
set_option maxHeartbeats 1600000 in
/-- append(append(nil, nodes...), x) as the reference does it. -/
theorem rinsert_any (A A2 : Option Addr) (l : List Nd) (k : List Ld) (x : Nd) (c c2 : Nat) (id h : Int) (w : World) (hl : Nds w w.heap.size A l) (hk : Lds w w.heap.size A2 k) (hkn : k.length ≤ 1000000) (hwd : ∀ y ∈ l, y.word < 4294967296) (hxw : x.wide) (hln0 : l.length ≤ 1000) :
    Calls Tryz.prog 14 #[.slice A l.length c, .slice A2 k.length c2, x.val, .int .i64 id, .int .i64 h] w (InsP l k x id h w) := by
  obtain ⟨w1, hw1⟩ : ∃ w1, w1 = w.alloc (.cells #[.int .i64 x.id, .string x.key, .int .u32 (x.word : Int)] 25) := ⟨_, rfl⟩
  have hk1 : Below w.heap.size w w1 := by rw [hw1]; exact (Below.refl w.heap.size w).alloc (Nat.le_refl _) _
  have hX1 : Has w1 w.heap.size 25 #[.int .i64 x.id, .string x.key, .int .u32 (x.word : Int)] := by rw [hw1]; exact Has.new _ _ _
  have HK1 := Lib.hid hk1
  have HX1 := Lib.hid hX1
  have HI := Lib.hid (fun (W : World) => rLevel_any h W)
  have HE := Lib.hid (rexact_any A A2 l k c c2 h w1 ((hl.below hk1).more hk1.size) ((hk.below hk1).more hk1.size) hkn hwd)
  have hshow : ∀ (P : World → Ending → World → Prop), Calls Tryz.prog 14 #[.slice A l.length c, .slice A2 k.length c2, .agg #[.int .i64 x.id, .string x.key, .int .u32 (x.word : Int)], .int .i64 id, .int .i64 h] w (P w) → Calls Tryz.prog 14 #[.slice A l.length c, .slice A2 k.length c2, x.val, .int .i64 id, .int .i64 h] w (P w) := fun P q => q
  obtain ⟨inf, hif, hif1, hif2, hif3⟩ := infoN_parts
  rcases insE_cases l k x id h with ⟨h1, he⟩ | ⟨h1, h2, he⟩ | ⟨h1, h2, h3, he⟩ | ⟨h1, h2, h3, h4, h5, he⟩ | ⟨h1, h2, h3, h4, he⟩
  · refine (hshow (ErrI 2) ?_).mono fun e w' k => .inl ⟨by rw [he]; decide, by rw [he]; exact k⟩
    rw [h1] at HI
    obtain ⟨xi, xk, xw⟩ := x
    simp only at *
    clear hl hk hkn hwd hxw h1 he HE hshow hX1 hk1
    generalize l.length = an
    generalize k.length = kn
    go_enter Tryz.func14, Tryz.ntmps14
    go_upto_region 1 with fail
    rw [← hw1]
    clear hw1
    go_wp2_with fail
    refine (HI.out _).mono ?_
    rintro e w2 ⟨rfl, rfl⟩
    go_wp2_with fail
    go_ret3
    exact ⟨rfl, HK1.out⟩
  · refine (hshow (ErrI 1) ?_).mono fun e w' k => .inl ⟨by rw [he]; decide, by rw [he]; exact k⟩
    rw [h1] at HI
    rw [h2] at HE
    obtain ⟨xi, xk, xw⟩ := x
    simp only at *
    clear hl hk hkn hwd hxw h1 h2 he hshow hX1 hk1
    generalize l.length = an at *
    generalize k.length = kn at *
    go_enter Tryz.func14, Tryz.ntmps14
    go_upto_region 1 with fail
    rw [← hw1]
    clear hw1
    go_wp2_with fail
    refine (HI.out _).mono ?_
    rintro e w2 ⟨rfl, rfl⟩
    go_wp2_with fail
    refine (HE.out).mono ?_
    rintro e w2 ⟨rfl, hb2⟩
    have HK2 := Lib.hid (HK1.out.trans (hb2.mono HK1.out.size))
    clear hb2 HE
    go_wp2_with fail
    go_ret3
    exact ⟨rfl, HK2.out⟩
  · obtain ⟨E, hE⟩ : ∃ E, E = chkV (l ++ [x]) := ⟨_, rfl⟩
    refine (hshow (ErrI E) ?_).mono fun e w' k => .inl ⟨by rw [he]; exact h3, by rw [he, ← hE]; exact k⟩
    rw [h1] at HI
    rw [h2] at HE
    have hz : (E != 0) = true := by rw [hE]; simpa using h3
    have HL := Lib.hid hl
    have HCK := Lib.hid (fun (W : World) (A : Option Addr) (c : Nat) (h : Nds W W.heap.size A ([] ++ l ++ [x])) => rcheck_any A ([] ++ l ++ [x]) c W h (fun y hy => by
      rw [List.nil_append] at hy
      rcases List.mem_append.1 hy with hy | hy
      · exact hwd y hy
      · obtain rfl : y = x := by simpa using hy
        exact hxw.2))
    have HXN := Lib.hid (fun (W : World) (Y : Nat) (h : Has W Y 25 #[.int .i64 x.id, .string x.key, .int .u32 (x.word : Int)]) => one_nd h)
    simp only [List.nil_append] at HCK
    rw [← hE] at HCK
    obtain ⟨xi, xk, xw⟩ := x
    simp only at *
    clear hl hk hkn hwd hxw h1 h2 h3 he hshow hX1 hk1 hE
    obtain ⟨LN, hLN⟩ : ∃ n, n = l.length := ⟨_, rfl⟩
    have HLN := Lib.hid hLN
    rw [← hLN] at HE hln0 ⊢
    generalize k.length = kn at *
    obtain ⟨B0, hB0⟩ : ∃ B0, B0 = w.heap.size := ⟨_, rfl⟩
    rw [← hB0] at HX1
    clear hLN
    go_enter Tryz.func14, Tryz.ntmps14
    go_upto_region 1 with fail
    rw [← hw1, ← hB0]
    clear hw1 hB0
    go_wp2_with fail
    refine (HI.out _).mono ?_
    rintro e w2 ⟨rfl, rfl⟩
    go_wp2_with fail
    refine (HE.out).mono ?_
    rintro e w2 ⟨rfl, hb2⟩
    have HK2 := Lib.hid (HK1.out.trans (hb2.mono HK1.out.size))
    have HX2 := Lib.hid (HX1.out.below hb2)
    clear hb2 HE HI HK1 HX1
    go_upto_region 5 with fail
    go_cut [13] (fun s wx => ∃ (A6 : Option Addr) (c6 : Nat), s = .slice A6 (l ++ [(⟨xi, xk, xw⟩ : Nd)]).length c6 ∧ Nds wx wx.heap.size A6 (l ++ [(⟨xi, xk, xw⟩ : Nd)]) ∧ Below w2.heap.size w2 wx)
    case first =>
      have hnd : Nds w2 w2.heap.size A l := (HL.out.below HK2.out).more HK2.out.size
      obtain ⟨r0', r1', r2'⟩ : w2.cell? ⟨B0, 0, none⟩ = some (.int .i64 xi) ∧ w2.cell? ⟨B0, 1, none⟩ = some (.string xk) ∧ w2.cell? ⟨B0, 2, none⟩ = some (.int .u32 (xw : Int)) := ⟨HX2.out.cell 0, HX2.out.cell 1, HX2.out.cell 2⟩
      have hXlt : B0 < w2.heap.size := HX2.out.lt
      generalize w2 = W0 at *
      have hS0 : Below W0.heap.size W0 W0.drew := (Below.refl _ _).drew
      refine wp_region_held_drew (S := fun W => Below W0.heap.size W0 W) (by kernel_rfl) hS0 (fun _ => ?_)
      refine takeH (i := 0) (d := some 31) (v := ?_) rfl rfl (by kernel_rfl) (by kernel_rfl) (by kernel_rfl) (fun _ _ _ h => h) (Or.inl ⟨by rfl, ?_⟩) (by assumption) ?_
      rotate_left
      · intro W hSw
        go_simp; try with_reducible rfl
      try simp only [Act.put, List.setIfInBounds_toArray, List.set_cons_zero, List.set_cons_succ]
      refine takeH (i := 2) (d := some 33) (v := ?_) rfl rfl (by kernel_rfl) (by kernel_rfl) (by kernel_rfl) (fun _ _ _ h => h) (Or.inl ⟨by rfl, ?_⟩) (by assumption) ?_
      rotate_left
      · intro W hSw
        have q0 := (Below.cell hSw (p := ⟨B0, 0, none⟩) hXlt).trans r0'
        have q1 := (Below.cell hSw (p := ⟨B0, 1, none⟩) hXlt).trans r1'
        have q2 := (Below.cell hSw (p := ⟨B0, 2, none⟩) hXlt).trans r2'
        go_simp
        try with_reducible rfl
      try simp only [Act.put, List.setIfInBounds_toArray, List.set_cons_zero, List.set_cons_succ]
      refine wpAnyH_ready (rs := [1, 3]) (by kernel_rfl) (by simp) ?_
      refine AllReadyH.cons rfl (fun K hK => ?_) (AllReadyH.cons rfl (fun K hK => ?_) AllReadyH.nil)
      · have nd1 : Nds W0.drew W0.heap.size A l := hnd.below hS0
        refine step_pushNs (w := W0.drew) (o := ⟨some 32, _, _, _, _, _⟩) rfl (.const (.slice none 0 0)) (.tmp 31) 28 (by rfl) W0.drew.heap.size inf Tryz.underlying28 hif hif1 hif2 hif3 (.slice none 0 0) [] (by simp [Act.eval]) (OwnN.nil _ _) W0.heap.size A l LN c HLN.out.symm (by simp [Act.eval]) nd1 (by simp; have := HLN.out; omega) (Nat.le_refl _) ?_
        intro v1 wa ho1 hba
        have hBa : Below W0.heap.size W0 wa := hS0.trans hba
        refine hK.out _ _ hBa (fun _ => ?_)
        clear hK K
        try simp only [Act.put, List.setIfInBounds_toArray, List.set_cons_zero, List.set_cons_succ]
        refine wpAnyH_ready (rs := [3]) (by kernel_rfl) (by simp) ?_
        refine AllReadyH.cons rfl (fun K hK => ?_) AllReadyH.nil
        go_simp
        have hBc : Below W0.heap.size W0 (wa.alloc (.cells #[.int .i64 xi, .string xk, .int .u32 (xw : Int)] 25)) := hBa.trans (((Below.refl _ _).alloc (Nat.le_refl _) (.cells #[.int .i64 xi, .string xk, .int .u32 (xw : Int)] 25)).mono hBa.size)
        have one1 := one_node wa (⟨xi, xk, xw⟩ : Nd)
        have ho1' := ho1.below ((Below.refl _ _).alloc (Nat.le_refl _) (.cells #[.int .i64 xi, .string xk, .int .u32 (xw : Int)] 25))
        refine hK.out _ _ hBc (fun _ => ?_)
        clear hK K
        try simp only [Act.put, List.setIfInBounds_toArray, List.set_cons_zero, List.set_cons_succ]
        refine wpAnyH_ready (rs := [4]) (by kernel_rfl) (by simp) ?_
        refine AllReadyH.cons rfl (fun K hK => ?_) AllReadyH.nil
        refine step_pushNs (w := (wa.alloc (.cells #[.int .i64 xi, .string xk, .int .u32 (xw : Int)] 25))) (o := ⟨some 35, _, _, _, _, _⟩) rfl (.tmp 32) (.tmp 34) 28 (by rfl) W0.drew.heap.size inf Tryz.underlying28 hif hif1 hif2 hif3 v1 ([] ++ l) (by simp [Act.eval]) ho1' _ _ [(⟨xi, xk, xw⟩ : Nd)] 1 1 rfl (by simp [Act.eval]) one1 (by simp; have := HLN.out; omega) (hBc.size) ?_
        intro v2 wb ho2 hbb
        have hBb : Below W0.heap.size W0 wb := hBc.trans hbb
        refine hK.out _ _ hBb (fun _ => ?_)
        clear hK K
        try simp only [Act.put, List.setIfInBounds_toArray, List.set_cons_zero, List.set_cons_succ]
        refine wpAnyH_ready (rs := [5]) (by kernel_rfl) (by simp) ?_
        refine AllReadyH.cons rfl (fun K hK => ?_) AllReadyH.nil
        obtain ⟨A6, c6, rfl, hr6⟩ := ho2.read
        go_simp
        refine hK.out _ _ hBb (fun _ => ?_)
        clear hK K
        try simp only [Act.put, List.setIfInBounds_toArray, List.set_cons_zero, List.set_cons_succ]
        refine wpAnyH_done (by kernel_rfl) ?_ _
        go_wp2_with fail
        go_meet
        exact ⟨A6, c6, by simp, hr6, hBb⟩
      · go_simp
        have hBc : Below W0.heap.size W0 (W0.drew.alloc (.cells #[.int .i64 xi, .string xk, .int .u32 (xw : Int)] 25)) := hS0.trans (((Below.refl _ _).alloc (Nat.le_refl _) (.cells #[.int .i64 xi, .string xk, .int .u32 (xw : Int)] 25)).mono hS0.size)
        have one1 := one_node W0.drew (⟨xi, xk, xw⟩ : Nd)
        refine hK.out _ _ hBc (fun _ => ?_)
        clear hK K
        try simp only [Act.put, List.setIfInBounds_toArray, List.set_cons_zero, List.set_cons_succ]
        refine wpAnyH_ready (rs := [1]) (by kernel_rfl) (by simp) ?_
        refine AllReadyH.cons rfl (fun K hK => ?_) AllReadyH.nil
        have nd1 : Nds (W0.drew.alloc (.cells #[.int .i64 xi, .string xk, .int .u32 (xw : Int)] 25)) W0.heap.size A l := hnd.below hBc
        refine step_pushNs (w := (W0.drew.alloc (.cells #[.int .i64 xi, .string xk, .int .u32 (xw : Int)] 25))) (o := ⟨some 32, _, _, _, _, _⟩) rfl (.const (.slice none 0 0)) (.tmp 31) 28 (by rfl) (W0.drew.alloc (.cells #[.int .i64 xi, .string xk, .int .u32 (xw : Int)] 25)).heap.size inf Tryz.underlying28 hif hif1 hif2 hif3 (.slice none 0 0) [] (by simp [Act.eval]) (OwnN.nil _ _) W0.heap.size A l LN c HLN.out.symm (by simp [Act.eval]) nd1 (by simp; have := HLN.out; omega) (Nat.le_refl _) ?_
        intro v1 wa ho1 hba
        have hBa : Below W0.heap.size W0 wa := hBc.trans (hba.mono hBc.size)
        have one2 := one1.below (hba.mono (by rw [World.size_alloc]; exact Nat.le_refl _))
        refine hK.out _ _ hBa (fun _ => ?_)
        clear hK K
        try simp only [Act.put, List.setIfInBounds_toArray, List.set_cons_zero, List.set_cons_succ]
        refine wpAnyH_ready (rs := [4]) (by kernel_rfl) (by simp) ?_
        refine AllReadyH.cons rfl (fun K hK => ?_) AllReadyH.nil
        refine step_pushNs (w := wa) (o := ⟨some 35, _, _, _, _, _⟩) rfl (.tmp 32) (.tmp 34) 28 (by rfl) (W0.drew.alloc (.cells #[.int .i64 xi, .string xk, .int .u32 (xw : Int)] 25)).heap.size inf Tryz.underlying28 hif hif1 hif2 hif3 v1 ([] ++ l) (by simp [Act.eval]) ho1 _ _ [(⟨xi, xk, xw⟩ : Nd)] 1 1 rfl (by simp [Act.eval]) one2 (by simp; have := HLN.out; omega) (hba.size) ?_
        intro v2 wb ho2 hbb
        have hBb : Below W0.heap.size W0 wb := hBa.trans (hbb.mono hBc.size)
        refine hK.out _ _ hBb (fun _ => ?_)
        clear hK K
        try simp only [Act.put, List.setIfInBounds_toArray, List.set_cons_zero, List.set_cons_succ]
        refine wpAnyH_ready (rs := [5]) (by kernel_rfl) (by simp) ?_
        refine AllReadyH.cons rfl (fun K hK => ?_) AllReadyH.nil
        obtain ⟨A6, c6, rfl, hr6⟩ := ho2.read
        go_simp
        refine hK.out _ _ hBb (fun _ => ?_)
        clear hK K
        try simp only [Act.put, List.setIfInBounds_toArray, List.set_cons_zero, List.set_cons_succ]
        refine wpAnyH_done (by kernel_rfl) ?_ _
        go_wp2_with fail
        go_meet
        exact ⟨A6, c6, by simp, hr6, hBb⟩
    case rest =>
    obtain ⟨A6, c6, rfl, hn6, hb6w⟩ := hcut
    have hb6 := HK2.out.trans (hb6w.mono HK2.out.size)
    have HX6 := Lib.hid (HX2.out.below hb6w)
    clear hb6w HX2 HK2
    have HCK6 := Lib.hid (HCK.out wc A6 c6 hn6)
    generalize (l ++ [(⟨xi, xk, xw⟩ : Nd)]).length = L1 at *
    clear hn6
    go_wp2_with fail
    refine (HCK6.out).mono ?_
    rintro e w3 ⟨rfl, hb3⟩
    have HK3 := Lib.hid (hb6.trans (hb3.mono hb6.size))
    clear hb3 hb6 HCK6
    go_wp2_with fail
    go_ret3
    exact ⟨rfl, HK3.out⟩
  · refine (hshow (ErrI 6) ?_).mono fun e w' k => .inl ⟨by rw [he]; decide, by rw [he]; exact k⟩
    rw [h1] at HI
    rw [h2] at HE
    have HL := Lib.hid hl
    have HWD9 : ∀ y ∈ l ++ [x], y.word < 4294967296 := fun y hy => by
      rcases List.mem_append.1 hy with hy | hy
      · exact hwd y hy
      · obtain rfl : y = x := by simpa using hy
        exact hxw.2
    have HCK := Lib.hid (fun (W : World) (A : Option Addr) (c : Nat) (h : Nds W W.heap.size A (l ++ [x])) => rcheck_any A (l ++ [x]) c W h HWD9)
    rw [h3] at HCK
    have HFD := Lib.hid (fun (W : World) (j : Below w.heap.size w W) => rfind_any A l c id W ((hl.below j).more j.size) (by omega))
    unfold FndP at HFD
    rw [decide_eq_false h5] at HFD
    have hps : 0 < l.length := List.length_pos_iff.2 h4
    obtain ⟨xi, xk, xw⟩ := x
    generalize fndV l id = F at *
    obtain ⟨fi, fk, fw⟩ := F
    simp only [Nd.val] at *
    clear hl hk hkn hwd hxw h1 h2 h3 h4 h5 he hshow hX1 hk1 HWD9
    obtain ⟨LN, hLN⟩ : ∃ n, n = l.length := ⟨_, rfl⟩
    have HLN := Lib.hid hLN
    rw [← hLN] at HE hln0 HFD hps ⊢
    generalize k.length = kn at *
    obtain ⟨B0, hB0⟩ : ∃ B0, B0 = w.heap.size := ⟨_, rfl⟩
    rw [← hB0] at HX1
    clear hLN
    go_enter Tryz.func14, Tryz.ntmps14
    go_upto_region 1 with fail
    rw [← hw1, ← hB0]
    clear hw1 hB0
    go_wp2_with fail
    refine (HI.out _).mono ?_
    rintro e w2 ⟨rfl, rfl⟩
    go_wp2_with fail
    refine (HE.out).mono ?_
    rintro e w2 ⟨rfl, hb2⟩
    have HK2 := Lib.hid (HK1.out.trans (hb2.mono HK1.out.size))
    have HX2 := Lib.hid (HX1.out.below hb2)
    clear hb2 HE HI HK1 HX1
    have hpz : (0 : Int) < (LN : Int) := by omega
    go_upto_region 5 with fail
    go_cut [13] (fun s wx => ∃ (A6 : Option Addr) (c6 : Nat), s = .slice A6 (l ++ [(⟨xi, xk, xw⟩ : Nd)]).length c6 ∧ Nds wx wx.heap.size A6 (l ++ [(⟨xi, xk, xw⟩ : Nd)]) ∧ Below w2.heap.size w2 wx)
    case first =>
      have hnd : Nds w2 w2.heap.size A l := (HL.out.below HK2.out).more HK2.out.size
      obtain ⟨r0', r1', r2'⟩ : w2.cell? ⟨B0, 0, none⟩ = some (.int .i64 xi) ∧ w2.cell? ⟨B0, 1, none⟩ = some (.string xk) ∧ w2.cell? ⟨B0, 2, none⟩ = some (.int .u32 (xw : Int)) := ⟨HX2.out.cell 0, HX2.out.cell 1, HX2.out.cell 2⟩
      have hXlt : B0 < w2.heap.size := HX2.out.lt
      generalize w2 = W0 at *
      have hS0 : Below W0.heap.size W0 W0.drew := (Below.refl _ _).drew
      refine wp_region_held_drew (S := fun W => Below W0.heap.size W0 W) (by kernel_rfl) hS0 (fun _ => ?_)
      refine takeH (i := 0) (d := some 31) (v := ?_) rfl rfl (by kernel_rfl) (by kernel_rfl) (by kernel_rfl) (fun _ _ _ h => h) (Or.inl ⟨by rfl, ?_⟩) (by assumption) ?_
      rotate_left
      · intro W hSw
        go_simp; try with_reducible rfl
      try simp only [Act.put, List.setIfInBounds_toArray, List.set_cons_zero, List.set_cons_succ]
      refine takeH (i := 2) (d := some 33) (v := ?_) rfl rfl (by kernel_rfl) (by kernel_rfl) (by kernel_rfl) (fun _ _ _ h => h) (Or.inl ⟨by rfl, ?_⟩) (by assumption) ?_
      rotate_left
      · intro W hSw
        have q0 := (Below.cell hSw (p := ⟨B0, 0, none⟩) hXlt).trans r0'
        have q1 := (Below.cell hSw (p := ⟨B0, 1, none⟩) hXlt).trans r1'
        have q2 := (Below.cell hSw (p := ⟨B0, 2, none⟩) hXlt).trans r2'
        go_simp
        try with_reducible rfl
      try simp only [Act.put, List.setIfInBounds_toArray, List.set_cons_zero, List.set_cons_succ]
      refine wpAnyH_ready (rs := [1, 3]) (by kernel_rfl) (by simp) ?_
      refine AllReadyH.cons rfl (fun K hK => ?_) (AllReadyH.cons rfl (fun K hK => ?_) AllReadyH.nil)
      · have nd1 : Nds W0.drew W0.heap.size A l := hnd.below hS0
        refine step_pushNs (w := W0.drew) (o := ⟨some 32, _, _, _, _, _⟩) rfl (.const (.slice none 0 0)) (.tmp 31) 28 (by rfl) W0.drew.heap.size inf Tryz.underlying28 hif hif1 hif2 hif3 (.slice none 0 0) [] (by simp [Act.eval]) (OwnN.nil _ _) W0.heap.size A l LN c HLN.out.symm (by simp [Act.eval]) nd1 (by simp; have := HLN.out; omega) (Nat.le_refl _) ?_
        intro v1 wa ho1 hba
        have hBa : Below W0.heap.size W0 wa := hS0.trans hba
        refine hK.out _ _ hBa (fun _ => ?_)
        clear hK K
        try simp only [Act.put, List.setIfInBounds_toArray, List.set_cons_zero, List.set_cons_succ]
        refine wpAnyH_ready (rs := [3]) (by kernel_rfl) (by simp) ?_
        refine AllReadyH.cons rfl (fun K hK => ?_) AllReadyH.nil
        go_simp
        have hBc : Below W0.heap.size W0 (wa.alloc (.cells #[.int .i64 xi, .string xk, .int .u32 (xw : Int)] 25)) := hBa.trans (((Below.refl _ _).alloc (Nat.le_refl _) (.cells #[.int .i64 xi, .string xk, .int .u32 (xw : Int)] 25)).mono hBa.size)
        have one1 := one_node wa (⟨xi, xk, xw⟩ : Nd)
        have ho1' := ho1.below ((Below.refl _ _).alloc (Nat.le_refl _) (.cells #[.int .i64 xi, .string xk, .int .u32 (xw : Int)] 25))
        refine hK.out _ _ hBc (fun _ => ?_)
        clear hK K
        try simp only [Act.put, List.setIfInBounds_toArray, List.set_cons_zero, List.set_cons_succ]
        refine wpAnyH_ready (rs := [4]) (by kernel_rfl) (by simp) ?_
        refine AllReadyH.cons rfl (fun K hK => ?_) AllReadyH.nil
        refine step_pushNs (w := (wa.alloc (.cells #[.int .i64 xi, .string xk, .int .u32 (xw : Int)] 25))) (o := ⟨some 35, _, _, _, _, _⟩) rfl (.tmp 32) (.tmp 34) 28 (by rfl) W0.drew.heap.size inf Tryz.underlying28 hif hif1 hif2 hif3 v1 ([] ++ l) (by simp [Act.eval]) ho1' _ _ [(⟨xi, xk, xw⟩ : Nd)] 1 1 rfl (by simp [Act.eval]) one1 (by simp; have := HLN.out; omega) (hBc.size) ?_
        intro v2 wb ho2 hbb
        have hBb : Below W0.heap.size W0 wb := hBc.trans hbb
        refine hK.out _ _ hBb (fun _ => ?_)
        clear hK K
        try simp only [Act.put, List.setIfInBounds_toArray, List.set_cons_zero, List.set_cons_succ]
        refine wpAnyH_ready (rs := [5]) (by kernel_rfl) (by simp) ?_
        refine AllReadyH.cons rfl (fun K hK => ?_) AllReadyH.nil
        obtain ⟨A6, c6, rfl, hr6⟩ := ho2.read
        go_simp
        refine hK.out _ _ hBb (fun _ => ?_)
        clear hK K
        try simp only [Act.put, List.setIfInBounds_toArray, List.set_cons_zero, List.set_cons_succ]
        refine wpAnyH_done (by kernel_rfl) ?_ _
        go_wp2_with fail
        go_meet
        exact ⟨A6, c6, by simp, hr6, hBb⟩
      · go_simp
        have hBc : Below W0.heap.size W0 (W0.drew.alloc (.cells #[.int .i64 xi, .string xk, .int .u32 (xw : Int)] 25)) := hS0.trans (((Below.refl _ _).alloc (Nat.le_refl _) (.cells #[.int .i64 xi, .string xk, .int .u32 (xw : Int)] 25)).mono hS0.size)
        have one1 := one_node W0.drew (⟨xi, xk, xw⟩ : Nd)
        refine hK.out _ _ hBc (fun _ => ?_)
        clear hK K
        try simp only [Act.put, List.setIfInBounds_toArray, List.set_cons_zero, List.set_cons_succ]
        refine wpAnyH_ready (rs := [1]) (by kernel_rfl) (by simp) ?_
        refine AllReadyH.cons rfl (fun K hK => ?_) AllReadyH.nil
        have nd1 : Nds (W0.drew.alloc (.cells #[.int .i64 xi, .string xk, .int .u32 (xw : Int)] 25)) W0.heap.size A l := hnd.below hBc
        refine step_pushNs (w := (W0.drew.alloc (.cells #[.int .i64 xi, .string xk, .int .u32 (xw : Int)] 25))) (o := ⟨some 32, _, _, _, _, _⟩) rfl (.const (.slice none 0 0)) (.tmp 31) 28 (by rfl) (W0.drew.alloc (.cells #[.int .i64 xi, .string xk, .int .u32 (xw : Int)] 25)).heap.size inf Tryz.underlying28 hif hif1 hif2 hif3 (.slice none 0 0) [] (by simp [Act.eval]) (OwnN.nil _ _) W0.heap.size A l LN c HLN.out.symm (by simp [Act.eval]) nd1 (by simp; have := HLN.out; omega) (Nat.le_refl _) ?_
        intro v1 wa ho1 hba
        have hBa : Below W0.heap.size W0 wa := hBc.trans (hba.mono hBc.size)
        have one2 := one1.below (hba.mono (by rw [World.size_alloc]; exact Nat.le_refl _))
        refine hK.out _ _ hBa (fun _ => ?_)
        clear hK K
        try simp only [Act.put, List.setIfInBounds_toArray, List.set_cons_zero, List.set_cons_succ]
        refine wpAnyH_ready (rs := [4]) (by kernel_rfl) (by simp) ?_
        refine AllReadyH.cons rfl (fun K hK => ?_) AllReadyH.nil
        refine step_pushNs (w := wa) (o := ⟨some 35, _, _, _, _, _⟩) rfl (.tmp 32) (.tmp 34) 28 (by rfl) (W0.drew.alloc (.cells #[.int .i64 xi, .string xk, .int .u32 (xw : Int)] 25)).heap.size inf Tryz.underlying28 hif hif1 hif2 hif3 v1 ([] ++ l) (by simp [Act.eval]) ho1 _ _ [(⟨xi, xk, xw⟩ : Nd)] 1 1 rfl (by simp [Act.eval]) one2 (by simp; have := HLN.out; omega) (hba.size) ?_
        intro v2 wb ho2 hbb
        have hBb : Below W0.heap.size W0 wb := hBa.trans (hbb.mono hBc.size)
        refine hK.out _ _ hBb (fun _ => ?_)
        clear hK K
        try simp only [Act.put, List.setIfInBounds_toArray, List.set_cons_zero, List.set_cons_succ]
        refine wpAnyH_ready (rs := [5]) (by kernel_rfl) (by simp) ?_
        refine AllReadyH.cons rfl (fun K hK => ?_) AllReadyH.nil
        obtain ⟨A6, c6, rfl, hr6⟩ := ho2.read
        go_simp
        refine hK.out _ _ hBb (fun _ => ?_)
        clear hK K
        try simp only [Act.put, List.setIfInBounds_toArray, List.set_cons_zero, List.set_cons_succ]
        refine wpAnyH_done (by kernel_rfl) ?_ _
        go_wp2_with fail
        go_meet
        exact ⟨A6, c6, by simp, hr6, hBb⟩
    case rest =>
    obtain ⟨A6, c6, rfl, hn6, hb6w⟩ := hcut
    have hb6 := HK2.out.trans (hb6w.mono HK2.out.size)
    have HX6 := Lib.hid (HX2.out.below hb6w)
    clear hb6w HX2 HK2
    have HCK6 := Lib.hid (HCK.out wc A6 c6 hn6)
    have HN6 := Lib.hid hn6
    obtain ⟨L1, hL1⟩ : ∃ n, n = (l ++ [(⟨xi, xk, xw⟩ : Nd)]).length := ⟨_, rfl⟩
    have HL1 := Lib.hid hL1
    rw [← hL1] at HCK6 ⊢
    clear hL1 hn6
    go_wp2_with fail
    refine (HCK6.out).mono ?_
    rintro e w3 ⟨rfl, hb3⟩
    have HK3 := Lib.hid (hb6.trans (hb3.mono hb6.size))
    have HN3 := Lib.hid ((HN6.out.below hb3).more hb3.size)
    clear hb3 hb6 HCK6 HN6
    go_wp2_with fail
    refine (HFD.out _ HK3.out).mono ?_
    rintro e w4 ⟨rfl, hb4⟩
    have HK4 := Lib.hid (HK3.out.trans (hb4.mono HK3.out.size))
    have HN4 := Lib.hid ((HN3.out.below hb4).more hb4.size)
    clear hb4 HK3 HN3 HFD
    go_wp2_with fail
    go_ret3
    exact ⟨rfl, HK4.out.alloc HK4.out.size _⟩
  · obtain ⟨m, rfl⟩ : ∃ m : Nat, h = (m : Int) := ⟨h.toNat, by simp [lvB] at h1; omega⟩
    have hm : m ≤ 16 := by simp [lvB] at h1; omega
    refine (hshow (InsOk (bldV (l ++ [x]) (m + 1)) ((rteR l k id x.key).length + sumR (vsV (l ++ [x]) x) m)) ?_).mono fun e w' k => .inr ⟨he, by
      rw [show ((m : Int) + 1).toNat = m + 1 by omega]
      unfold insN
      rw [Int.toNat_natCast]
      exact k⟩
    rw [h1] at HI
    rw [h2] at HE
    have HRB := Lib.hid (fun (W : World) (A : Option Addr) (c : Nat) (hh : Nds W W.heap.size A (l ++ [x])) => rbuild_yes (m := m) (c := c) hh h3 hm)
    have HVS := Lib.hid (fun (W : World) (A : Option Addr) (c : Nat) (hh : Nds W W.heap.size A (l ++ [x])) (t : Nat) (ht : t ≤ 16) => rvisits_any A (l ++ [x]) c x t W hh h3 (by simp) ht)
    have HRT := Lib.hid (fun (W : World) (j : Below w.heap.size w W) => rroute_any A A2 l k c c2 id x.key W ((hl.below j).more j.size) ((hk.below j).more j.size) (by unfold maxLen; omega) hwd)
    have HL := Lib.hid hl
    have HWD9 : ∀ y ∈ l ++ [x], y.word < 4294967296 := fun y hy => by
      rcases List.mem_append.1 hy with hy | hy
      · exact hwd y hy
      · obtain rfl : y = x := by simpa using hy
        exact hxw.2
    have HCK := Lib.hid (fun (W : World) (A : Option Addr) (c : Nat) (h : Nds W W.heap.size A (l ++ [x])) => rcheck_any A (l ++ [x]) c W h HWD9)
    rw [h3] at HCK
    have HFD := Lib.hid (fun (W : World) (j : Below w.heap.size w W) => rfind_any A l c id W ((hl.below j).more j.size) (by omega))
    unfold FndP at HFD
    have hrl := rteR_len10 l k id x.key
    have HVL := Lib.hid (fun (t : Nat) (ht : t ≤ 16) => (by have := vs_le h3 (x := x) (by simp) ht; rw [List.length_append] at this; simp at this; omega : vsV (l ++ [x]) x t ≤ 1000))
    have hb : (decide (plc l id < l.length) = true) ∨ (decide (plc l id < l.length) = false ∧ l.length = 0) := by
      rcases h4 with h4 | h4
      · subst h4; right; simp
      · left; simpa using h4
    generalize decide (plc l id < l.length) = b at *
    generalize rteR l k id x.key = R at *
    generalize rteE l id x.key = RE at *
    obtain ⟨xi, xk, xw⟩ := x
    generalize fndV l id = F at *
    obtain ⟨fi, fk, fw⟩ := F
    simp only [Nd.val] at *
    clear hl hk hkn hwd hxw h1 h2 h3 h4 he hshow hX1 hk1 HWD9
    obtain ⟨LN, hLN⟩ : ∃ n, n = l.length := ⟨_, rfl⟩
    have HLN := Lib.hid hLN
    rw [← hLN] at HE hln0 HFD hb hrl HRT ⊢
    generalize k.length = kn at *
    obtain ⟨B0, hB0⟩ : ∃ B0, B0 = w.heap.size := ⟨_, rfl⟩
    rw [← hB0] at HX1
    clear hLN
    go_enter Tryz.func14, Tryz.ntmps14
    go_upto_region 1 with fail
    rw [← hw1, ← hB0]
    clear hw1 hB0
    go_wp2_with fail
    refine (HI.out _).mono ?_
    rintro e w2 ⟨rfl, rfl⟩
    go_wp2_with fail
    refine (HE.out).mono ?_
    rintro e w2 ⟨rfl, hb2⟩
    have HK2 := Lib.hid (HK1.out.trans (hb2.mono HK1.out.size))
    have HX2 := Lib.hid (HX1.out.below hb2)
    clear hb2 HE HI HK1 HX1
    go_upto_region 5 with fail
    go_cut [13] (fun s wx => ∃ (A6 : Option Addr) (c6 : Nat), s = .slice A6 (l ++ [(⟨xi, xk, xw⟩ : Nd)]).length c6 ∧ Nds wx wx.heap.size A6 (l ++ [(⟨xi, xk, xw⟩ : Nd)]) ∧ Below w2.heap.size w2 wx)
    case first =>
      have hnd : Nds w2 w2.heap.size A l := (HL.out.below HK2.out).more HK2.out.size
      obtain ⟨r0', r1', r2'⟩ : w2.cell? ⟨B0, 0, none⟩ = some (.int .i64 xi) ∧ w2.cell? ⟨B0, 1, none⟩ = some (.string xk) ∧ w2.cell? ⟨B0, 2, none⟩ = some (.int .u32 (xw : Int)) := ⟨HX2.out.cell 0, HX2.out.cell 1, HX2.out.cell 2⟩
      have hXlt : B0 < w2.heap.size := HX2.out.lt
      generalize w2 = W0 at *
      have hS0 : Below W0.heap.size W0 W0.drew := (Below.refl _ _).drew
      refine wp_region_held_drew (S := fun W => Below W0.heap.size W0 W) (by kernel_rfl) hS0 (fun _ => ?_)
      refine takeH (i := 0) (d := some 31) (v := ?_) rfl rfl (by kernel_rfl) (by kernel_rfl) (by kernel_rfl) (fun _ _ _ h => h) (Or.inl ⟨by rfl, ?_⟩) (by assumption) ?_
      rotate_left
      · intro W hSw
        go_simp; try with_reducible rfl
      try simp only [Act.put, List.setIfInBounds_toArray, List.set_cons_zero, List.set_cons_succ]
      refine takeH (i := 2) (d := some 33) (v := ?_) rfl rfl (by kernel_rfl) (by kernel_rfl) (by kernel_rfl) (fun _ _ _ h => h) (Or.inl ⟨by rfl, ?_⟩) (by assumption) ?_
      rotate_left
      · intro W hSw
        have q0 := (Below.cell hSw (p := ⟨B0, 0, none⟩) hXlt).trans r0'
        have q1 := (Below.cell hSw (p := ⟨B0, 1, none⟩) hXlt).trans r1'
        have q2 := (Below.cell hSw (p := ⟨B0, 2, none⟩) hXlt).trans r2'
        go_simp
        try with_reducible rfl
      try simp only [Act.put, List.setIfInBounds_toArray, List.set_cons_zero, List.set_cons_succ]
      refine wpAnyH_ready (rs := [1, 3]) (by kernel_rfl) (by simp) ?_
      refine AllReadyH.cons rfl (fun K hK => ?_) (AllReadyH.cons rfl (fun K hK => ?_) AllReadyH.nil)
      · have nd1 : Nds W0.drew W0.heap.size A l := hnd.below hS0
        refine step_pushNs (w := W0.drew) (o := ⟨some 32, _, _, _, _, _⟩) rfl (.const (.slice none 0 0)) (.tmp 31) 28 (by rfl) W0.drew.heap.size inf Tryz.underlying28 hif hif1 hif2 hif3 (.slice none 0 0) [] (by simp [Act.eval]) (OwnN.nil _ _) W0.heap.size A l LN c HLN.out.symm (by simp [Act.eval]) nd1 (by simp; have := HLN.out; omega) (Nat.le_refl _) ?_
        intro v1 wa ho1 hba
        have hBa : Below W0.heap.size W0 wa := hS0.trans hba
        refine hK.out _ _ hBa (fun _ => ?_)
        clear hK K
        try simp only [Act.put, List.setIfInBounds_toArray, List.set_cons_zero, List.set_cons_succ]
        refine wpAnyH_ready (rs := [3]) (by kernel_rfl) (by simp) ?_
        refine AllReadyH.cons rfl (fun K hK => ?_) AllReadyH.nil
        go_simp
        have hBc : Below W0.heap.size W0 (wa.alloc (.cells #[.int .i64 xi, .string xk, .int .u32 (xw : Int)] 25)) := hBa.trans (((Below.refl _ _).alloc (Nat.le_refl _) (.cells #[.int .i64 xi, .string xk, .int .u32 (xw : Int)] 25)).mono hBa.size)
        have one1 := one_node wa (⟨xi, xk, xw⟩ : Nd)
        have ho1' := ho1.below ((Below.refl _ _).alloc (Nat.le_refl _) (.cells #[.int .i64 xi, .string xk, .int .u32 (xw : Int)] 25))
        refine hK.out _ _ hBc (fun _ => ?_)
        clear hK K
        try simp only [Act.put, List.setIfInBounds_toArray, List.set_cons_zero, List.set_cons_succ]
        refine wpAnyH_ready (rs := [4]) (by kernel_rfl) (by simp) ?_
        refine AllReadyH.cons rfl (fun K hK => ?_) AllReadyH.nil
        refine step_pushNs (w := (wa.alloc (.cells #[.int .i64 xi, .string xk, .int .u32 (xw : Int)] 25))) (o := ⟨some 35, _, _, _, _, _⟩) rfl (.tmp 32) (.tmp 34) 28 (by rfl) W0.drew.heap.size inf Tryz.underlying28 hif hif1 hif2 hif3 v1 ([] ++ l) (by simp [Act.eval]) ho1' _ _ [(⟨xi, xk, xw⟩ : Nd)] 1 1 rfl (by simp [Act.eval]) one1 (by simp; have := HLN.out; omega) (hBc.size) ?_
        intro v2 wb ho2 hbb
        have hBb : Below W0.heap.size W0 wb := hBc.trans hbb
        refine hK.out _ _ hBb (fun _ => ?_)
        clear hK K
        try simp only [Act.put, List.setIfInBounds_toArray, List.set_cons_zero, List.set_cons_succ]
        refine wpAnyH_ready (rs := [5]) (by kernel_rfl) (by simp) ?_
        refine AllReadyH.cons rfl (fun K hK => ?_) AllReadyH.nil
        obtain ⟨A6, c6, rfl, hr6⟩ := ho2.read
        go_simp
        refine hK.out _ _ hBb (fun _ => ?_)
        clear hK K
        try simp only [Act.put, List.setIfInBounds_toArray, List.set_cons_zero, List.set_cons_succ]
        refine wpAnyH_done (by kernel_rfl) ?_ _
        go_wp2_with fail
        go_meet
        exact ⟨A6, c6, by simp, hr6, hBb⟩
      · go_simp
        have hBc : Below W0.heap.size W0 (W0.drew.alloc (.cells #[.int .i64 xi, .string xk, .int .u32 (xw : Int)] 25)) := hS0.trans (((Below.refl _ _).alloc (Nat.le_refl _) (.cells #[.int .i64 xi, .string xk, .int .u32 (xw : Int)] 25)).mono hS0.size)
        have one1 := one_node W0.drew (⟨xi, xk, xw⟩ : Nd)
        refine hK.out _ _ hBc (fun _ => ?_)
        clear hK K
        try simp only [Act.put, List.setIfInBounds_toArray, List.set_cons_zero, List.set_cons_succ]
        refine wpAnyH_ready (rs := [1]) (by kernel_rfl) (by simp) ?_
        refine AllReadyH.cons rfl (fun K hK => ?_) AllReadyH.nil
        have nd1 : Nds (W0.drew.alloc (.cells #[.int .i64 xi, .string xk, .int .u32 (xw : Int)] 25)) W0.heap.size A l := hnd.below hBc
        refine step_pushNs (w := (W0.drew.alloc (.cells #[.int .i64 xi, .string xk, .int .u32 (xw : Int)] 25))) (o := ⟨some 32, _, _, _, _, _⟩) rfl (.const (.slice none 0 0)) (.tmp 31) 28 (by rfl) (W0.drew.alloc (.cells #[.int .i64 xi, .string xk, .int .u32 (xw : Int)] 25)).heap.size inf Tryz.underlying28 hif hif1 hif2 hif3 (.slice none 0 0) [] (by simp [Act.eval]) (OwnN.nil _ _) W0.heap.size A l LN c HLN.out.symm (by simp [Act.eval]) nd1 (by simp; have := HLN.out; omega) (Nat.le_refl _) ?_
        intro v1 wa ho1 hba
        have hBa : Below W0.heap.size W0 wa := hBc.trans (hba.mono hBc.size)
        have one2 := one1.below (hba.mono (by rw [World.size_alloc]; exact Nat.le_refl _))
        refine hK.out _ _ hBa (fun _ => ?_)
        clear hK K
        try simp only [Act.put, List.setIfInBounds_toArray, List.set_cons_zero, List.set_cons_succ]
        refine wpAnyH_ready (rs := [4]) (by kernel_rfl) (by simp) ?_
        refine AllReadyH.cons rfl (fun K hK => ?_) AllReadyH.nil
        refine step_pushNs (w := wa) (o := ⟨some 35, _, _, _, _, _⟩) rfl (.tmp 32) (.tmp 34) 28 (by rfl) (W0.drew.alloc (.cells #[.int .i64 xi, .string xk, .int .u32 (xw : Int)] 25)).heap.size inf Tryz.underlying28 hif hif1 hif2 hif3 v1 ([] ++ l) (by simp [Act.eval]) ho1 _ _ [(⟨xi, xk, xw⟩ : Nd)] 1 1 rfl (by simp [Act.eval]) one2 (by simp; have := HLN.out; omega) (hba.size) ?_
        intro v2 wb ho2 hbb
        have hBb : Below W0.heap.size W0 wb := hBa.trans (hbb.mono hBc.size)
        refine hK.out _ _ hBb (fun _ => ?_)
        clear hK K
        try simp only [Act.put, List.setIfInBounds_toArray, List.set_cons_zero, List.set_cons_succ]
        refine wpAnyH_ready (rs := [5]) (by kernel_rfl) (by simp) ?_
        refine AllReadyH.cons rfl (fun K hK => ?_) AllReadyH.nil
        obtain ⟨A6, c6, rfl, hr6⟩ := ho2.read
        go_simp
        refine hK.out _ _ hBb (fun _ => ?_)
        clear hK K
        try simp only [Act.put, List.setIfInBounds_toArray, List.set_cons_zero, List.set_cons_succ]
        refine wpAnyH_done (by kernel_rfl) ?_ _
        go_wp2_with fail
        go_meet
        exact ⟨A6, c6, by simp, hr6, hBb⟩
    case rest =>
    obtain ⟨A6, c6, rfl, hn6, hb6w⟩ := hcut
    have hb6 := HK2.out.trans (hb6w.mono HK2.out.size)
    have HX6 := Lib.hid (HX2.out.below hb6w)
    clear hb6w HX2 HK2
    have HCK6 := Lib.hid (HCK.out wc A6 c6 hn6)
    have HN6 := Lib.hid hn6
    obtain ⟨L1, hL1⟩ : ∃ n, n = (l ++ [(⟨xi, xk, xw⟩ : Nd)]).length := ⟨_, rfl⟩
    have HL1 := Lib.hid hL1
    rw [← hL1] at HCK6 ⊢
    clear hL1 hn6
    go_wp2_with fail
    refine (HCK6.out).mono ?_
    rintro e w3 ⟨rfl, hb3⟩
    have HK3 := Lib.hid (hb6.trans (hb3.mono hb6.size))
    have HX3 := Lib.hid (HX6.out.below hb3)
    have HN3 := Lib.hid ((HN6.out.below hb3).more hb3.size)
    clear hb3 hb6 HCK6 HN6 HX6
    go_wp2_with fail
    refine (HFD.out _ HK3.out).mono ?_
    rintro e w4 ⟨rfl, hb4⟩
    have HK4 := Lib.hid (HK3.out.trans (hb4.mono HK3.out.size))
    have HX4 := Lib.hid (HX3.out.below hb4)
    have HN4 := Lib.hid ((HN3.out.below hb4).more hb4.size)
    clear hb4 HK3 HN3 HFD HX3
    go_upto_region 10 with fail
    have HK5 := Lib.hid (HK4.out.alloc HK4.out.size (.cells #[.int .i64 fi, .string fk, .int .u32 (fw : Int)] 25))
    have hb5 := (Below.refl w4.heap.size w4).alloc (Nat.le_refl _) (.cells #[.int .i64 fi, .string fk, .int .u32 (fw : Int)] 25)
    have HX5 := Lib.hid (HX4.out.below hb5)
    have HN5 := Lib.hid ((HN4.out.below hb5).more hb5.size)
    clear hb5 HK4 HN4 HX4
    generalize w4.alloc (.cells #[.int .i64 fi, .string fk, .int .u32 (fw : Int)] 25) = w5 at *
    go_cut [53] (fun s wx => s = .bool false ∧ w5 = wx)
    case first =>
      rcases hb with rfl | ⟨rfl, h0⟩
      · go_wp2_with fail
        go_meet
        exact ⟨rfl, rfl⟩
      · have h0z : ¬ (0 : Int) < (LN : Int) := by omega
        have H0 := Lib.hid h0
        clear h0
        go_wp2_with fail
        go_meet
        exact ⟨by simp; exact H0.out, rfl⟩
    case rest =>
    obtain ⟨rfl, rfl⟩ := hcut
    clear hb
    have y0 := HX5.out.cell 0
    have y1 := HX5.out.cell 1
    have y2 := HX5.out.cell 2
    simp at y0 y1 y2
    go_wp2_with fail
    refine (HRT.out _ HK5.out).mono ?_
    rintro e w6 ⟨v6, rfl, hoh, hb6⟩
    have HK6 := Lib.hid (HK5.out.trans (hb6.mono HK5.out.size))
    have HX6 := Lib.hid (HX5.out.below hb6)
    have HN6 := Lib.hid ((HN5.out.below hb6).more hb6.size)
    obtain ⟨AH, cH, rfl, -⟩ := hoh.read
    obtain ⟨RL, hRL⟩ : ∃ n, n = R.length := ⟨_, rfl⟩
    have HRL := Lib.hid hRL
    rw [← hRL] at hrl ⊢
    clear hoh hb6 HK5 HN5 HRT hRL HX5 y0 y1 y2
    go_wp2_with fail
    have HVS6 := Lib.hid (fun (W : World) (j : Below w6.heap.size w6 W) => HVS.out W A6 c6 ((HN6.out.below j).more j.size))
    have HRB6 := Lib.hid (fun (W : World) (j : Below w6.heap.size w6 W) => HRB.out W A6 c6 ((HN6.out.below j).more j.size))
    rw [← HL1.out] at HVS6 HRB6
    generalize vsV (l ++ [(⟨xi, xk, xw⟩ : Nd)]) ⟨xi, xk, xw⟩ = vs at *
    generalize bldV (l ++ [(⟨xi, xk, xw⟩ : Nd)]) (m + 1) = BV at *
    clear HVS HRB HN6
    go_loopw [19, 20] (fun vn vi wr => ∃ (n t : Nat), vn = .int .i64 (n : Int) ∧ vi = .int .i64 (t : Int) ∧ t ≤ m ∧ n ≤ 1001 + 1000 * t ∧ Hid (n = RL + sumR vs t) ∧ Below w6.heap.size w6 wr) (fun _ vi _ => m - (intOf vi).toNat)
    case atStart => exact ⟨RL, 0, rfl, rfl, by omega, by omega, Lib.hid rfl, Below.refl _ _⟩
    case round =>
      obtain ⟨n, t, rfl, rfl, ht, hn, HQ, hB⟩ := hrel
      by_cases hlt : t < m
      · have i1 : (t : Int) < (m : Int) := by omega
        have y0 := (HX6.out.below hB).cell 0
        have y1 := (HX6.out.below hB).cell 1
        have y2 := (HX6.out.below hB).cell 2
        simp at y0 y1 y2
        have HV := Lib.hid (HVS6.out wr hB t (by omega))
        have HB := Lib.hid hB
        have HVT := Lib.hid (HVL.out t (by omega))
        clear hB
        go_wp2_with fail
        refine (HV.out).mono ?_
        rintro e wa ⟨rfl, hba⟩
        have HBA := Lib.hid (HB.out.trans (hba.mono HB.out.size))
        have hvt := HVT.out
        obtain ⟨vt, hvt2⟩ : ∃ vt, vt = vs t := ⟨_, rfl⟩
        have HVV := Lib.hid hvt2
        rw [← hvt2] at hvt ⊢
        clear hba hvt2 HV HVT HB y0 y1 y2
        go_wp2_with fail
        exact ⟨⟨n + vt, t + 1, by go_num, by go_num, hlt, by omega, Lib.hid (by rw [HQ.out, HVV.out]; show _ = RL + (sumR vs t + vs t); omega), HBA.out⟩, by simp [intOf]; omega⟩
      · have i1 : ¬ (t : Int) < (m : Int) := by omega
        have et : t = m := by omega
        have HNN : Hid (((R.length + sumR vs m : Nat) : Int) = (n : Int)) := Lib.hid (by rw [← HRL.out, HQ.out, et])
        have HBR := Lib.hid (HK6.out.trans (hB.mono HK6.out.size))
        have HRB7 := Lib.hid (HRB6.out wr hB)
        clear HQ hB et HRB6
        go_wp2_with fail
        refine (HRB7.out).mono ?_
        rintro e wd ⟨v, rfl, hov, hbd⟩
        have HOV := Lib.hid (hov.low HBR.out.size)
        have HBd := Lib.hid (HBR.out.trans (hbd.mono HBR.out.size))
        clear hov hbd HRB7
        go_wp2_with fail
        go_ret3
        exact ⟨v, by rw [HNN.out]; rfl, HOV.out, HBd.out⟩
end
end Go.Proofs.YtjokbdhineilcaaGreatDoor
