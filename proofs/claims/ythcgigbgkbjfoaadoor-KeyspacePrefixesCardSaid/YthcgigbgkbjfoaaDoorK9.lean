/-
  The walk of KeyspacePrefixes: from whatever arguments it answers true and only makes memory. Conditions: 'letters' holds six strings of one byte; the first argument reads as a slice of ints.
-/
import Derived.Test.YthcgigbgkbjfoaaDoorKsL
import Derived.Test.YthcgigbgkbjfoaaDoorKsN
namespace Go.Proofs.YthcgigbgkbjfoaaDoor
open Go.RowKit

set_option maxRecDepth 100000 in
set_option maxHeartbeats 12800000 in
theorem prefixes_walk (A : Option Addr) (n0 cp : Nat) (key : ByteArray) (w : World) (hl : Lets w) (hw : 0 < w.heap.size) (hnc : n0 ≤ cp) (hc : cp ≤ maxLen) (hN : Nums w w.heap.size A n0) :
    Calls Tryd.prog 11 #[.slice A n0 cp, .string key] w (LawP w) := by
  go_enter Tryd.func11, Tryd.ntmps11
  go_wp2_with fail
  refine (new_any A n0 cp _ hl hw hnc hc hN).mono ?_
  rintro e w1 ⟨g, hg1, rfl, hT, hb⟩
  have hA : At w [] g w1 := ⟨(Inv.nil w).below hb, hT⟩
  clear hb hT hl hN hnc hc
  go_wp2_with fail
  refine (key_any g _ hA.2).mono ?_
  rintro e w2 ⟨p, hp, rfl, hst⟩
  replace hA := hA.step hst hg1 (fun _ h => by cases h)
  clear hst
  have hvp : vk p = true := by unfold vk; exact decide_eq_true hp
  go_wp2_with fail
  refine (pre_key p _).mono ?_
  rintro e w3 ⟨rfl, hb⟩
  replace hA := hA.below hb
  clear hb
  have hgB := hA.2.lt
  replace hA := hA.add 34 #[Value.string (Rg.pre p).lo.key, Value.bool (Rg.pre p).lo.top, Value.string (Rg.pre p).hi.key, Value.bool (Rg.pre p).hi.top]
  generalize hBB : w3.heap.size = B at hA hgB
  have hne1 : ∀ q ∈ [(B, 34, #[Value.string (Rg.pre p).lo.key, Value.bool (Rg.pre p).lo.top, Value.string (Rg.pre p).hi.key, Value.bool (Rg.pre p).hi.top])], q.1 ≠ g := by (simp; omega)
  go_wp2_with fail
  refine (key_any g _ hA.2).mono ?_
  rintro e w4 ⟨k1, hk1, rfl, hst⟩
  replace hA := hA.step hst hg1 hne1
  clear hst
  go_wp2_with fail
  refine (key_any g _ hA.2).mono ?_
  rintro e w5 ⟨k2, hk2, rfl, hst⟩
  replace hA := hA.step hst hg1 hne1
  clear hst
  have hBs := (hA.1.2 _ (.head _)).lt
  simp only at hBs
  go_wp2_with fail
  replace hA := hA.add 9 #[Value.string k1, Value.string (p ++ k2), Value.string p, Value.string key, Value.string (p ++ ⟨#[255, 255]⟩), Value.string ⟨#[255, 255, 255]⟩]
  have hgD : g < w5.heap.size := by omega
  generalize w5.heap.size = D at *
  have hne2 : ∀ q ∈ [(D, 9, #[Value.string k1, Value.string (p ++ k2), Value.string p, Value.string key, Value.string (p ++ ⟨#[255, 255]⟩), Value.string ⟨#[255, 255, 255]⟩]), (B, 34, #[Value.string (Rg.pre p).lo.key, Value.bool (Rg.pre p).lo.top, Value.string (Rg.pre p).hi.key, Value.bool (Rg.pre p).hi.top])], q.1 ≠ g := by (simp; omega)
  go_loopw [30] (fun i wr => ∃ k : Nat, k ≤ 6 ∧ i = .int .i64 k ∧ At w [(D, 9, #[Value.string k1, Value.string (p ++ k2), Value.string p, Value.string key, Value.string (p ++ ⟨#[255, 255]⟩), Value.string ⟨#[255, 255, 255]⟩]), (B, 34, #[Value.string (Rg.pre p).lo.key, Value.bool (Rg.pre p).lo.top, Value.string (Rg.pre p).hi.key, Value.bool (Rg.pre p).hi.top])] g wr) (fun i _ => 6 - (intOf i).toNat)
  case atStart => exact ⟨0, by omega, rfl, hA⟩
  case round =>
    clear hA
    obtain ⟨k, hk, rfl, hA⟩ := hrel
    obtain ⟨cD, fD⟩ := hA.1.hd
    obtain ⟨cB, fB⟩ := hA.1.tl.hd
    by_cases hlt : k < 6
    · obtain ⟨x, hx⟩ : ∃ x : ByteArray, #[Value.string k1, Value.string (p ++ k2), Value.string p, Value.string key, Value.string (p ++ ⟨#[255, 255]⟩), Value.string ⟨#[255, 255, 255]⟩][k]? = some (.string x) := by
        match k, hlt with
        | 0, _ | 1, _ | 2, _ | 3, _ | 4, _ | 5, _ => exact ⟨_, rfl⟩
      replace hx := (cD k).trans hx
      simp only at hx
      have HP := Lib.hid (pre_has (p := p) (x := x) hvp)
      clear cD fD
      by_cases hge : p.size ≤ x.size
      · have hxp := ext_pre hge
        cases hb : decide (p.data.toList <+: x.data.toList) <;> cases hv : vk x
        all_goals
          have hv2 : decide ((x.size : Int) ≤ 64) = _ := (vk_int x).trans hv
          rw [hb] at hxp
          have hh := HP.out
          rw [hb, hv] at hh
          have HH := Lib.hid hh
          clear hh hb hv HP
          go_wp2_with (go_at_call 35; refine (has_key (Rg.pre p) _ _).mono ?_; rintro e w6 ⟨he6, hb6⟩; rw [HH.out] at he6; subst he6; replace hA := hA.below hb6; clear hb6)
          go_roundw
          case rel => exact ⟨k + 1, hlt, by go_num, hA⟩
          case measure => simp [intOf]; omega
      · have hb := no_pre hge
        cases hv : vk x
        all_goals
          have hv2 : decide ((x.size : Int) ≤ 64) = _ := (vk_int x).trans hv
          have hh := HP.out
          rw [hb, hv] at hh
          have HH := Lib.hid hh
          clear hh hb hv HP
          go_wp2_with (go_at_call 35; refine (has_key (Rg.pre p) _ _).mono ?_; rintro e w6 ⟨he6, hb6⟩; rw [HH.out] at he6; subst he6; replace hA := hA.below hb6; clear hb6)
          go_roundw
          case rel => exact ⟨k + 1, hlt, by go_num, hA⟩
          case measure => simp [intOf]; omega
    · go_wp2_with fail
      obtain ⟨q, hq⟩ : ∃ q : ByteArray, q = p ++ (⟨#[97]⟩ : ByteArray) := ⟨_, rfl⟩
      rw [← hq]
      have hqd : q.data.toList = p.data.toList ++ [97] := by rw [hq, ByteArray.data_append, Array.toList_append]
      clear hq cD fD cB fB
      have rB := fun (w' : World) (h : At w [(D, 9, #[Value.string k1, Value.string (p ++ k2), Value.string p, Value.string key, Value.string (p ++ ⟨#[255, 255]⟩), Value.string ⟨#[255, 255, 255]⟩]), (B, 34, #[Value.string (Rg.pre p).lo.key, Value.bool (Rg.pre p).lo.top, Value.string (Rg.pre p).hi.key, Value.bool (Rg.pre p).hi.top])] g w') => h.1.tl.hd.1
      simp only at rB
      cases hv : vk q
      · have hv2 := vk_int2 q
        rw [hv] at hv2
        simp only [Bool.not_false] at hv2
        clear hqd hv
        first | (go_region_with (go_at_call 21; refine (sane_any _).mono ?_; rintro e w6 ⟨rfl, hb6⟩)) | fail
        all_goals
          go_wp2
          go_ret
          exact ⟨rfl, (hA.drew.below hb6).1.1⟩
      · have hv2 := vk_int2 q
        rw [hv] at hv2
        simp only [Bool.not_true] at hv2
        have HSUB := Lib.hid (fun h => pre_sub hvp h hqd)
        have HV := Lib.hid hv
        clear hqd hv
        go_region_held3 (fun w' => At w [(D, 9, #[Value.string k1, Value.string (p ++ k2), Value.string p, Value.string key, Value.string (p ++ ⟨#[255, 255]⟩), Value.string ⟨#[255, 255, 255]⟩]), (B, 34, #[Value.string (Rg.pre p).lo.key, Value.bool (Rg.pre p).lo.top, Value.string (Rg.pre p).hi.key, Value.bool (Rg.pre p).hi.top])] g w')
          (first | with_reducible exact hS1 | with_reducible exact hA.drew | with_reducible assumption)
          (first | (go_at_call 29; refine (pre_key q _).mono ?_; rintro e w6 ⟨rfl, hb6⟩; have hS1 := At.below ‹_› hb6; clear hb6)
                 | (go_at_call 37; refine (int_key (Rg.pre p) (Rg.pre q) _).mono ?_; rintro e w6 ⟨he6, hb6⟩; rw [HSUB.out HV.out] at he6; subst he6; have hS1 := At.below ‹_› hb6; clear hb6)
                 | (go_at_call 21; refine (sane_any _).mono ?_; rintro e w6 ⟨rfl, hb6⟩; have hS1 := At.below ‹_› hb6; clear hb6))
        go_wp2
        go_ret
        exact ⟨rfl, hS1.1.1⟩
end Go.Proofs.YthcgigbgkbjfoaaDoor
