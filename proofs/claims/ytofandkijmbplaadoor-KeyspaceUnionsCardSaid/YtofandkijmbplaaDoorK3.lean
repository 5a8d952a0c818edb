/-
  The walk of KeyspaceUnions: from whatever arguments it answers true and only makes memory. Conditions: 'letters' holds six strings of one byte; the first argument reads as a slice of ints, the second as a slice of ranges.
-/
import Derived.Test.YtofandkijmbplaaDoorKtH
import Derived.Test.YtofandkijmbplaaDoorKtI
import Derived.Test.YtofandkijmbplaaDoorKsZ
namespace Go.Proofs.YtofandkijmbplaaDoor
open Go.RowKit

theorem At.grownU {w a b : World} {g : Nat} {r : Option Nat} (h : At w [] g a) (k : a.grownBy b r) (hr : ∀ i, r = some i → w.heap.size ≤ i ∧ g < i) : At w [] g b := by
  obtain ⟨h1, hl, h0, A, n, c, q, k1, k2, hn, hb⟩ := h
  have hgl := blk_lt hb
  have hk : ∀ i, i ≤ g → b.heap[i]? = a.heap[i]? := fun i hi => k.block i (by omega) (fun e => by have := (hr i e.symm).2; omega)
  exact ⟨⟨h1.1.grown k h1.1.size (fun i e => (hr i e).1), fun q hq => by cases hq⟩, hl.keep (hk _ (by omega)), h0, A, n, c, q, k1, k2, hn.keep (fun i hi => hk i (by omega)), (hk g (Nat.le_refl _)).trans hb⟩

set_option maxRecDepth 100000 in
set_option maxHeartbeats 3200000 in
theorem unions_walk (A : Option Addr) (n0 cp : Nat) (A1 : Option Addr) (l1 : List Rg) (c1 : Nat) (p : ByteArray) (w : World) (hl : Lets w) (hw : 0 < w.heap.size) (hnc : n0 ≤ cp) (hc : cp ≤ maxLen) (hN : Nums w w.heap.size A n0)
    (hlc : l1.length ≤ c1) (hcm : c1 ≤ maxLen) (hR1 : Rgs w w.heap.size A1 l1) :
    Calls Tryd.prog 3 #[.slice A n0 cp, .slice A1 l1.length c1, .string p] w (LawP w) := by
  obtain ⟨i0, hi0, hz0, hz1, hz2⟩ := info_parts infoRange
  go_enter Tryd.func3, Tryd.ntmps3
  go_wp2_with fail
  refine (new_any A n0 cp _ hl hw hnc hc hN).mono ?_
  rintro e w1 ⟨g, hg1, rfl, hT, hb⟩
  have hA : At w [] g w1 := ⟨(Inv.nil w).below hb, hT⟩
  clear hb hT hl hN hnc hc
  go_wp2_with fail
  go_loopw [8] (fun i wz => ∃ k : Nat, k ≤ 4 ∧ i = .int .i64 k ∧ At w [] g wz) (fun i _ => 4 - (intOf i).toNat)
  case atStart => exact ⟨0, by omega, rfl, hA⟩
  case round =>
    clear hA
    obtain ⟨k, hk, rfl, hA⟩ := hrel
    by_cases hlt : k < 4
    · go_wp2_with fail
      refine (next_any g _ _ hA.2 (by omega)).mono ?_
      rintro e w2 ⟨q, q0, q1, rfl, hst⟩
      replace q1 := next_lt q1 (by decide)
      replace hA := hA.step hst hg1 (fun _ h => by cases h)
      clear hst
      have hown0 := World.ownsRow_nil w2 (g + 1) 30 4
      obtain ⟨k0, rfl⟩ := Int.eq_ofNat_of_zero_le q0
      go_wp2_with fail
      go_loopw [9, 10] (fun out i wz => ∃ (k2 : Nat) (l : List Rg), l.length + k2 ≤ 6 ∧ i = .int .i64 k2 ∧ wz.ownsRow (g + 1) 30 4 out l.length (flat l) ∧ At w [] g wz) (fun _ i _ => (intOf i).toNat)
      case atStart => exact ⟨k0, [], by (show 0 + k0 ≤ 6; omega), rfl, hown0, hA⟩
      case round =>
        clear hA hown0 q1 q0
        obtain ⟨k2, l, hk2, rfl, hown, hA⟩ := hrel
        by_cases hlt2 : 0 < k2
        · go_wp2_with fail
          refine (range_any g _ hA.2).mono ?_
          rintro e w3 ⟨x, _, _, rfl, hst⟩
          have ho3 := own_step hown hst (by omega)
          replace hA := hA.step hst hg1 (fun _ h => by cases h)
          clear hst hown
          go_wp2_with (at_builtin; refine wpList_append_own _ rfl _ _ 23 rfl (g + 1) 30 i0 _ 4 48 Tryd.underlying23 hi0 hz0 hz1 hz2 rfl (by decide) _ _ _ rfl (own_below ho3 ((Below.refl _ _).alloc (Nat.le_refl _) _)) ⟨w3.heap.size, 0, none⟩ 1 1 [.string x.lo.key, .bool x.lo.top, .string x.hi.key, .bool x.hi.top] rfl rfl (news4 _ _ _ _ _ _) (ones4 _ _ _ _) ?c3 ?c4 ?c5 ?_)
          case c3 => unfold maxLen; omega
          case c4 => omega
          case c5 => have := hA.2.lt; simp; omega
          intro v' w4 hown' hgrow hnil
          go_wp2
          go_roundw
          case rel => exact ⟨k2 - 1, l ++ [x], by rw [List.length_append]; (show l.length + 1 + (k2 - 1) ≤ 6); omega, by congr 1; omega, by rw [List.length_append, flat_snoc]; exact hown', (hA.alloc _).grownU hgrow (fun i hi => by have := own_base ho3 hi; omega)⟩
          case measure => simp [intOf]; omega
        · go_wp2_with fail
          refine (oddKey_any g _ hA.2).mono ?_
          rintro e w3 ⟨key, hkey, rfl, hst⟩
          have ho3 := own_step hown hst (by omega)
          replace hA := hA.step hst hg1 (fun _ h => by cases h)
          clear hst hown hkey
          by_cases h3 : k = 3
          · by_cases h200 : l1.length ≤ 200
            · have hR := (hR1.keep (fun i hi => hA.1.1.block i hi)).more hA.1.1.size
              obtain ⟨pr, hpr⟩ : ∃ pr, Rg.pre p = pr := ⟨_, rfl⟩
              have HPR := Lib.hid hpr
              clear hpr
              obtain ⟨⟨pa, pb⟩, ⟨pc, pd⟩⟩ := pr
              go_wp2_with (first | (go_at_call 19; refine (union_key l1 A1 c1 _ hR (by omega) hlc hcm).mono ?_; rintro e w6 ⟨u, hu, v6, rfl, ho6, hb6⟩; obtain ⟨A5, c5, rfl, e1, e2, e3⟩ := own_rgs5 ho6; replace hA := hA.below hb6; replace hR := rgs_on hR hb6; clear hb6 ho6) | (go_at_call 20; refine (union_ref l1 A1 c1 _ hR (by omega) hlc hcm).mono ?_; rintro e w7 ⟨u7, hu7, v7, rfl, ho7, hb7⟩; have e7 := uni_unique hu hu7 (fun _ => Iff.rfl); subst e7; obtain ⟨A7, c7, rfl, f1, f2, f3⟩ := own_rgs5 ho7; have e4 := rgs_on e3 hb7; replace hA := hA.below hb7; clear hb7 ho7 hu7) | (go_at_call 18; refine (same_ref u A5 A7 c5 c7 _ e4 f3 (by have := hu.2.2; omega)).mono ?_; rintro e w8 ⟨rfl, hb8⟩; replace hA := hA.below hb8; clear hb8) | (go_at_call 21; refine (pre_key p _).mono ?_; rintro e w9 ⟨he9, hb9⟩; rw [HPR.out] at he9; subst he9; replace hA := hA.below hb9; clear hb9) | (go_at_call 22; refine (pre_ref p _).mono ?_; rintro e w9 ⟨he9, hb9⟩; rw [HPR.out] at he9; subst he9; replace hA := hA.below hb9; clear hb9))
              go_roundw
              case rel => exact ⟨k + 1, hlt, by go_num, hA⟩
              case measure => simp [intOf]; omega
            · obtain ⟨A9, c9, rfl, g1, g2, hR⟩ := own_rgs5 ho3
              obtain ⟨pr, hpr⟩ : ∃ pr, Rg.pre key = pr := ⟨_, rfl⟩
              have HPR := Lib.hid hpr
              clear hpr
              obtain ⟨⟨pa, pb⟩, ⟨pc, pd⟩⟩ := pr
              go_wp2_with (first | (go_at_call 19; refine (union_key l A9 c9 _ hR (by omega) g1 g2).mono ?_; rintro e w6 ⟨u, hu, v6, rfl, ho6, hb6⟩; obtain ⟨A5, c5, rfl, e1, e2, e3⟩ := own_rgs5 ho6; replace hA := hA.below hb6; replace hR := rgs_on hR hb6; clear hb6 ho6) | (go_at_call 20; refine (union_ref l A9 c9 _ hR (by omega) g1 g2).mono ?_; rintro e w7 ⟨u7, hu7, v7, rfl, ho7, hb7⟩; have e7 := uni_unique hu hu7 (fun _ => Iff.rfl); subst e7; obtain ⟨A7, c7, rfl, f1, f2, f3⟩ := own_rgs5 ho7; have e4 := rgs_on e3 hb7; replace hA := hA.below hb7; clear hb7 ho7 hu7) | (go_at_call 18; refine (same_ref u A5 A7 c5 c7 _ e4 f3 (by have := hu.2.2; omega)).mono ?_; rintro e w8 ⟨rfl, hb8⟩; replace hA := hA.below hb8; clear hb8) | (go_at_call 21; refine (pre_key key _).mono ?_; rintro e w9 ⟨he9, hb9⟩; rw [HPR.out] at he9; subst he9; replace hA := hA.below hb9; clear hb9) | (go_at_call 22; refine (pre_ref key _).mono ?_; rintro e w9 ⟨he9, hb9⟩; rw [HPR.out] at he9; subst he9; replace hA := hA.below hb9; clear hb9))
              go_roundw
              case rel => exact ⟨k + 1, hlt, by go_num, hA⟩
              case measure => simp [intOf]; omega
          · obtain ⟨A9, c9, rfl, g1, g2, hR⟩ := own_rgs5 ho3
            obtain ⟨pr, hpr⟩ : ∃ pr, Rg.pre key = pr := ⟨_, rfl⟩
            have HPR := Lib.hid hpr
            clear hpr
            obtain ⟨⟨pa, pb⟩, ⟨pc, pd⟩⟩ := pr
            go_wp2_with (first | (go_at_call 19; refine (union_key l A9 c9 _ hR (by omega) g1 g2).mono ?_; rintro e w6 ⟨u, hu, v6, rfl, ho6, hb6⟩; obtain ⟨A5, c5, rfl, e1, e2, e3⟩ := own_rgs5 ho6; replace hA := hA.below hb6; replace hR := rgs_on hR hb6; clear hb6 ho6) | (go_at_call 20; refine (union_ref l A9 c9 _ hR (by omega) g1 g2).mono ?_; rintro e w7 ⟨u7, hu7, v7, rfl, ho7, hb7⟩; have e7 := uni_unique hu hu7 (fun _ => Iff.rfl); subst e7; obtain ⟨A7, c7, rfl, f1, f2, f3⟩ := own_rgs5 ho7; have e4 := rgs_on e3 hb7; replace hA := hA.below hb7; clear hb7 ho7 hu7) | (go_at_call 18; refine (same_ref u A5 A7 c5 c7 _ e4 f3 (by have := hu.2.2; omega)).mono ?_; rintro e w8 ⟨rfl, hb8⟩; replace hA := hA.below hb8; clear hb8) | (go_at_call 21; refine (pre_key key _).mono ?_; rintro e w9 ⟨he9, hb9⟩; rw [HPR.out] at he9; subst he9; replace hA := hA.below hb9; clear hb9) | (go_at_call 22; refine (pre_ref key _).mono ?_; rintro e w9 ⟨he9, hb9⟩; rw [HPR.out] at he9; subst he9; replace hA := hA.below hb9; clear hb9))
            go_roundw
            case rel => exact ⟨k + 1, hlt, by go_num, hA⟩
            case measure => simp [intOf]; omega
    · go_wp2_with (go_at_call 23; refine (sane_any _).mono ?_; rintro e w6 ⟨rfl, hb6⟩; replace hA := hA.below hb6; clear hb6)
      go_ret
      exact ⟨rfl, hA.1.1⟩
end Go.Proofs.YtofandkijmbplaaDoor
