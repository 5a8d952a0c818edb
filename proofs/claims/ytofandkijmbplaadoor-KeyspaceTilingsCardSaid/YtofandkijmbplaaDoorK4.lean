/-
  The walk of KeyspaceTilings: from whatever arguments it answers true and only makes memory. Conditions: 'letters' holds six strings of one byte; the first argument reads as a slice of ints, the second as a slice of ranges.
-/
import Derived.Test.YtofandkijmbplaaDoorKtB
import Derived.Test.YtofandkijmbplaaDoorKsO
import Derived.Deep.RegionLawGrows
import Derived.Deep.AppendLies
import Derived.Deep.CutRange
namespace Go.Proofs.YtofandkijmbplaaDoor
open Go.RowKit

theorem tiles_key' (l : List Rg) (N : Nat) (r : Rg) (A : Option Addr) (c : Nat) (w : World) (hN : N = l.length) (hl : Rgs w w.heap.size A l) (hc : N ≤ c) (hm : c ≤ maxLen) :
    Calls Tryd.prog 26 #[.slice A N c, r.val] w (TilesP l r w) := by subst hN; exact tiles_key l r A c w hl hc hm
theorem tiles_ref' (l : List Rg) (N : Nat) (r : Rg) (A : Option Addr) (c : Nat) (w : World) (hN : N = l.length) (hl : Rgs w w.heap.size A l) (hc : N ≤ c) (hm : c ≤ maxLen) :
    Calls Tryd.prog 27 #[.slice A N c, r.val] w (TilesP l r w) := by subst hN; exact tiles_ref l r A c w hl hc hm

set_option maxRecDepth 100000 in
set_option maxHeartbeats 12800000 in
theorem tilings_walk (A : Option Addr) (n0 cp : Nat) (A1 : Option Addr) (l1 : List Rg) (c1 : Nat) (r : Rg) (w : World) (hl : Lets w) (hw : 0 < w.heap.size) (hnc : n0 ≤ cp) (hc : cp ≤ maxLen) (hN : Nums w w.heap.size A n0)
    (hlc : l1.length ≤ c1) (hcm : c1 ≤ maxLen) (hR : Rgs w w.heap.size A1 l1) :
    Calls Tryd.prog 4 #[.slice A n0 cp, .slice A1 l1.length c1, r.val] w (LawP w) := by
  obtain ⟨i0, hi0, hz0, hz1, hz2⟩ := info_parts infoRange
  have hI := (Inv.nil w).add 30 #[Value.string r.lo.key, Value.bool r.lo.top, Value.string r.hi.key, Value.bool r.hi.top]
  have hl' := hl.keep (hI.1.block _ hw)
  have hN' := (hN.keep (fun i hi => hI.1.block i hi)).more hI.1.size
  go_enter Tryd.func4, Tryd.ntmps4
  go_wp2_with fail
  refine (new_any A n0 cp _ hl' (Nat.lt_of_lt_of_le hw hI.1.size) hnc hc hN').mono ?_
  rintro e w1 ⟨g, hg, rfl, hT, hb⟩
  have hg1 : w.heap.size + 1 ≤ g := by simpa using hg
  have hg2 : w.heap.size ≤ g := by omega
  have hne : ∀ q ∈ [(w.heap.size, 30, #[Value.string r.lo.key, Value.bool r.lo.top, Value.string r.hi.key, Value.bool r.hi.top])], q.1 ≠ g := by (simp; omega)
  have hA : At w [(w.heap.size, 30, #[Value.string r.lo.key, Value.bool r.lo.top, Value.string r.hi.key, Value.bool r.hi.top])] g w1 := ⟨hI.below hb, hT⟩
  clear hb hT hg hI hl hl' hN hN' hnc hc
  go_wp2_with fail
  go_loopw [8] (fun i wr => ∃ k : Nat, k ≤ 5 ∧ i = .int .i64 k ∧ At w [(w.heap.size, 30, #[Value.string r.lo.key, Value.bool r.lo.top, Value.string r.hi.key, Value.bool r.hi.top])] g wr) (fun i _ => 5 - (intOf i).toNat)
  case atStart => exact ⟨0, by omega, rfl, hA⟩
  case round =>
    clear hA
    obtain ⟨k, hk, rfl, hA⟩ := hrel
    by_cases hlt : k < 5
    · go_wp2_with fail
      refine (range_any g _ hA.2).mono ?_
      rintro e w2 ⟨x, _, _, rfl, hst⟩
      replace hA := hA.step hst hg2 hne
      clear hst
      go_wp2_with fail
      have hgB := hA.2.lt
      replace hA := hA.add 30 #[Value.string x.lo.key, Value.bool x.lo.top, Value.string x.hi.key, Value.bool x.hi.top]
      have hne2 : ∀ q ∈ [(w2.heap.size, 30, #[Value.string x.lo.key, Value.bool x.lo.top, Value.string x.hi.key, Value.bool x.hi.top]), (w.heap.size, 30, #[Value.string r.lo.key, Value.bool r.lo.top, Value.string r.hi.key, Value.bool r.hi.top])], q.1 ≠ g := by (simp; omega)
      refine (pieces_any x g _ hA.2).mono ?_
      rintro e w3 ⟨l, v, hl1, hl5, _, rfl, hown, hst⟩
      replace hA := hA.step hst hg2 hne2
      have hw3 := hst.2.size
      have hgw := hA.2.lt
      clear hst
      simp only [World.size_alloc] at hown hw3
      obtain ⟨G, cap, cur, rfl, hG, hblk, hlcap, hcapm, htk⟩ := own_row hown rfl (by omega)
      have hGlt := Has.lt hblk
      have hGg : G ≠ g := by omega
      have hcapm' := hcapm
      unfold maxLen at hcapm
      go_wp2_with fail
      refine (next_any g _ _ hA.2 (by omega)).mono ?_
      rintro e w4 ⟨q, q0, q1, rfl, hst⟩
      have hq : q < l.length := by omega
      obtain ⟨n, rfl⟩ := Int.eq_ofNat_of_zero_le q0
      have hB4 := Lib.hid (hst.blk hblk hGg)
      replace hA := hA.step hst hg2 hne2
      clear hst hblk q0 q1
      go_wp2_with fail
      refine (next_any g _ _ hA.2 (by omega)).mono ?_
      rintro e w5 ⟨m, m0, m1, rfl, hst⟩
      replace m1 := next_lt m1 (by decide)
      have hB5' := Lib.hid (hst.blk hB4.out hGg)
      replace hA := hA.step hst hg2 hne2
      clear hst hB4
      have c0 : (0 : Int) ≤ (n : Int) := by omega
      have c1' : (n : Int) ≤ (l.length : Int) := by omega
      have c2 : (n : Int) + 1 ≤ (l.length : Int) := by omega
      have c3 : (n : Int) ≤ (cap : Int) := by omega
      have c4 : (l.length : Int) ≤ (cap : Int) := by omega
      have c5 : (n : Int) + 1 ≤ (cap : Int) := by omega
      have c6 : (n : Int) < (l.length : Int) := by omega
      have hHas : Hid (Has w5 G 30 cur) := Lib.hid hB5'.out
      have HTK := Lib.hid htk
      clear hB5' htk
      by_cases h1 : m = 1
      · subst h1
        go_wp2_with fail
        by_cases hlast : n + 1 = l.length
        · by_cases hcap : cap = n + 1
          · subst hcap
            have d9 : (n : Int) ≤ (n : Int) + 1 := by omega
            have HL := Lib.hid hlast
            have p3 : ([] : List Value).length = 0 * 4 := rfl
            have p4 : n + 0 ≤ n := by omega
            have p6 := Lib.hid (show n + 0 = n by omega)
            have hA := hA.drew
            have hR' : Rgs w5.drew w5.drew.heap.size (some ⟨G, 0, none⟩) (l.take n) := rgs_of_row (w := w5.drew) hHas.out (row_take (row_of_take HTK.out) n)
            have hln : n = (l.take n).length := by rw [List.length_take]; omega
            have HLN := Lib.hid hln
            clear hln
            have hnm9 := Lib.hid (show n ≤ maxLen by unfold maxLen; omega)
            clear hlast
            have e2 : (0 : Int) ≤ (n : Int) + 1 := by omega
            have e3 : ((n : Int) + 1).toNat = n + 1 := by omega
            have e1 : IntKind.i64.wrap ((n : Int) + 1) = (n : Int) + 1 := IntWalk.i64_in _ (by omega)
            go_region_law ((refine step_append_room rfl (.tmp 38) (.tmp 42) 23 (by rfl) 30 i0 4 Tryd.underlying23 hi0 hz1 G 0 n n (by simp [Act.eval, Act.put]) ⟨G, 0, none⟩ 0 0 [] (by simp [Act.eval, Act.put]) p3 (fun j u h => by simp at h) (fun u h => by cases h) p4 (fun j h => by simp at h) ?_; rw [p6.out]))
            clear e1 e2 e3
            simp only [World.setCells]
            generalize w5.drew = wx at *
            have hBw := hA.1.1.size
            obtain ⟨c9, f9⟩ := hA.1.hd
            obtain ⟨cb, fb⟩ := hA.1.tl.hd
            simp only at c9 f9 cb fb
            by_cases h9 : k = 4
            · by_cases h200 : l1.length ≤ 200
              · have hnn : w2.heap.size ≠ w.heap.size := by omega
                have hnm : w.heap.size ≠ w2.heap.size := by omega
                replace hA := hA.put4 (by omega) hgB (by (simp; omega)) (.string r.lo.key) (.bool r.lo.top) (.string r.hi.key) (.bool r.hi.top)
                have hR1 := (hR.keep (fun i hi => hA.1.1.block i hi)).more hA.1.1.size
                go_wp2_with (first | (go_at_call 26; refine (tiles_key' l1 l1.length r A1 c1 _ rfl hR1 hlc hcm).mono ?_; rintro e w8 ⟨rfl, hb8⟩; replace hA := hA.below hb8; replace hR1 := rgs_on hR1 hb8; clear hb8 c9 f9; obtain ⟨c9, f9⟩ := hA.1.hd; simp only at c9 f9) | (go_at_call 27; refine (tiles_ref' l1 l1.length r A1 c1 _ rfl hR1 hlc hcm).mono ?_; rintro e w8 ⟨rfl, hb8⟩; replace hA := hA.below hb8; replace hR1 := rgs_on hR1 hb8; clear hb8 c9 f9; obtain ⟨c9, f9⟩ := hA.1.hd; simp only at c9 f9))
                go_roundw
                case rel => exact ⟨k + 1, hlt, by go_num, hA.tl⟩
                case measure => simp [intOf]; omega
              · go_wp2_with (first | (go_at_call 26; refine (tiles_key' (l.take n) n x (some ⟨G, 0, none⟩) n _ HLN.out hR' (Nat.le_refl _) hnm9.out).mono ?_; rintro e w8 ⟨rfl, hb8⟩; replace hA := hA.below hb8; replace hR' := rgs_on hR' hb8; clear hb8 c9 f9; obtain ⟨c9, f9⟩ := hA.1.hd; simp only at c9 f9) | (go_at_call 27; refine (tiles_ref' (l.take n) n x (some ⟨G, 0, none⟩) n _ HLN.out hR' (Nat.le_refl _) hnm9.out).mono ?_; rintro e w8 ⟨rfl, hb8⟩; replace hA := hA.below hb8; replace hR' := rgs_on hR' hb8; clear hb8 c9 f9; obtain ⟨c9, f9⟩ := hA.1.hd; simp only at c9 f9))
                go_roundw
                case rel => exact ⟨k + 1, hlt, by go_num, hA.tl⟩
                case measure => simp [intOf]; omega
            · go_wp2_with (first | (go_at_call 26; refine (tiles_key' (l.take n) n x (some ⟨G, 0, none⟩) n _ HLN.out hR' (Nat.le_refl _) hnm9.out).mono ?_; rintro e w8 ⟨rfl, hb8⟩; replace hA := hA.below hb8; replace hR' := rgs_on hR' hb8; clear hb8 c9 f9; obtain ⟨c9, f9⟩ := hA.1.hd; simp only at c9 f9) | (go_at_call 27; refine (tiles_ref' (l.take n) n x (some ⟨G, 0, none⟩) n _ HLN.out hR' (Nat.le_refl _) hnm9.out).mono ?_; rintro e w8 ⟨rfl, hb8⟩; replace hA := hA.below hb8; replace hR' := rgs_on hR' hb8; clear hb8 c9 f9; obtain ⟨c9, f9⟩ := hA.1.hd; simp only at c9 f9))
              go_roundw
              case rel => exact ⟨k + 1, hlt, by go_num, hA.tl⟩
              case measure => simp [intOf]; omega
          · have HL := Lib.hid hlast
            have p3 : ([] : List Value).length = (l.length - (n + 1)) * 4 := by simp; omega
            have p4 : n + (l.length - (n + 1)) ≤ n := by omega
            have p6 := Lib.hid (show n + (l.length - (n + 1)) = n by omega)
            have hA := hA.drew
            have hR' : Rgs w5.drew w5.drew.heap.size (some ⟨G, 0, none⟩) (l.take n) := rgs_of_row (w := w5.drew) hHas.out (row_take (row_of_take HTK.out) n)
            have hln : n = (l.take n).length := by rw [List.length_take]; omega
            have HLN := Lib.hid hln
            clear hln
            have hnm9 := Lib.hid (show n ≤ maxLen by unfold maxLen; omega)
            clear hlast
            have e2 : (0 : Int) ≤ (n : Int) + 1 := by omega
            have e3 : ((n : Int) + 1).toNat = n + 1 := by omega
            have e1 : IntKind.i64.wrap ((n : Int) + 1) = (n : Int) + 1 := IntWalk.i64_in _ (by omega)
            go_region_law ((refine step_append_room rfl (.tmp 38) (.tmp 42) 23 (by rfl) 30 i0 4 Tryd.underlying23 hi0 hz1 G 0 n n (by simp [Act.eval, Act.put]) ⟨G, (n + 1) * 4, none⟩ (l.length - (n + 1)) (cap - (n + 1)) [] (by simp [Act.eval, Act.put]) p3 (fun j u h => by simp at h) (fun u h => by cases h) p4 (fun j h => by simp at h) ?_; rw [p6.out]))
            clear e1 e2 e3
            simp only [World.setCells]
            generalize w5.drew = wx at *
            have hBw := hA.1.1.size
            obtain ⟨c9, f9⟩ := hA.1.hd
            obtain ⟨cb, fb⟩ := hA.1.tl.hd
            simp only at c9 f9 cb fb
            by_cases h9 : k = 4
            · by_cases h200 : l1.length ≤ 200
              · have hnn : w2.heap.size ≠ w.heap.size := by omega
                have hnm : w.heap.size ≠ w2.heap.size := by omega
                replace hA := hA.put4 (by omega) hgB (by (simp; omega)) (.string r.lo.key) (.bool r.lo.top) (.string r.hi.key) (.bool r.hi.top)
                have hR1 := (hR.keep (fun i hi => hA.1.1.block i hi)).more hA.1.1.size
                go_wp2_with (first | (go_at_call 26; refine (tiles_key' l1 l1.length r A1 c1 _ rfl hR1 hlc hcm).mono ?_; rintro e w8 ⟨rfl, hb8⟩; replace hA := hA.below hb8; replace hR1 := rgs_on hR1 hb8; clear hb8 c9 f9; obtain ⟨c9, f9⟩ := hA.1.hd; simp only at c9 f9) | (go_at_call 27; refine (tiles_ref' l1 l1.length r A1 c1 _ rfl hR1 hlc hcm).mono ?_; rintro e w8 ⟨rfl, hb8⟩; replace hA := hA.below hb8; replace hR1 := rgs_on hR1 hb8; clear hb8 c9 f9; obtain ⟨c9, f9⟩ := hA.1.hd; simp only at c9 f9))
                go_roundw
                case rel => exact ⟨k + 1, hlt, by go_num, hA.tl⟩
                case measure => simp [intOf]; omega
              · go_wp2_with (first | (go_at_call 26; refine (tiles_key' (l.take n) n x (some ⟨G, 0, none⟩) n _ HLN.out hR' (Nat.le_refl _) hnm9.out).mono ?_; rintro e w8 ⟨rfl, hb8⟩; replace hA := hA.below hb8; replace hR' := rgs_on hR' hb8; clear hb8 c9 f9; obtain ⟨c9, f9⟩ := hA.1.hd; simp only at c9 f9) | (go_at_call 27; refine (tiles_ref' (l.take n) n x (some ⟨G, 0, none⟩) n _ HLN.out hR' (Nat.le_refl _) hnm9.out).mono ?_; rintro e w8 ⟨rfl, hb8⟩; replace hA := hA.below hb8; replace hR' := rgs_on hR' hb8; clear hb8 c9 f9; obtain ⟨c9, f9⟩ := hA.1.hd; simp only at c9 f9))
                go_roundw
                case rel => exact ⟨k + 1, hlt, by go_num, hA.tl⟩
                case measure => simp [intOf]; omega
            · go_wp2_with (first | (go_at_call 26; refine (tiles_key' (l.take n) n x (some ⟨G, 0, none⟩) n _ HLN.out hR' (Nat.le_refl _) hnm9.out).mono ?_; rintro e w8 ⟨rfl, hb8⟩; replace hA := hA.below hb8; replace hR' := rgs_on hR' hb8; clear hb8 c9 f9; obtain ⟨c9, f9⟩ := hA.1.hd; simp only at c9 f9) | (go_at_call 27; refine (tiles_ref' (l.take n) n x (some ⟨G, 0, none⟩) n _ HLN.out hR' (Nat.le_refl _) hnm9.out).mono ?_; rintro e w8 ⟨rfl, hb8⟩; replace hA := hA.below hb8; replace hR' := rgs_on hR' hb8; clear hb8 c9 f9; obtain ⟨c9, f9⟩ := hA.1.hd; simp only at c9 f9))
              go_roundw
              case rel => exact ⟨k + 1, hlt, by go_num, hA.tl⟩
              case measure => simp [intOf]; omega
        · have d1 : ¬ cap = n + 1 := by omega
          have p1 : n ≤ l.length := by omega
          have p2 : n + 1 ≤ l.length := by omega
          have p3 : n < n + (l.length - (n + 1)) := by omega
          have p4 : n + (l.length - (n + 1)) ≤ maxLen := by unfold maxLen; omega
          have p5 : (n + (l.length - (n + 1))) * 48 ≤ 140737488355328 := by omega
          have p6 := Lib.hid (show n + (l.length - (n + 1)) = (l.take n ++ l.drop (n + 1)).length by rw [List.length_append, List.length_take, List.length_drop]; omega)
          have e2 : (0 : Int) ≤ (n : Int) + 1 := by omega
          have e3 : ((n : Int) + 1).toNat = n + 1 := by omega
          have e1 : IntKind.i64.wrap ((n : Int) + 1) = (n : Int) + 1 := IntWalk.i64_in _ (by omega)
          go_region_law ((refine step_append_grows rfl (.tmp 38) (.tmp 42) 23 (by rfl) 30 i0 _ 4 48 Tryd.underlying23 hi0 hz0 hz1 hz2 rfl (by decide) (some ⟨G, 0, none⟩) n n (flat (l.take n)) (by simp [Act.eval, Act.put]) (fun e => by cases e) (flat_take_len p1) (fun b e => by (cases e; exact cells_take (w := w5.drew) hHas.out HTK.out p1)) ⟨G, (n + 1) * 4, none⟩ (l.length - (n + 1)) (cap - (n + 1)) (flat (l.drop (n + 1))) (by simp [Act.eval, Act.put]) flat_drop_len (cells_drop (w := w5.drew) hHas.out HTK.out p2) (flat_ones _) p3 p4 p5 ?_; intro v' wx hown' hgrow; obtain ⟨l', A', c', rfl, hlc', hcm', hR'⟩ := rgs_own2 hown' p6.out))
          replace hA := hA.drew.below (blw_grown hgrow)
          clear e1 e2 e3 hgrow hown'
          have hBw := hA.1.1.size
          obtain ⟨c9, f9⟩ := hA.1.hd
          obtain ⟨cb, fb⟩ := hA.1.tl.hd
          simp only at c9 f9 cb fb
          by_cases h9 : k = 4
          · by_cases h200 : l1.length ≤ 200
            · have hnn : w2.heap.size ≠ w.heap.size := by omega
              have hnm : w.heap.size ≠ w2.heap.size := by omega
              replace hA := hA.put4 (by omega) hgB (by (simp; omega)) (.string r.lo.key) (.bool r.lo.top) (.string r.hi.key) (.bool r.hi.top)
              have hR1 := (hR.keep (fun i hi => hA.1.1.block i hi)).more hA.1.1.size
              go_wp2_with (first | (go_at_call 26; refine (tiles_key' l1 l1.length r A1 c1 _ rfl hR1 hlc hcm).mono ?_; rintro e w8 ⟨rfl, hb8⟩; replace hA := hA.below hb8; replace hR1 := rgs_on hR1 hb8; clear hb8 c9 f9; obtain ⟨c9, f9⟩ := hA.1.hd; simp only at c9 f9) | (go_at_call 27; refine (tiles_ref' l1 l1.length r A1 c1 _ rfl hR1 hlc hcm).mono ?_; rintro e w8 ⟨rfl, hb8⟩; replace hA := hA.below hb8; replace hR1 := rgs_on hR1 hb8; clear hb8 c9 f9; obtain ⟨c9, f9⟩ := hA.1.hd; simp only at c9 f9))
              go_roundw
              case rel => exact ⟨k + 1, hlt, by go_num, hA.tl⟩
              case measure => simp [intOf]; omega
            · go_wp2_with (first | (go_at_call 26; refine (tiles_key' l' l'.length x A' c' _ rfl hR' hlc' hcm').mono ?_; rintro e w8 ⟨rfl, hb8⟩; replace hA := hA.below hb8; replace hR' := rgs_on hR' hb8; clear hb8 c9 f9; obtain ⟨c9, f9⟩ := hA.1.hd; simp only at c9 f9) | (go_at_call 27; refine (tiles_ref' l' l'.length x A' c' _ rfl hR' hlc' hcm').mono ?_; rintro e w8 ⟨rfl, hb8⟩; replace hA := hA.below hb8; replace hR' := rgs_on hR' hb8; clear hb8 c9 f9; obtain ⟨c9, f9⟩ := hA.1.hd; simp only at c9 f9))
              go_roundw
              case rel => exact ⟨k + 1, hlt, by go_num, hA.tl⟩
              case measure => simp [intOf]; omega
          · go_wp2_with (first | (go_at_call 26; refine (tiles_key' l' l'.length x A' c' _ rfl hR' hlc' hcm').mono ?_; rintro e w8 ⟨rfl, hb8⟩; replace hA := hA.below hb8; replace hR' := rgs_on hR' hb8; clear hb8 c9 f9; obtain ⟨c9, f9⟩ := hA.1.hd; simp only at c9 f9) | (go_at_call 27; refine (tiles_ref' l' l'.length x A' c' _ rfl hR' hlc' hcm').mono ?_; rintro e w8 ⟨rfl, hb8⟩; replace hA := hA.below hb8; replace hR' := rgs_on hR' hb8; clear hb8 c9 f9; obtain ⟨c9, f9⟩ := hA.1.hd; simp only at c9 f9))
            go_roundw
            case rel => exact ⟨k + 1, hlt, by go_num, hA.tl⟩
            case measure => simp [intOf]; omega
      by_cases h2 : m = 2
      · subst h2
        go_wp2_with fail
        have d1 : ¬ cap = n := by omega
        have p1 : n ≤ l.length := by omega
        have p3 : n < n + 1 := by omega
        have p4 : n + 1 ≤ maxLen := by unfold maxLen; omega
        have p5 : (n + 1) * 48 ≤ 140737488355328 := by omega
        have q4 : n + 1 + (l.length - n) ≤ maxLen := by unfold maxLen; omega
        have q5 : (n + 1 + (l.length - n)) * 48 ≤ 140737488355328 := by omega
        obtain ⟨y, hy⟩ : ∃ y, y = l[n]'(by omega) := ⟨_, rfl⟩
        have q6 := Lib.hid (show n + 1 + (l.length - n) = (l.take n ++ [y] ++ l.drop n).length by rw [List.length_append, List.length_append, List.length_take, List.length_drop]; simp; omega)
        obtain ⟨x1, x2, x3, x4⟩ := row_cells hHas.out (row_of_take HTK.out) (n := n) (by omega)
        rw [← hy] at x1 x2 x3 x4
        clear hy
        go_region_law (first | (refine step_append_grows rfl (.tmp 49) (.tmp 54) 23 (by rfl) 30 i0 _ 4 48 Tryd.underlying23 hi0 hz0 hz1 hz2 rfl (by decide) (some ⟨G, 0, none⟩) n n (flat (l.take n)) (by simp [Act.eval]) (fun e => by cases e) (flat_take_len p1) (fun b e => by (cases e; exact cells_take (w := w5.drew.alloc (.cells #[Value.string y.lo.key, Value.bool y.lo.top, Value.string y.hi.key, Value.bool y.hi.top] 30)) (Has.alloc (w := w5.drew) hHas.out _) HTK.out p1)) ⟨w5.drew.heap.size, 0, none⟩ 1 1 [.string y.lo.key, .bool y.lo.top, .string y.hi.key, .bool y.hi.top] (by simp [Act.eval]) rfl (news4 w5.drew _ _ _ _ _) (ones4 _ _ _ _) p3 p4 p5 ?_; intro v' wa hown' hgrow) | (refine step_append_ownv rfl (.tmp 55) (.tmp 58) 23 (by rfl) _ 30 i0 _ 4 48 Tryd.underlying23 hi0 hz0 hz1 hz2 rfl (by decide) v' (n + 1) (flat (l.take n) ++ [.string y.lo.key, .bool y.lo.top, .string y.hi.key, .bool y.hi.top]) (by simp [Act.eval]) hown' ⟨G, n * 4, none⟩ (l.length - n) (cap - n) (flat (l.drop n)) (by simp [Act.eval]) flat_drop_len (cells_drop (has_grown (Has.alloc (w := w5.drew) hHas.out (.cells #[Value.string y.lo.key, Value.bool y.lo.top, Value.string y.hi.key, Value.bool y.hi.top] 30)) hgrow) HTK.out p1) (flat_ones _) q4 q5 hgrow.size ?_; intro v'' wx hown'' hgrow' _; obtain ⟨l', A', c', rfl, hlc', hcm', hR'⟩ := rgs_own3 hown'' q6.out))
        replace hA := (hA.drew.alloc (.cells #[Value.string y.lo.key, Value.bool y.lo.top, Value.string y.hi.key, Value.bool y.hi.top] 30)).below ((blw_grown hgrow).grown hgrow' hgrow.size (fun i hi => own_base hown' hi))
        clear hgrow hgrow' hown' hown'' x1 x2 x3 x4
        have hBw := hA.1.1.size
        obtain ⟨c9, f9⟩ := hA.1.hd
        obtain ⟨cb, fb⟩ := hA.1.tl.hd
        simp only at c9 f9 cb fb
        by_cases h9 : k = 4
        · by_cases h200 : l1.length ≤ 200
          · have hnn : w2.heap.size ≠ w.heap.size := by omega
            have hnm : w.heap.size ≠ w2.heap.size := by omega
            replace hA := hA.put4 (by omega) hgB (by (simp; omega)) (.string r.lo.key) (.bool r.lo.top) (.string r.hi.key) (.bool r.hi.top)
            have hR1 := (hR.keep (fun i hi => hA.1.1.block i hi)).more hA.1.1.size
            go_wp2_with (first | (go_at_call 26; refine (tiles_key' l1 l1.length r A1 c1 _ rfl hR1 hlc hcm).mono ?_; rintro e w8 ⟨rfl, hb8⟩; replace hA := hA.below hb8; replace hR1 := rgs_on hR1 hb8; clear hb8 c9 f9; obtain ⟨c9, f9⟩ := hA.1.hd; simp only at c9 f9) | (go_at_call 27; refine (tiles_ref' l1 l1.length r A1 c1 _ rfl hR1 hlc hcm).mono ?_; rintro e w8 ⟨rfl, hb8⟩; replace hA := hA.below hb8; replace hR1 := rgs_on hR1 hb8; clear hb8 c9 f9; obtain ⟨c9, f9⟩ := hA.1.hd; simp only at c9 f9))
            go_roundw
            case rel => exact ⟨k + 1, hlt, by go_num, hA.tl⟩
            case measure => simp [intOf]; omega
          · go_wp2_with (first | (go_at_call 26; refine (tiles_key' l' l'.length x A' c' _ rfl hR' hlc' hcm').mono ?_; rintro e w8 ⟨rfl, hb8⟩; replace hA := hA.below hb8; replace hR' := rgs_on hR' hb8; clear hb8 c9 f9; obtain ⟨c9, f9⟩ := hA.1.hd; simp only at c9 f9) | (go_at_call 27; refine (tiles_ref' l' l'.length x A' c' _ rfl hR' hlc' hcm').mono ?_; rintro e w8 ⟨rfl, hb8⟩; replace hA := hA.below hb8; replace hR' := rgs_on hR' hb8; clear hb8 c9 f9; obtain ⟨c9, f9⟩ := hA.1.hd; simp only at c9 f9))
            go_roundw
            case rel => exact ⟨k + 1, hlt, by go_num, hA.tl⟩
            case measure => simp [intOf]; omega
        · go_wp2_with (first | (go_at_call 26; refine (tiles_key' l' l'.length x A' c' _ rfl hR' hlc' hcm').mono ?_; rintro e w8 ⟨rfl, hb8⟩; replace hA := hA.below hb8; replace hR' := rgs_on hR' hb8; clear hb8 c9 f9; obtain ⟨c9, f9⟩ := hA.1.hd; simp only at c9 f9) | (go_at_call 27; refine (tiles_ref' l' l'.length x A' c' _ rfl hR' hlc' hcm').mono ?_; rintro e w8 ⟨rfl, hb8⟩; replace hA := hA.below hb8; replace hR' := rgs_on hR' hb8; clear hb8 c9 f9; obtain ⟨c9, f9⟩ := hA.1.hd; simp only at c9 f9))
          go_roundw
          case rel => exact ⟨k + 1, hlt, by go_num, hA.tl⟩
          case measure => simp [intOf]; omega
      by_cases h3 : m = 3
      · subst h3
        go_wp2_with fail
        refine (range_any g _ hA.2).mono ?_
        rintro e w6 ⟨y, _, _, rfl, hst⟩
        have hH6 : Has w6 G 30 cur := hst.blk hHas.out hGg
        replace hA := hA.step hst hg2 hne2
        have hRow := row_of_take HTK.out
        obtain ⟨x1, x2, x3, x4⟩ := row_cells hH6 hRow (n := n) (by omega)
        have hfz := hH6.frozen
        have hn' : n < l.length := by omega
        go_upto_region 17 with fail
        have hR' := rgs_of_row ((((hH6.set_ (n * 4) (.string y.lo.key)).set_ (n * 4 + 1) (.bool y.lo.top)).set_ (n * 4 + 2) (.string y.hi.key)).set_ (n * 4 + 3) (.bool y.hi.top)) (row_set4 hRow hn' y)
        have hq1 : w.heap.size ≤ G := by omega
        have hq2 : g < G := by omega
        have hq3 : ∀ q ∈ [(w2.heap.size, 30, #[Value.string x.lo.key, Value.bool x.lo.top, Value.string x.hi.key, Value.bool x.hi.top]), (w.heap.size, 30, #[Value.string r.lo.key, Value.bool r.lo.top, Value.string r.hi.key, Value.bool r.hi.top])], q.1 < G := by (simp; omega)
        replace hA := (((hA.setC (p := ⟨G, n * 4, none⟩) hq1 hq2 hq3 (.string y.lo.key)).setC (p := ⟨G, n * 4 + 1, none⟩) hq1 hq2 hq3 (.bool y.lo.top)).setC (p := ⟨G, n * 4 + 2, none⟩) hq1 hq2 hq3 (.string y.hi.key)).setC (p := ⟨G, n * 4 + 3, none⟩) hq1 hq2 hq3 (.bool y.hi.top)
        clear x1 x2 x3 x4 hfz hH6
        generalize hW : (World.setCell _ _ _) = wx at hA hR' ⊢
        clear hW
        have hBw := hA.1.1.size
        obtain ⟨c9, f9⟩ := hA.1.hd
        obtain ⟨cb, fb⟩ := hA.1.tl.hd
        simp only at c9 f9 cb fb
        by_cases h9 : k = 4
        · by_cases h200 : l1.length ≤ 200
          · have hnn : w2.heap.size ≠ w.heap.size := by omega
            have hnm : w.heap.size ≠ w2.heap.size := by omega
            replace hA := hA.put4 (by omega) hgB (by (simp; omega)) (.string r.lo.key) (.bool r.lo.top) (.string r.hi.key) (.bool r.hi.top)
            have hR1 := (hR.keep (fun i hi => hA.1.1.block i hi)).more hA.1.1.size
            go_wp2_with (first | (go_at_call 26; refine (tiles_key' l1 l1.length r A1 c1 _ rfl hR1 hlc hcm).mono ?_; rintro e w8 ⟨rfl, hb8⟩; replace hA := hA.below hb8; replace hR1 := rgs_on hR1 hb8; clear hb8 c9 f9; obtain ⟨c9, f9⟩ := hA.1.hd; simp only at c9 f9) | (go_at_call 27; refine (tiles_ref' l1 l1.length r A1 c1 _ rfl hR1 hlc hcm).mono ?_; rintro e w8 ⟨rfl, hb8⟩; replace hA := hA.below hb8; replace hR1 := rgs_on hR1 hb8; clear hb8 c9 f9; obtain ⟨c9, f9⟩ := hA.1.hd; simp only at c9 f9))
            go_roundw
            case rel => exact ⟨k + 1, hlt, by go_num, hA.tl⟩
            case measure => simp [intOf]; omega
          · go_wp2_with (first | (go_at_call 26; refine (tiles_key' (l.set n y) l.length x (some ⟨G, 0, none⟩) cap _ (by simp) hR' hlcap hcapm').mono ?_; rintro e w8 ⟨rfl, hb8⟩; replace hA := hA.below hb8; replace hR' := rgs_on hR' hb8; clear hb8 c9 f9; obtain ⟨c9, f9⟩ := hA.1.hd; simp only at c9 f9) | (go_at_call 27; refine (tiles_ref' (l.set n y) l.length x (some ⟨G, 0, none⟩) cap _ (by simp) hR' hlcap hcapm').mono ?_; rintro e w8 ⟨rfl, hb8⟩; replace hA := hA.below hb8; replace hR' := rgs_on hR' hb8; clear hb8 c9 f9; obtain ⟨c9, f9⟩ := hA.1.hd; simp only at c9 f9))
            go_roundw
            case rel => exact ⟨k + 1, hlt, by go_num, hA.tl⟩
            case measure => simp [intOf]; omega
        · go_wp2_with (first | (go_at_call 26; refine (tiles_key' (l.set n y) l.length x (some ⟨G, 0, none⟩) cap _ (by simp) hR' hlcap hcapm').mono ?_; rintro e w8 ⟨rfl, hb8⟩; replace hA := hA.below hb8; replace hR' := rgs_on hR' hb8; clear hb8 c9 f9; obtain ⟨c9, f9⟩ := hA.1.hd; simp only at c9 f9) | (go_at_call 27; refine (tiles_ref' (l.set n y) l.length x (some ⟨G, 0, none⟩) cap _ (by simp) hR' hlcap hcapm').mono ?_; rintro e w8 ⟨rfl, hb8⟩; replace hA := hA.below hb8; replace hR' := rgs_on hR' hb8; clear hb8 c9 f9; obtain ⟨c9, f9⟩ := hA.1.hd; simp only at c9 f9))
          go_roundw
          case rel => exact ⟨k + 1, hlt, by go_num, hA.tl⟩
          case measure => simp [intOf]; omega
      by_cases h4 : m = 4
      · subst h4
        go_wp2_with fail
        refine (bound_any g _ hA.2).mono ?_
        rintro e w6 ⟨y, _, rfl, hst⟩
        have hH6 : Has w6 G 30 cur := hst.blk hHas.out hGg
        replace hA := hA.step hst hg2 hne2
        have hRow := row_of_take HTK.out
        obtain ⟨x1, x2, x3, x4⟩ := row_cells hH6 hRow (n := n) (by omega)
        have hfz := hH6.frozen
        have hn' : n < l.length := by omega
        go_upto_region 17 with fail
        have hR' := rgs_of_row ((hH6.set_ (n * 4 + 2) (.string y.key)).set_ (n * 4 + 3) (.bool y.top)) (row_set2 hRow hn' y)
        have hq1 : w.heap.size ≤ G := by omega
        have hq2 : g < G := by omega
        have hq3 : ∀ q ∈ [(w2.heap.size, 30, #[Value.string x.lo.key, Value.bool x.lo.top, Value.string x.hi.key, Value.bool x.hi.top]), (w.heap.size, 30, #[Value.string r.lo.key, Value.bool r.lo.top, Value.string r.hi.key, Value.bool r.hi.top])], q.1 < G := by (simp; omega)
        replace hA := (hA.setC (p := ⟨G, n * 4 + 2, none⟩) hq1 hq2 hq3 (.string y.key)).setC (p := ⟨G, n * 4 + 3, none⟩) hq1 hq2 hq3 (.bool y.top)
        clear x1 x2 x3 x4 hfz hH6
        generalize hW : (World.setCell _ _ _) = wx at hA hR' ⊢
        clear hW
        have hBw := hA.1.1.size
        obtain ⟨c9, f9⟩ := hA.1.hd
        obtain ⟨cb, fb⟩ := hA.1.tl.hd
        simp only at c9 f9 cb fb
        by_cases h9 : k = 4
        · by_cases h200 : l1.length ≤ 200
          · have hnn : w2.heap.size ≠ w.heap.size := by omega
            have hnm : w.heap.size ≠ w2.heap.size := by omega
            replace hA := hA.put4 (by omega) hgB (by (simp; omega)) (.string r.lo.key) (.bool r.lo.top) (.string r.hi.key) (.bool r.hi.top)
            have hR1 := (hR.keep (fun i hi => hA.1.1.block i hi)).more hA.1.1.size
            go_wp2_with (first | (go_at_call 26; refine (tiles_key' l1 l1.length r A1 c1 _ rfl hR1 hlc hcm).mono ?_; rintro e w8 ⟨rfl, hb8⟩; replace hA := hA.below hb8; replace hR1 := rgs_on hR1 hb8; clear hb8 c9 f9; obtain ⟨c9, f9⟩ := hA.1.hd; simp only at c9 f9) | (go_at_call 27; refine (tiles_ref' l1 l1.length r A1 c1 _ rfl hR1 hlc hcm).mono ?_; rintro e w8 ⟨rfl, hb8⟩; replace hA := hA.below hb8; replace hR1 := rgs_on hR1 hb8; clear hb8 c9 f9; obtain ⟨c9, f9⟩ := hA.1.hd; simp only at c9 f9))
            go_roundw
            case rel => exact ⟨k + 1, hlt, by go_num, hA.tl⟩
            case measure => simp [intOf]; omega
          · go_wp2_with (first | (go_at_call 26; refine (tiles_key' (l.set n ⟨l[n].lo, y⟩) l.length x (some ⟨G, 0, none⟩) cap _ (by simp) hR' hlcap hcapm').mono ?_; rintro e w8 ⟨rfl, hb8⟩; replace hA := hA.below hb8; replace hR' := rgs_on hR' hb8; clear hb8 c9 f9; obtain ⟨c9, f9⟩ := hA.1.hd; simp only at c9 f9) | (go_at_call 27; refine (tiles_ref' (l.set n ⟨l[n].lo, y⟩) l.length x (some ⟨G, 0, none⟩) cap _ (by simp) hR' hlcap hcapm').mono ?_; rintro e w8 ⟨rfl, hb8⟩; replace hA := hA.below hb8; replace hR' := rgs_on hR' hb8; clear hb8 c9 f9; obtain ⟨c9, f9⟩ := hA.1.hd; simp only at c9 f9))
            go_roundw
            case rel => exact ⟨k + 1, hlt, by go_num, hA.tl⟩
            case measure => simp [intOf]; omega
        · go_wp2_with (first | (go_at_call 26; refine (tiles_key' (l.set n ⟨l[n].lo, y⟩) l.length x (some ⟨G, 0, none⟩) cap _ (by simp) hR' hlcap hcapm').mono ?_; rintro e w8 ⟨rfl, hb8⟩; replace hA := hA.below hb8; replace hR' := rgs_on hR' hb8; clear hb8 c9 f9; obtain ⟨c9, f9⟩ := hA.1.hd; simp only at c9 f9) | (go_at_call 27; refine (tiles_ref' (l.set n ⟨l[n].lo, y⟩) l.length x (some ⟨G, 0, none⟩) cap _ (by simp) hR' hlcap hcapm').mono ?_; rintro e w8 ⟨rfl, hb8⟩; replace hA := hA.below hb8; replace hR' := rgs_on hR' hb8; clear hb8 c9 f9; obtain ⟨c9, f9⟩ := hA.1.hd; simp only at c9 f9))
          go_roundw
          case rel => exact ⟨k + 1, hlt, by go_num, hA.tl⟩
          case measure => simp [intOf]; omega
      · have hR' := rgs_of_row hHas.out (row_of_take HTK.out)
        have hBw := hA.1.1.size
        obtain ⟨c9, f9⟩ := hA.1.hd
        obtain ⟨cb, fb⟩ := hA.1.tl.hd
        simp only at c9 f9 cb fb
        by_cases h9 : k = 4
        · by_cases h200 : l1.length ≤ 200
          · have hnn : w2.heap.size ≠ w.heap.size := by omega
            have hnm : w.heap.size ≠ w2.heap.size := by omega
            replace hA := hA.put4 (by omega) hgB (by (simp; omega)) (.string r.lo.key) (.bool r.lo.top) (.string r.hi.key) (.bool r.hi.top)
            have hR1 := (hR.keep (fun i hi => hA.1.1.block i hi)).more hA.1.1.size
            go_wp2_with (first | (go_at_call 26; refine (tiles_key' l1 l1.length r A1 c1 _ rfl hR1 hlc hcm).mono ?_; rintro e w8 ⟨rfl, hb8⟩; replace hA := hA.below hb8; replace hR1 := rgs_on hR1 hb8; clear hb8 c9 f9; obtain ⟨c9, f9⟩ := hA.1.hd; simp only at c9 f9) | (go_at_call 27; refine (tiles_ref' l1 l1.length r A1 c1 _ rfl hR1 hlc hcm).mono ?_; rintro e w8 ⟨rfl, hb8⟩; replace hA := hA.below hb8; replace hR1 := rgs_on hR1 hb8; clear hb8 c9 f9; obtain ⟨c9, f9⟩ := hA.1.hd; simp only at c9 f9))
            go_roundw
            case rel => exact ⟨k + 1, hlt, by go_num, hA.tl⟩
            case measure => simp [intOf]; omega
          · go_wp2_with (first | (go_at_call 26; refine (tiles_key' l l.length x (some ⟨G, 0, none⟩) cap _ rfl hR' hlcap hcapm').mono ?_; rintro e w8 ⟨rfl, hb8⟩; replace hA := hA.below hb8; replace hR' := rgs_on hR' hb8; clear hb8 c9 f9; obtain ⟨c9, f9⟩ := hA.1.hd; simp only at c9 f9) | (go_at_call 27; refine (tiles_ref' l l.length x (some ⟨G, 0, none⟩) cap _ rfl hR' hlcap hcapm').mono ?_; rintro e w8 ⟨rfl, hb8⟩; replace hA := hA.below hb8; replace hR' := rgs_on hR' hb8; clear hb8 c9 f9; obtain ⟨c9, f9⟩ := hA.1.hd; simp only at c9 f9))
            go_roundw
            case rel => exact ⟨k + 1, hlt, by go_num, hA.tl⟩
            case measure => simp [intOf]; omega
        · go_wp2_with (first | (go_at_call 26; refine (tiles_key' l l.length x (some ⟨G, 0, none⟩) cap _ rfl hR' hlcap hcapm').mono ?_; rintro e w8 ⟨rfl, hb8⟩; replace hA := hA.below hb8; replace hR' := rgs_on hR' hb8; clear hb8 c9 f9; obtain ⟨c9, f9⟩ := hA.1.hd; simp only at c9 f9) | (go_at_call 27; refine (tiles_ref' l l.length x (some ⟨G, 0, none⟩) cap _ rfl hR' hlcap hcapm').mono ?_; rintro e w8 ⟨rfl, hb8⟩; replace hA := hA.below hb8; replace hR' := rgs_on hR' hb8; clear hb8 c9 f9; obtain ⟨c9, f9⟩ := hA.1.hd; simp only at c9 f9))
          go_roundw
          case rel => exact ⟨k + 1, hlt, by go_num, hA.tl⟩
          case measure => simp [intOf]; omega
    · go_wp2_with (go_at_call 23; refine (sane_any _).mono ?_; rintro e w6 ⟨rfl, hb6⟩; replace hA := hA.below hb6; clear hb6)
      go_ret
      exact ⟨rfl, hA.1.1⟩
end Go.Proofs.YtofandkijmbplaaDoor
