/-
  The walk of KeyspaceBounds: from whatever arguments it answers true and only makes memory. Conditions: 'letters' holds six strings of one byte; the first argument reads as a slice of ints.
-/
import Derived.Test.YthcgigbgkbjfoaaDoorKsL
namespace Go.Proofs.YthcgigbgkbjfoaaDoor
open Go.RowKit

set_option maxHeartbeats 6400000 in
theorem bounds_walk (A : Option Addr) (n c : Nat) (a b : Bd) (w : World) (hl : Lets w) (hw : 0 < w.heap.size) (hnc : n ≤ c) (hc : c ≤ maxLen) (hN : Nums w w.heap.size A n) :
    Calls Tryd.prog 3 #[.slice A n c, a.val, b.val] w (LawP w) := by
  obtain ⟨ak, at'⟩ := a
  obtain ⟨bk, bt⟩ := b
  have hI := ((Inv.nil w).add 24 #[.string ak, .bool at']).add 24 #[.string bk, .bool bt]
  simp only [World.size_alloc] at hI
  have hl' := hl.keep (hI.1.block _ hw)
  have hN' := (hN.keep (fun i hi => hI.1.block i hi)).more hI.1.size
  go_enter Tryd.func3, Tryd.ntmps3
  go_wp2_with fail
  refine (new_any A n c _ hl' (Nat.lt_of_lt_of_le hw hI.1.size) hnc hc hN').mono ?_
  rintro e w1 ⟨g, hg, rfl, hT, hb⟩
  have hgw : w.heap.size + 2 ≤ g := by simpa using hg
  have hg1 : w.heap.size ≤ g := by omega
  have hne : ∀ q ∈ [(w.heap.size + 1, 24, #[Value.string bk, Value.bool bt]), (w.heap.size, 24, #[Value.string ak, Value.bool at'])], q.1 ≠ g := by (simp; omega)
  have hA : At w [(w.heap.size + 1, 24, #[Value.string bk, Value.bool bt]), (w.heap.size, 24, #[Value.string ak, Value.bool at'])] g w1 := ⟨hI.below hb, hT⟩
  clear hb hT hg hI hl hl' hN hN' hnc hc hgw
  go_wp2_with fail
  go_loopw [8] (fun i wr => ∃ k : Nat, k ≤ 8 ∧ i = .int .i64 k ∧ At w [(w.heap.size + 1, 24, #[Value.string bk, Value.bool bt]), (w.heap.size, 24, #[Value.string ak, Value.bool at'])] g wr) (fun i _ => 8 - (intOf i).toNat)
  case atStart => exact ⟨0, by omega, rfl, hA⟩
  case round =>
    clear hA
    obtain ⟨k, hk, rfl, hA⟩ := hrel
    by_cases hlt : k < 8
    · go_wp2_with fail
      refine (bound_any g _ hA.2).mono ?_
      rintro e w2 ⟨⟨xk, xt⟩, _, rfl, hst⟩
      replace hA := hA.step hst hg1 hne
      clear hst
      go_wp2_with fail
      refine (bound_any g _ hA.2).mono ?_
      rintro e w3 ⟨⟨yk, yt⟩, _, rfl, hst⟩
      replace hA := hA.step hst hg1 hne
      clear hst
      have hs0 := (hA.1.2 _ (.head _)).lt
      have hs1 := (hA.1.2 _ (.tail _ (.head _))).lt
      simp only at hs0 hs1
      obtain ⟨cb, fb⟩ := hA.1.hd
      obtain ⟨ca, fa⟩ := hA.1.tl.hd
      have hA2 := (hA.add 24 #[.string xk, .bool xt]).add 24 #[.string yk, .bool yt]
      simp only [World.size_alloc] at hA2
      cases h7 : ((k : Int) == 7)
      · go_wp2_with fail
        have r1 := fun (w' : World) (h : At w [(w3.heap.size + 1, 24, #[Value.string yk, Value.bool yt]), (w3.heap.size, 24, #[Value.string xk, Value.bool xt]), (w.heap.size + 1, 24, #[Value.string bk, Value.bool bt]), (w.heap.size, 24, #[Value.string ak, Value.bool at'])] g w') => h.1.hd.1
        have r2 := fun (w' : World) (h : At w [(w3.heap.size + 1, 24, #[Value.string yk, Value.bool yt]), (w3.heap.size, 24, #[Value.string xk, Value.bool xt]), (w.heap.size + 1, 24, #[Value.string bk, Value.bool bt]), (w.heap.size, 24, #[Value.string ak, Value.bool at'])] g w') => h.1.tl.hd.1
        simp only at r1 r2
        go_region_held3 (fun w' => At w [(w3.heap.size + 1, 24, #[Value.string yk, Value.bool yt]), (w3.heap.size, 24, #[Value.string xk, Value.bool xt]), (w.heap.size + 1, 24, #[Value.string bk, Value.bool bt]), (w.heap.size, 24, #[Value.string ak, Value.bool at'])] g w')
          (first | exact hS1 | exact hA2.drew | assumption)
          (first | (go_at_call 15; refine (cmp_key ⟨_, _⟩ ⟨_, _⟩ _).mono ?_; rintro e w5 ⟨rfl, hb⟩; have hS1 := At.below ‹_› hb; clear hb)
                 | (go_at_call 16; refine (cmp_ref ⟨_, _⟩ ⟨_, _⟩ _).mono ?_; rintro e w5 ⟨rfl, hb⟩; have hS1 := At.below ‹_› hb; clear hb)
                 | (go_at_call 17; refine (bok_key ⟨_, _⟩ _).mono ?_; rintro e w5 ⟨rfl, hb⟩; have hS1 := At.below ‹_› hb; clear hb)
                 | (go_at_call 18; refine (bok_ref ⟨_, _⟩ _).mono ?_; rintro e w5 ⟨rfl, hb⟩; have hS1 := At.below ‹_› hb; clear hb)
                 | (go_at_call 19; refine (vk_key _ _).mono ?_; rintro e w5 ⟨rfl, rfl⟩)
                 | (go_at_call 20; refine (vk_ref _ _).mono ?_; rintro e w5 ⟨rfl, rfl⟩))
        go_wp2
        go_roundw
        case rel => exact ⟨k + 1, hlt, by go_num, hS1.tl.tl⟩
        case measure => simp [intOf]; omega
      · go_wp2_with fail
        go_region
        go_wp2_with fail
        clear hA2
        have hA2 := ((hA.add 24 #[.string ak, .bool at']).add 24 #[.string bk, .bool bt]).drew
        simp only [World.size_alloc] at hA2
        have r1 := fun (w' : World) (h : At w [(w3.heap.size + 1, 24, #[Value.string bk, Value.bool bt]), (w3.heap.size, 24, #[Value.string ak, Value.bool at']), (w.heap.size + 1, 24, #[Value.string bk, Value.bool bt]), (w.heap.size, 24, #[Value.string ak, Value.bool at'])] g w') => h.1.hd.1
        have r2 := fun (w' : World) (h : At w [(w3.heap.size + 1, 24, #[Value.string bk, Value.bool bt]), (w3.heap.size, 24, #[Value.string ak, Value.bool at']), (w.heap.size + 1, 24, #[Value.string bk, Value.bool bt]), (w.heap.size, 24, #[Value.string ak, Value.bool at'])] g w') => h.1.tl.hd.1
        simp only at r1 r2
        go_region_held3 (fun w' => At w [(w3.heap.size + 1, 24, #[Value.string bk, Value.bool bt]), (w3.heap.size, 24, #[Value.string ak, Value.bool at']), (w.heap.size + 1, 24, #[Value.string bk, Value.bool bt]), (w.heap.size, 24, #[Value.string ak, Value.bool at'])] g w')
          (first | exact hS1 | exact hA2.drew | assumption)
          (first | (go_at_call 15; refine (cmp_key ⟨_, _⟩ ⟨_, _⟩ _).mono ?_; rintro e w5 ⟨rfl, hb⟩; have hS1 := At.below ‹_› hb; clear hb)
                 | (go_at_call 16; refine (cmp_ref ⟨_, _⟩ ⟨_, _⟩ _).mono ?_; rintro e w5 ⟨rfl, hb⟩; have hS1 := At.below ‹_› hb; clear hb)
                 | (go_at_call 17; refine (bok_key ⟨_, _⟩ _).mono ?_; rintro e w5 ⟨rfl, hb⟩; have hS1 := At.below ‹_› hb; clear hb)
                 | (go_at_call 18; refine (bok_ref ⟨_, _⟩ _).mono ?_; rintro e w5 ⟨rfl, hb⟩; have hS1 := At.below ‹_› hb; clear hb)
                 | (go_at_call 19; refine (vk_key _ _).mono ?_; rintro e w5 ⟨rfl, rfl⟩)
                 | (go_at_call 20; refine (vk_ref _ _).mono ?_; rintro e w5 ⟨rfl, rfl⟩))
        go_wp2
        go_roundw
        case rel => exact ⟨k + 1, hlt, by go_num, hS1.tl.tl⟩
        case measure => simp [intOf]; omega
    · have hk8 : k = 8 := by omega
      go_wp2_with (go_at_call 21; refine (sane_any _).mono ?_; rintro e w2 ⟨rfl, hb⟩; replace hA := hA.below hb; clear hb)
      go_ret
      exact ⟨rfl, hA.1.1⟩
end Go.Proofs.YthcgigbgkbjfoaaDoor
