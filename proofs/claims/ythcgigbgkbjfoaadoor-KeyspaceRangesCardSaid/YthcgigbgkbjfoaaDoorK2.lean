/-
  The walk of KeyspaceRanges: from whatever arguments it answers true and only makes memory. Conditions: 'letters' holds six strings of one byte; the first argument reads as a slice of ints.
-/
import Derived.Test.YthcgigbgkbjfoaaDoorKsM
namespace Go.Proofs.YthcgigbgkbjfoaaDoor
open Go.RowKit

set_option maxRecDepth 100000 in
set_option maxHeartbeats 12800000 in
theorem ranges_walk (A : Option Addr) (n0 cp : Nat) (a b : Rg) (key : ByteArray) (w : World) (hl : Lets w) (hw : 0 < w.heap.size) (hnc : n0 ≤ cp) (hc : cp ≤ maxLen) (hN : Nums w w.heap.size A n0) :
    Calls Tryd.prog 4 #[.slice A n0 cp, a.val, b.val, .string key] w (LawP w) := by
  have hI := ((Inv.nil w).add 34 #[Value.string a.lo.key, Value.bool a.lo.top, Value.string a.hi.key, Value.bool a.hi.top]).add 34 #[Value.string b.lo.key, Value.bool b.lo.top, Value.string b.hi.key, Value.bool b.hi.top]
  simp only [World.size_alloc] at hI
  have hl' := hl.keep (hI.1.block _ hw)
  have hN' := (hN.keep (fun i hi => hI.1.block i hi)).more hI.1.size
  go_enter Tryd.func4, Tryd.ntmps4
  go_wp2_with fail
  refine (new_any A n0 cp _ hl' (Nat.lt_of_lt_of_le hw hI.1.size) hnc hc hN').mono ?_
  rintro e w1 ⟨g, hg, rfl, hT, hb⟩
  have hg1 : w.heap.size + 2 ≤ g := by simpa using hg
  have hg2 : w.heap.size ≤ g := by omega
  have hne : ∀ q ∈ [(w.heap.size + 1, 34, #[Value.string b.lo.key, Value.bool b.lo.top, Value.string b.hi.key, Value.bool b.hi.top]), (w.heap.size, 34, #[Value.string a.lo.key, Value.bool a.lo.top, Value.string a.hi.key, Value.bool a.hi.top])], q.1 ≠ g := by (simp; omega)
  have hA : At w [(w.heap.size + 1, 34, #[Value.string b.lo.key, Value.bool b.lo.top, Value.string b.hi.key, Value.bool b.hi.top]), (w.heap.size, 34, #[Value.string a.lo.key, Value.bool a.lo.top, Value.string a.hi.key, Value.bool a.hi.top])] g w1 := ⟨hI.below hb, hT⟩
  clear hb hT hg hI hl hl' hN hN' hnc hc
  go_wp2_with fail
  go_loopw [10] (fun i wr => ∃ k : Nat, k ≤ 6 ∧ i = .int .i64 k ∧ At w [(w.heap.size + 1, 34, #[Value.string b.lo.key, Value.bool b.lo.top, Value.string b.hi.key, Value.bool b.hi.top]), (w.heap.size, 34, #[Value.string a.lo.key, Value.bool a.lo.top, Value.string a.hi.key, Value.bool a.hi.top])] g wr) (fun i _ => 6 - (intOf i).toNat)
  case atStart => exact ⟨0, by omega, rfl, hA⟩
  case round =>
    clear hA
    obtain ⟨k, hk, rfl, hA⟩ := hrel
    by_cases hlt : k < 6
    · go_wp2_with fail
      refine (range_any g _ hA.2).mono ?_
      rintro e w2 ⟨x, _, _, rfl, hst⟩
      replace hA := hA.step hst hg2 hne
      clear hst
      go_wp2_with fail
      refine (range_any g _ hA.2).mono ?_
      rintro e w3 ⟨y, _, _, rfl, hst⟩
      replace hA := hA.step hst hg2 hne
      clear hst
      go_wp2_with fail
      refine (oddKey_any g _ hA.2).mono ?_
      rintro e w4 ⟨z, _, rfl, hst⟩
      replace hA := hA.step hst hg2 hne
      clear hst
      go_wp2_with ((go_at_call 22; refine (agrees_any _ _ _ _).mono ?_; rintro e w6 ⟨rfl, hb6⟩; replace hA := hA.below hb6; clear hb6; (try clear c1 c2 f1 f2); (try obtain ⟨c1, f1⟩ := hA.1.hd); (try obtain ⟨c2, f2⟩ := hA.1.tl.hd)))
      go_roundw
      case rel => exact ⟨k + 1, hlt, by go_num, hA⟩
      case measure => simp [intOf]; omega
    · obtain ⟨c1, f1⟩ := hA.1.hd
      obtain ⟨c2, f2⟩ := hA.1.tl.hd
      go_wp2_with (first | (go_at_call 22; refine (agrees_any _ _ _ _).mono ?_; rintro e w6 ⟨rfl, hb6⟩; replace hA := hA.below hb6; clear hb6; (try clear c1 c2 f1 f2); (try obtain ⟨c1, f1⟩ := hA.1.hd); (try obtain ⟨c2, f2⟩ := hA.1.tl.hd)) | (go_at_call 21; refine (sane_any _).mono ?_; rintro e w6 ⟨rfl, hb6⟩; replace hA := hA.below hb6; clear hb6))
      go_ret
      exact ⟨rfl, hA.1.1⟩
end Go.Proofs.YthcgigbgkbjfoaaDoor
