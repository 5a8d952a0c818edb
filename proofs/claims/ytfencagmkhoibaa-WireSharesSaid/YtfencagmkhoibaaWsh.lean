/-
  The walk of WireShares: from whatever arguments it answers true and only makes memory. Condition: the first argument reads as a slice of ints.
-/
import Derived.Test.YtfencagmkhoibaaKbH
import Derived.StillTailTactics
namespace Go.Proofs.Ytfencagmkhoibaa
open Go.RowKit

/-- The two bytes, and what lies behind them. -/
abbrev two (r : Int) : Array Value := ((Array.replicate 40 (Value.int .u8 0)).setIfInBounds 0 (.int .u8 r)).setIfInBounds 1 (.int .u8 7)

theorem two_bys {w' : World} {B : Nat} {r : Int} (h : Has w' B 5 (two r)) (h0 : 0 ≤ r) (h1 : r < 256) : Bys w' w'.heap.size (some ⟨B, 0, none⟩) [UInt8.ofNat r.toNat, 7] := fun _ => by
  refine ⟨B, 0, rfl, h.lt, fun i hi => ?_⟩
  rw [Nat.zero_add, h.cell]
  match i, hi with
  | 0, _ =>
    have e : (((UInt8.ofNat r.toNat).toNat : Nat) : Int) = r := by rw [toNat_ofNat8 (by omega)]; omega
    show some (Value.int .u8 r) = some (.int .u8 (((UInt8.ofNat r.toNat).toNat : Nat) : Int))
    rw [e]
  | 1, _ => rfl
/-- A row of the call's own that is not empty, named. -/
theorem OwnB.form {w : World} {base : Nat} {v : Value} {l : List UInt8} (h : OwnB w base v l) (h0 : 0 < l.length) : ∃ G cap, v = .slice (some ⟨G, 0, none⟩) l.length cap ∧ base ≤ G ∧ G < w.heap.size ∧ l.length ≤ cap ∧ cap ≤ maxLen ∧ (∀ i (h : i < l.length), w.cell? ⟨G, i, none⟩ = some (.int .u8 (l[i].toNat : Int))) ∧ ∀ o, w.frozen? ⟨G, o, none⟩ = false := by
  obtain ⟨A, c, rfl, h2, h3, h4⟩ := h.read
  obtain ⟨_, ⟨e, h2⟩ | ⟨g, cap, cur, e, h5, h6, h7, h8, _⟩⟩ := h
  · omega
  · injection e with e1 _ e2
    subst e1 e2
    refine ⟨g, c, rfl, h5, Has.lt h6, h7, h8, fun i hi => ?_, Has.frozen h6⟩
    obtain ⟨b, o, e, _, hc⟩ := h4.at_ hi
    injection e with e
    injection e with e1 e2
    subst e1 e2
    rw [Nat.zero_add] at hc
    exact hc
theorem one_len (n : Nat) (a b : UInt8) : 3 ≤ ([a, b] ++ encU n).length := by
  rw [List.length_append]
  have := enc_len_pos n
  simp
  omega
theorem s_len (a b : UInt8) : ([a, b] ++ encS (ByteArray.mk #[115]).data.toList).length = 4 := by
  unfold encS
  rw [show (ByteArray.mk #[115]).data.toList = [115] from rfl, show ([115] : List UInt8).length = 1 from rfl, encU_lt (by decide)]
  rfl

set_option maxRecDepth 100000 in
set_option maxHeartbeats 6400000 in
theorem shares_walk (A : Option Addr) (n0 cp : Nat) (n : Nat) (w : World) (hnc : n0 ≤ cp) (hc : cp ≤ maxLen) (hN : Nums w w.heap.size A n0) (hn : n < 18446744073709551616) :
    Calls Try.prog 5 #[.slice A n0 cp, .int .u64 (n : Int)] w (LawP w) := by
  obtain ⟨v, hv1, hv2, hH⟩ := headIs_of hN
  have hA0 : 0 < n0 → ∃ ad, A = some ad := fun h => by
    obtain ⟨b, o, e, _⟩ := hN h
    exact ⟨_, e⟩
  go_enter Try.func5, Try.ntmps5
  go_wp2_with fail
  refine (newX_any A n0 cp _ hnc hc hA0).mono ?_
  rintro e w1 ⟨m, c, g, hm, hg, rfl, hgb, hb⟩
  have hmk := run_make40 w1
  have hN1 := (hN.keep hb.block).more (Nat.le_of_eq hg)
  have hH1 : HeadIs w1 g A n0 v := hg ▸ hH.keep hb.block
  have hglt := blk_lt hgb
  have HM := Lib.hid hm
  have HG := Lib.hid hg
  clear hm hg
  have hk : ∀ i, i < w1.heap.size → (w1.alloc (.cells (Array.replicate 40 (.int .u8 0)) 5)).heap[i]? = w1.heap[i]? := fun i hi => Below.heap_alloc w1 _ i hi
  have hBlk := blk_new w1 5 (Array.replicate 40 (.int .u8 0))
  have hba := hb.trans (((Below.refl _ _).alloc (Nat.le_refl _) (.cells (Array.replicate 40 (.int .u8 0)) 5)).mono hb.size)
  go_wp2_with fail
  refine (next_head g 256 _ (by omega) (by omega) A n0 m c v HM.out (hN1.keep (fun i hi => hk i (by omega))) (hH1.keep (fun i hi => hk i (by omega))) ((hk g hglt).trans hgb)).mono ?_
  rintro e w2 ⟨rfl, hst⟩
  have hr0 : 0 ≤ v % 256 := Int.emod_nonneg _ (by omega)
  have hr1 : v % 256 < 256 := Int.emod_lt_of_pos _ (by omega)
  generalize hr : v % 256 = r at hr0 hr1
  have HR := Lib.hid hr
  clear hr
  have hBl2 : Has w2 w1.heap.size 5 (Array.replicate 40 (.int .u8 0)) := hst.blk hBlk (by omega)
  have hT2 := hst.1
  have hb2 : Below w.heap.size w w2 := hba.trans ⟨hst.2.os, hst.2.tape, hst.2.output, hst.2.size, fun i hi => hst.2.block i (by have := hba.size; have := hb.size; omega) (fun e => by have := Option.some.inj e; have := HG.out; omega)⟩
  have hBg : g < w1.heap.size := hglt
  have hwB : w.heap.size ≤ w1.heap.size := hb.size
  clear hBlk hk hgb hmk hN1 hH1 hst hba hb hglt
  generalize w1.heap.size = B at *
  have hA3 : At w [(B, 5, two r)] g ((w2.setCell ⟨B, 0, none⟩ (.int .u8 r)).setCell ⟨B, 1, none⟩ (.int .u8 7)) := by
    have h0 : At w [] g w2 := ⟨⟨hb2, fun _ h => by cases h⟩, hT2⟩
    have h1 := (h0.setC (p := ⟨B, 0, none⟩) hwB hBg (fun _ h => by cases h) (.int .u8 r)).setC (p := ⟨B, 1, none⟩) hwB hBg (fun _ h => by cases h) (.int .u8 7)
    refine ⟨⟨h1.1.1, fun q hq => ?_⟩, h1.2⟩
    obtain rfl : q = _ := List.mem_singleton.1 hq
    exact (hBl2.set_ 0 _).set_ 1 _
  have c0 : w2.cell? ⟨B, 0, none⟩ = some (.int .u8 0) := (hBl2.cell 0).trans rfl
  have c1 : w2.cell? ⟨B, 1, none⟩ = some (.int .u8 0) := (hBl2.cell 1).trans rfl
  have f2 := hBl2.frozen
  clear hBl2 hT2
  have nA := (appendUint_any (some ⟨B, 0, none⟩) [UInt8.ofNat r.toNat, 7] 40 n _ (two_bys (hA3.1.2 _ (.head _)) hr0 hr1) (by simp) (by simp) (by unfold maxLen; omega) hn)
  go_wp2_with fail
  refine nA.mono ?_
  rintro e w4 ⟨v1, rfl, ho1, hb4⟩
  have hA4 := hA3.below hb4
  have hzB3 := (hA3.1.2 _ (.head _)).lt
  simp only at hzB3
  generalize ((w2.setCell ⟨B, 0, none⟩ (.int .u8 r)).setCell ⟨B, 1, none⟩ (.int .u8 7)).heap.size = z3 at ho1 hzB3
  clear nA hA3 c0 c1 f2 hb4
  go_wp2_with fail
  refine (appendInt_any (some ⟨B, 0, none⟩) [UInt8.ofNat r.toNat, 7] 40 _ _ (two_bys (hA4.1.2 _ (.head _)) hr0 hr1) (by simp) (by simp) (by unfold maxLen; omega) (by unfold wrap64; omega) (by unfold wrap64; omega)).mono ?_
  rintro e w5 ⟨v2, rfl, ho2, hb5⟩
  have hA5 := hA4.below hb5
  go_wp2_with fail
  refine (appendString_any (some ⟨B, 0, none⟩) [UInt8.ofNat r.toNat, 7] 40 ⟨#[115]⟩ _ (two_bys (hA5.1.2 _ (.head _)) hr0 hr1) (by simp) (by simp) (by unfold maxLen; omega) (by decide)).mono ?_
  rintro e w6 ⟨v3, rfl, ho3, hb6⟩
  have hA6 := hA5.below hb6
  have L1 := one_len n (UInt8.ofNat r.toNat) 7
  have L2 := one_len (zig (wrap64 (n : Int))) (UInt8.ofNat r.toNat) 7
  have L3 := s_len (UInt8.ofNat r.toNat) 7
  obtain ⟨G1, p1, rfl, g1, z1, -, -, k1, q1⟩ := ho1.form (by omega)
  obtain ⟨G2, p2, rfl, g2, z2, -, -, k2, q2⟩ := ho2.form (by omega)
  obtain ⟨G3, p3, rfl, g3, z3, -, -, k3, q3⟩ := ho3.form (by omega)
  rw [L3]
  generalize hm1 : ([UInt8.ofNat r.toNat, 7] ++ encU n).length = m1 at L1 ⊢
  generalize hm2 : ([UInt8.ofNat r.toNat, 7] ++ encU (zig (wrap64 (n : Int)))).length = m2 at L2 ⊢
  obtain ⟨u1, e1⟩ : ∃ u, w6.cell? ⟨G1, 0, none⟩ = some u := ⟨_, (hb6.cell (p := ⟨G1, 0, none⟩) (Nat.lt_of_lt_of_le z1 hb5.size)).trans ((hb5.cell (p := ⟨G1, 0, none⟩) z1).trans (k1 0 (by rw [hm1]; omega)))⟩
  obtain ⟨u2, e2⟩ : ∃ u, w6.cell? ⟨G2, 0, none⟩ = some u := ⟨_, (hb6.cell (p := ⟨G2, 0, none⟩) z2).trans (k2 0 (by rw [hm2]; omega))⟩
  obtain ⟨u3, e3⟩ : ∃ u, w6.cell? ⟨G3, 0, none⟩ = some u := ⟨_, k3 0 (by omega)⟩
  have f1 := (hb6.frozen (p := ⟨G1, 0, none⟩) (Nat.lt_of_lt_of_le z1 hb5.size)).trans ((hb5.frozen (p := ⟨G1, 0, none⟩) z1).trans (q1 0))
  have f2 := (hb6.frozen (p := ⟨G2, 0, none⟩) z2).trans (q2 0)
  have f3 := q3 0
  have d1 : B < G1 := by omega
  have d2 : G1 < G2 := by omega
  have d3 : G2 < G3 := by omega
  have s1 := hb5.size
  have s2 := hb6.size
  clear k1 k2 k3 q1 q2 q3 hm1 hm2 L3 hA4 hA5 hb5 hb6 ho1 ho2 ho3
  go_wp2_with fail
  have hA7 : At w [(B, 5, two r)] g (((w6.setCell ⟨G1, 0, none⟩ (.int .u8 1)).setCell ⟨G2, 0, none⟩ (.int .u8 2)).setCell ⟨G3, 0, none⟩ (.int .u8 3)) :=
    ((hA6.setC (p := ⟨G1, 0, none⟩) (by simp; omega) (by simp; omega) (by simp; omega) _).setC (p := ⟨G2, 0, none⟩) (by simp; omega) (by simp; omega) (by simp; omega) _).setC (p := ⟨G3, 0, none⟩) (by simp; omega) (by simp; omega) (by simp; omega) _
  clear hA6 e1 e2 e3 f1 f2 f3 hN hA0
  generalize (((w6.setCell ⟨G1, 0, none⟩ (.int .u8 1)).setCell ⟨G2, 0, none⟩ (.int .u8 2)).setCell ⟨G3, 0, none⟩ (.int .u8 3)) = w7 at hA7 ⊢
  have hA8 := hA7.drew
  have hH8 := hH.keep hA8.1.1.block
  have b0 : w7.drew.cell? ⟨B, 0, none⟩ = some (.int .u8 r) := (hA8.1.hd.1 0).trans rfl
  have b2 : w7.drew.cell? ⟨B, 2, none⟩ = some (.int .u8 0) := (hA8.1.hd.1 2).trans rfl
  have k1 := Lib.hid (first_any A n0 cp v w.heap.size _ hH8)
  have k2 := Lib.hid (mod_any v 256 w7.drew (by omega) (by omega))
  rw [HR.out] at k2
  clear hH hH8 hA7
  have hw8 : IntKind.u8.wrap r = r := by simp [IntKind.wrap, IntKind.bits, IntKind.signed]; omega
  refine wp_region_still_tail 15 (by kernel_rfl) (by kernel_rfl) ?_
  simp only [List.take_succ_cons, List.take_zero, List.drop_succ_cons, List.drop_zero]
  change wpStill _ _ w7.drew (fun a' => wpList _ _ _ _ a' w7.drew) _ _
  generalize w7.drew = w9 at *
  repeat still_step
  still_call ((k1.out).mono fun _ _ h => ⟨h.1, h.2.symm⟩)
  still_call ((k2.out).mono fun _ _ h => ⟨h.1, h.2.symm⟩)
  repeat still_step
  refine wpStill_nil ?_
  go_wp2_with fail
  refine (sane_any _).mono ?_
  rintro e w10 ⟨rfl, hb10⟩
  have hA9 := hA8.below hb10
  go_wp2_with fail
  go_ret
  exact ⟨rfl, hA9.1.1⟩
end Go.Proofs.Ytfencagmkhoibaa
