/-
  The walk of WireStrings: from whatever arguments it answers true and only makes memory. Conditions: 'letters' holds six strings of one byte; the arguments can be read.
-/
import Derived.Test.YtfencagmkhoibaaDoorKbS
import Derived.Test.YtfencagmkhoibaaDoorKbE
import Derived.Test.YtfencagmkhoibaaDoorKbR
import Derived.Test.YtfencagmkhoibaaDoorKwK
import Derived.Deep.RegionHeld3
import Derived.Deep.DrawnRows
namespace Go.Proofs.YtfencagmkhoibaaDoor
open Go.RowKit
attribute [local go_sem ↓] Go.wp_at_zero Go.wp_at_succ

theorem str_eq (d : DecS) : ∃ (p : ByteArray) (u f : Int), strV d = .tuple #[.string p, .int .i64 u, .int .i64 f] := by
  cases d with
  | form => exact ⟨_, _, _, rfl⟩
  | limit => exact ⟨_, _, _, rfl⟩
  | got s k => exact ⟨_, _, _, rfl⟩
/-- The two readers of strings agree. -/
theorem str_both (A : Option Addr) (l : List UInt8) (N c : Nat) (B : Nat) (w : World) (limit : Int) (hl : Bys w B A l) (hN : l.length = N) (hn : N ≤ 1000000000) (hc : N ≤ c) (hm : c ≤ maxLen) (h1 : -9223372036854775808 ≤ limit) (h2 : limit ≤ 9223372036854775807) :
    ∃ (p : ByteArray) (u f : Int), Calls Tryd.prog 14 #[.slice A N c, .int .i64 limit] w (fun e w' => e = .returned (.tuple #[.string p, .int .i64 u, .int .i64 f]) ∧ w = w') ∧ Calls Tryd.prog 15 #[.slice A N c, .int .i64 limit] w (fun e w' => e = .returned (.tuple #[.string p, .int .i64 u, .int .i64 f]) ∧ w = w') := by
  subst hN
  obtain ⟨p, u, f, h⟩ := str_eq (decS l limit)
  exact ⟨p, u, f, (string_any A l c B w limit hl hn hc hm h1 h2).mono fun e w' k => ⟨by rw [k.1, h], k.2⟩, (string_ref A l c B w limit hl hn hc hm h1 h2).mono fun e w' k => ⟨by rw [k.1, h], k.2⟩⟩
/-- A row of the call's own, with a letter for its length. -/
theorem newB_N {l : List UInt8} {w : World} {e : Ending} {w' : World} (h : NewB l w e w') : ∃ (A : Option Addr) (N c : Nat), e = .returned (.slice A N c) ∧ Hid (l.length = N) ∧ N ≤ c ∧ c ≤ maxLen ∧ Hid (Bys w' w'.heap.size A l) ∧ (∀ b o, A = some ⟨b, o, none⟩ → w.heap.size ≤ b) ∧ Below w.heap.size w w' := by
  obtain ⟨v, rfl, ho, hb⟩ := h
  obtain ⟨A, c, rfl, h1, h2, h3⟩ := ho.read
  refine ⟨A, _, c, rfl, rfl, h1, h2, h3, fun b o e => ?_, hb⟩
  subst e
  exact (ho.base_le (g := b) rfl).1
theorem Bys.step {w w' : World} {B g : Nat} {A : Option Addr} {l : List UInt8} (h : Bys w B A l) (hA : ∀ b o, A = some ⟨b, o, none⟩ → b ≠ g) (hB : B ≤ w.heap.size) (k : TStep w g w') : Bys w' B A l := fun hn => by
  obtain ⟨b, o, e, hb, hc⟩ := h hn
  exact ⟨b, o, e, hb, fun i hi => (World.cell?_of_block (k.2.block b (by omega) (fun e2 => hA b o e (Option.some.inj e2)))).trans (hc i hi)⟩

set_option maxRecDepth 100000 in
set_option maxHeartbeats 6400000 in
theorem strings_walk (A : Option Addr) (n0 cp : Nat) (A1 : Option Addr) (l1 : List UInt8) (c1 : Nat) (s : ByteArray) (m : Int) (w : World) (hl : Lets w) (_hw : 0 < w.heap.size) (hnc : n0 ≤ cp) (hc : cp ≤ maxLen) (hN : Nums w w.heap.size A n0) (hlc1 : l1.length ≤ c1) (hcm1 : c1 ≤ maxLen) (hB1 : Bys w w.heap.size A1 l1) (hs : s.size ≤ maxLen) (hm1 : -9223372036854775808 ≤ m) (hm2 : m ≤ 9223372036854775807) :
    Calls Tryd.prog 3 #[.slice A n0 cp, .slice A1 l1.length c1, .string s, .int .i64 m] w (LawP w) := by
  have hlw := hl.lt
  have hcm1' := hcm1
  unfold maxLen at hs hcm1'
  have hl63 : l1.length ≤ 9223372036854775807 := by omega
  by_cases hbig : 5000 < l1.length ∨ 5000 < s.size
  · by_cases hb1 : 5000 < l1.length
    all_goals
      go_enter Tryd.func3, Tryd.ntmps3
      go_wp2_with fail
      refine (new_any A n0 cp _ hnc hc hN).mono ?_
      rintro e w1 ⟨g, hg1, rfl, hT, hb⟩
      go_wp2_with fail
      refine (sane_any _).mono ?_
      rintro e w2 ⟨rfl, hb2⟩
      go_wp2_with fail
      go_ret
      exact ⟨rfl, hb.trans (hb2.mono hb.size)⟩
  · have hq1 : l1.length ≤ 5000 := by omega
    have hq2 : s.size ≤ 5000 := by omega
    clear hbig hcm1'
    go_enter Tryd.func3, Tryd.ntmps3
    go_wp2_with fail
    refine (new_any A n0 cp _ hnc hc hN).mono ?_
    rintro e w1 ⟨g, hg1, rfl, hT, hb⟩
    have hA : At w [] g w1 := ⟨(Inv.nil w).below hb, hT⟩
    clear hb hT hN hnc hc
    go_wp2_with fail
    go_loopw [10] (fun i wr => ∃ k : Nat, k ≤ 5 ∧ i = .int .i64 k ∧ At w [] g wr) (fun i _ => 5 - (intOf i).toNat)
    case atStart => exact ⟨0, by omega, rfl, hA⟩
    case round =>
      clear hA
      obtain ⟨k, hk, rfl, hA⟩ := hrel
      by_cases hlt : k < 5
      · have hL := hl.below hA.1.1
        go_wp2_with fail
        refine (key_any g _ hA.2 hL (by omega)).mono ?_
        rintro e w2 ⟨k1, hk1, rfl, hst⟩
        replace hA := hA.step hst hg1 (fun _ h => by cases h)
        clear hst hL
        go_wp2_with fail
        refine (appendString_ref none [] 0 k1 _ (Bys.nil _) (by simp) (by omega)).mono ?_
        intro e w3 hp
        obtain ⟨A2, N2, c2, rfl, hN2, hc2, hm2', hr2, hg2, hb⟩ := newB_N hp
        have hz2 := hA.2.lt
        replace hg2 : ∀ b o, A2 = some ⟨b, o, none⟩ → b ≠ g := fun b o e => by have := hg2 b o e; omega
        replace hA := hA.below hb
        have hN2le : N2 ≤ 200 := by
          have h1 := hN2.out
          have h2 := enc_len10 (m := k1.data.toList.length) (by show k1.size < _; omega)
          have h3 : k1.data.toList.length = k1.size := rfl
          simp only [encS, List.nil_append, List.length_append] at h1
          omega
        generalize [] ++ encS k1.data.toList = l2 at hN2 hr2
        clear hp hb hz2
        go_wp2_with fail
        refine (next_any g 70 _ hA.2 (by omega)).mono ?_
        rintro e w4 ⟨r, r0, r1, rfl, hst⟩
        have hr3 := Lib.hid ((hr2.out.step hg2 (Nat.le_refl _) hst).more hst.2.size)
        replace hA := hA.step hst hg1 (fun _ h => by cases h)
        have r2 : r < 70 := by omega
        clear hst hr2 r1
        have hk' : k = 0 ∨ k = 1 ∨ k = 2 ∨ k = 3 ∨ k = 4 := by omega
        rcases hk' with rfl | rfl | rfl | rfl | rfl
        · go_wp2_with fail
          obtain ⟨p, u, f, k1, k2⟩ := str_both A2 l2 N2 c2 _ w4 (r - 1) hr3.out hN2.out (by omega) hc2 hm2' (by omega) (by omega)
          refine k1.mono ?_
          rintro e w' ⟨rfl, rfl⟩
          go_wp2_with fail
          refine k2.mono ?_
          rintro e w' ⟨rfl, rfl⟩
          go_wp2_with fail
          go_roundw
          case rel => exact ⟨1, by omega, rfl, hA⟩
          case measure => simp [intOf]
        · go_wp2_with fail
          obtain ⟨p, u, f, k1, k2⟩ := str_both A2 l2 N2 c2 _ w4 (r - 1) hr3.out hN2.out (by omega) hc2 hm2' (by omega) (by omega)
          refine k1.mono ?_
          rintro e w' ⟨rfl, rfl⟩
          go_wp2_with fail
          refine k2.mono ?_
          rintro e w' ⟨rfl, rfl⟩
          go_wp2_with fail
          go_roundw
          case rel => exact ⟨2, by omega, rfl, hA⟩
          case measure => simp [intOf]
        · go_wp2_with fail
          refine (next_any g _ _ hA.2 (by omega)).mono ?_
          rintro e w5 ⟨t, t0, t1, rfl, hst⟩
          have hr4 := (hr3.out.step hg2 (Nat.le_refl _) hst).more hst.2.size
          replace hA := hA.step hst hg1 (fun _ h => by cases h)
          have htN : t.toNat ≤ N2 := by omega
          have hlen : (l2.take t.toNat).length = t.toNat := by rw [List.length_take, hN2.out]; omega
          have HT := Lib.hid hlen
          clear hst hlen
          go_wp2_with fail
          obtain ⟨p, u, f, k1, k2⟩ := str_both A2 (l2.take t.toNat) t.toNat c2 _ w5 (r - 1) (hr4.take t.toNat) HT.out (by omega) (by omega) hm2' (by omega) (by omega)
          refine k1.mono ?_
          rintro e w' ⟨rfl, rfl⟩
          go_wp2_with fail
          refine k2.mono ?_
          rintro e w' ⟨rfl, rfl⟩
          go_wp2_with fail
          go_roundw
          case rel => exact ⟨3, by omega, rfl, hA⟩
          case measure => simp [intOf]
        · have hB := (hB1.below hA.1.1).more hA.1.1.size
          go_wp2_with fail
          obtain ⟨p, u, f, k1, k2⟩ := str_both A1 l1 l1.length c1 _ w4 m hB rfl (by omega) hlc1 hcm1 (by omega) (by omega)
          refine k1.mono ?_
          rintro e w' ⟨rfl, rfl⟩
          go_wp2_with fail
          refine k2.mono ?_
          rintro e w' ⟨rfl, rfl⟩
          go_wp2_with fail
          go_roundw
          case rel => exact ⟨4, by omega, rfl, hA⟩
          case measure => simp [intOf]
        · go_wp2_with fail
          refine (edges_any g _ hA.2).mono ?_
          rintro e w5 ⟨n, hn, rfl, hst⟩
          replace hA := hA.step hst hg1 (fun _ h => by cases h)
          clear hst
          go_wp2_with fail
          refine (appendUint_ref none [] 0 n _ (Bys.nil _) (by simp) hn).mono ?_
          intro e w6 hp
          obtain ⟨A3, N3, c3, rfl, hN3, hc3, hm3', hr5, -, hb⟩ := newB_N hp
          replace hA := hA.below hb
          have hN3le : N3 ≤ 200 := by
            have h1 := hN3.out
            have h2 := enc_len10 hn
            simp only [List.nil_append] at h1
            omega
          generalize [] ++ encU n = l3 at hN3 hr5
          clear hp hb
          go_wp2_with fail
          obtain ⟨p, u, f, k1, k2⟩ := str_both A3 l3 N3 c3 _ w6 (r - 1) hr5.out hN3.out (by omega) hc3 hm3' (by omega) (by omega)
          refine k1.mono ?_
          rintro e w' ⟨rfl, rfl⟩
          go_wp2_with fail
          refine k2.mono ?_
          rintro e w' ⟨rfl, rfl⟩
          go_wp2_with fail
          go_roundw
          case rel => exact ⟨5, by omega, rfl, hA⟩
          case measure => simp [intOf]
      · obtain ⟨R, hR⟩ : ∃ R : ByteArray, R = ⟨(l1 ++ encS s.data.toList).toArray⟩ := ⟨_, rfl⟩
        have U1 := Lib.hid (fun (W : World) (k : Below w.heap.size w W) => (appendString_any A1 l1 c1 s W ((hB1.below k).more k.size) (by omega) hlc1 hcm1 (by omega)).mono fun _ _ h => newM_of hR h)
        have U2 := Lib.hid (fun (W : World) (k : Below w.heap.size w W) => (appendString_ref A1 l1 c1 s W ((hB1.below k).more k.size) (by omega) (by omega)).mono fun _ _ h => newM_of hR h)
        have hS0 := hA.1.1
        have hS1 := hA.drew.1.1
        clear hR hA hB1 hl
        go_wp2_with fail
        go_region_with (first | (go_at_call 16; (with_reducible refine (U1.out _ hS1).mono ?_); rintro e w6 ⟨A5, N5, C5, rfl, hk1, -, hb6⟩; have k1 := hk1 _ (Below.refl _ _); have HK1 := Lib.hid hk1; clear hk1; have hS2 := hS1.trans (hb6.mono hS1.size); clear hb6) | (go_at_call 9; (with_reducible refine (U2.out _ hS2).mono ?_); rintro e w7 ⟨A6, N6, C6, rfl, hk2, -, hb7⟩; have k1' := HK1.out _ hb7; have k2 := hk2 _ (Below.refl _ _); clear hk2; have hS3 := hS2.trans (hb7.mono hS2.size); clear hb7) | (go_at_call 8; refine (sane_any _).mono ?_; rintro e w8 ⟨rfl, hb8⟩; have hS4 := hS3.trans (hb8.mono hS3.size)))
        all_goals
          go_wp2
          go_ret
          exact ⟨rfl, hS4⟩
end Go.Proofs.YtfencagmkhoibaaDoor
