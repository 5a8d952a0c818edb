/-
  The walk of WirePrefixes: from whatever arguments it answers true and only makes memory. Conditions: 'letters' holds six strings of one byte; the first argument reads as a slice of ints.
-/
import Derived.Test.YtfencagmkhoibaaDoorKbS
import Derived.Test.YtfencagmkhoibaaDoorKbE
import Derived.Test.YtfencagmkhoibaaDoorKwK
import Derived.Test.YtfencagmkhoibaaDoorWbg
import Derived.Deep.RegionHeld3
namespace Go.Proofs.YtfencagmkhoibaaDoor
open Go.RowKit

theorem bg_U {x y : Nat} (hx : x < 18446744073709551616) (hy : y < 18446744073709551616) : bg ([] ++ encU x) ([] ++ encU y) = decide (x = y) := by
  unfold bg
  rw [List.nil_append, List.nil_append]
  by_cases h : x = y
  · subst h; simp
  · rw [decide_eq_false h]
    refine decide_eq_false fun ⟨r, hr⟩ => h ?_
    exact (encU_free hy hx (r := r) (s := []) (by rw [hr, List.append_nil])).symm
theorem wrap64_inj {x y : Nat} (hx : x < 18446744073709551616) (hy : y < 18446744073709551616) (h : wrap64 (x : Int) = wrap64 (y : Int)) : x = y := by unfold wrap64 at h; omega
theorem wrap64_bd (n : Int) : -9223372036854775808 ≤ wrap64 n ∧ wrap64 n ≤ 9223372036854775807 := by unfold wrap64; omega
theorem bg_I {x y : Nat} (hx : x < 18446744073709551616) (hy : y < 18446744073709551616) : bg ([] ++ encU (zig (wrap64 (x : Int)))) ([] ++ encU (zig (wrap64 (y : Int)))) = decide (x = y) := by
  rw [bg_U (zig_lt (wrap64_bd _).1 (wrap64_bd _).2) (zig_lt (wrap64_bd _).1 (wrap64_bd _).2)]
  rw [decide_eq_decide]
  exact ⟨fun h => wrap64_inj hx hy (zig_inj h), fun h => by rw [h]⟩
theorem bg_S {x y : ByteArray} (hx : x.size ≤ 1000000) (hy : y.size ≤ 1000000) : bg ([] ++ encS x.data.toList) ([] ++ encS y.data.toList) = (x.toList == y.toList) := by
  unfold bg
  rw [List.nil_append, List.nil_append, toList_data, toList_data]
  have h1 : x.data.toList.length < 18446744073709551616 := by show x.size < _; omega
  have h2 : y.data.toList.length < 18446744073709551616 := by show y.size < _; omega
  rw [Bool.eq_iff_iff, decide_eq_true_iff, beq_iff_eq]
  constructor
  · rintro ⟨r, hr⟩
    exact (encS_free h2 h1 (r := r) (s := []) (by rw [hr, List.append_nil])).symm
  · intro h
    rw [h]
    exact List.prefix_refl _

theorem wrap_is (n : Int) : IntKind.i64.wrap n = wrap64 n := by rw [IntKind.wrap_i64]; unfold wrap64; omega
/-- A row of the call's own, with a letter for its length. -/
def NewN (l : List UInt8) (w : World) (e : Ending) (w' : World) : Prop := ∃ (A : Option Addr) (N c : Nat), e = .returned (.slice A N c) ∧ Hid (l.length = N) ∧ N ≤ c ∧ Hid (Bys w' w'.heap.size A l) ∧ Below w.heap.size w w'
theorem newN_of {l : List UInt8} {w : World} {e : Ending} {w' : World} (h : NewB l w e w') : NewN l w e w' := by
  obtain ⟨v, rfl, ho, hb⟩ := h
  obtain ⟨A, c, rfl, h1, _, h3⟩ := ho.read
  exact ⟨A, _, c, rfl, rfl, h1, h3, hb⟩
theorem uN (x : Nat) (hx : x < 18446744073709551616) (W : World) : Calls Tryd.prog 33 #[.slice none 0 0, .int .u64 (x : Int)] W (NewN ([] ++ encU x) W) :=
  (appendUint_any none [] 0 x W (Bys.nil _) (by simp) (Nat.le_refl _) (by unfold maxLen; omega) hx).mono fun _ _ h => newN_of h
theorem iN (x : Int) (W : World) : Calls Tryd.prog 34 #[.slice none 0 0, .int .i64 (wrap64 x)] W (NewN ([] ++ encU (zig (wrap64 x))) W) :=
  (appendInt_any none [] 0 (wrap64 x) W (Bys.nil _) (by simp) (Nat.le_refl _) (by unfold maxLen; omega) (wrap64_bd x).1 (wrap64_bd x).2).mono fun _ _ h => newN_of h
theorem sN (x : ByteArray) (hx : x.size ≤ 100000) (W : World) : Calls Tryd.prog 16 #[.slice none 0 0, .string x] W (NewN ([] ++ encS x.data.toList) W) :=
  (appendString_any none [] 0 x W (Bys.nil _) (by simp) (Nat.le_refl _) (by unfold maxLen; omega) (by omega)).mono fun _ _ h => newN_of h

set_option maxRecDepth 100000 in
set_option maxHeartbeats 6400000 in
theorem prefixes_walk (A : Option Addr) (n0 cp a b : Nat) (s : ByteArray) (w : World) (hl : Lets w) (_hw : 0 < w.heap.size) (hnc : n0 ≤ cp) (hc : cp ≤ maxLen) (hN : Nums w w.heap.size A n0) (ha : a < 18446744073709551616) (hb0 : b < 18446744073709551616) (hs : s.size ≤ maxLen) :
    Calls Tryd.prog 6 #[.slice A n0 cp, .int .u64 (a : Int), .int .u64 (b : Int), .string s] w (LawP w) := by
  unfold maxLen at hs
  by_cases hbig : 5000 < s.size
  · go_enter Tryd.func6, Tryd.ntmps6
    go_wp2_with fail
    refine (new_any A n0 cp _ hnc hc hN).mono ?_
    rintro e w1 ⟨g, hg1, rfl, hT, hb⟩
    go_wp2_with fail
    refine (sane_any _).mono ?_
    rintro e w2 ⟨rfl, hb2⟩
    go_wp2_with fail
    go_ret
    exact ⟨rfl, hb.trans (hb2.mono hb.size)⟩
  · go_enter Tryd.func6, Tryd.ntmps6
    go_wp2_with fail
    refine (new_any A n0 cp _ hnc hc hN).mono ?_
    rintro e w1 ⟨g, hg1, rfl, hT, hb⟩
    have hA : At w [] g w1 := ⟨(Inv.nil w).below hb, hT⟩
    clear hb hT hN hnc hc
    go_wp2_with fail
    refine (edges_any g _ hA.2).mono ?_
    rintro e w2 ⟨n1, hn1, rfl, hst⟩
    replace hA := hA.step hst hg1 (fun _ h => by cases h)
    clear hst
    go_wp2_with fail
    refine (edges_any g _ hA.2).mono ?_
    rintro e w3 ⟨n2, hn2, rfl, hst⟩
    replace hA := hA.step hst hg1 (fun _ h => by cases h)
    clear hst
    go_wp2_with fail
    have hgD := hA.2.lt
    replace hA := hA.add 58 #[.int .u64 (a : Int), .int .u64 (b : Int), .int .u64 (n1 : Int), .int .u64 (n2 : Int), .int .u64 (a : Int), .int .u64 (a : Int)]
    generalize w3.heap.size = D at hA hgD ⊢
    go_loopw [33] (fun i wr => ∃ k : Nat, k ≤ 3 ∧ i = .int .i64 k ∧ At w [(D, 58, #[.int .u64 (a : Int), .int .u64 (b : Int), .int .u64 (n1 : Int), .int .u64 (n2 : Int), .int .u64 (a : Int), .int .u64 (a : Int)])] g wr) (fun i _ => 3 - (intOf i).toNat)
    case atStart => exact ⟨0, by omega, rfl, hA⟩
    case round =>
      clear hA
      obtain ⟨k, hk, rfl, hA⟩ := hrel
      by_cases hlt : k < 3
      · obtain ⟨x, y, hx, hy, c0, c1⟩ : ∃ x y : Nat, x < 18446744073709551616 ∧ y < 18446744073709551616 ∧ wr.cell? ⟨D, k * 2, none⟩ = some (.int .u64 (x : Int)) ∧ wr.cell? ⟨D, k * 2 + 1, none⟩ = some (.int .u64 (y : Int)) := by
          have hc := hA.1.hd.1
          match k, hlt with
          | 0, _ => exact ⟨a, b, ha, hb0, hc 0, hc 1⟩
          | 1, _ => exact ⟨n1, n2, hn1, hn2, hc 2, hc 3⟩
          | 2, _ => exact ⟨a, a, ha, ha, hc 4, hc 5⟩
        have HUx := Lib.hid (uN x hx)
        have HUy := Lib.hid (uN y hy)
        have HIx := Lib.hid (iN (x : Int))
        have HIy := Lib.hid (iN (y : Int))
        have HBU := Lib.hid (bg_U hx hy)
        have HBI := Lib.hid (bg_I hx hy)
        go_wp2_with fail
        replace hA := hA.add 58 #[.int .u64 (x : Int), .int .u64 (y : Int)]
        clear c0 c1
        generalize wr.alloc (.cells #[.int .u64 (x : Int), .int .u64 (y : Int)] 58) = wq at hA ⊢
        generalize wr.heap.size = P at hA ⊢
        have q0 := fun (w' : World) (h : At w [(P, 58, #[.int .u64 (x : Int), .int .u64 (y : Int)]), (D, 58, #[.int .u64 (a : Int), .int .u64 (b : Int), .int .u64 (n1 : Int), .int .u64 (n2 : Int), .int .u64 (a : Int), .int .u64 (a : Int)])] g w') => h.1.hd.1 0
        have q1 := fun (w' : World) (h : At w [(P, 58, #[.int .u64 (x : Int), .int .u64 (y : Int)]), (D, 58, #[.int .u64 (a : Int), .int .u64 (b : Int), .int .u64 (n1 : Int), .int .u64 (n2 : Int), .int .u64 (a : Int), .int .u64 (a : Int)])] g w') => h.1.hd.1 1
        simp only at q0 q1
        replace q0 : ∀ w' : World, At w [(P, 58, #[.int .u64 (x : Int), .int .u64 (y : Int)]), (D, 58, #[.int .u64 (a : Int), .int .u64 (b : Int), .int .u64 (n1 : Int), .int .u64 (n2 : Int), .int .u64 (a : Int), .int .u64 (a : Int)])] g w' → w'.cell? ⟨P, 0, none⟩ = some (.int .u64 (x : Int)) := q0
        replace q1 : ∀ w' : World, At w [(P, 58, #[.int .u64 (x : Int), .int .u64 (y : Int)]), (D, 58, #[.int .u64 (a : Int), .int .u64 (b : Int), .int .u64 (n1 : Int), .int .u64 (n2 : Int), .int .u64 (a : Int), .int .u64 (a : Int)])] g w' → w'.cell? ⟨P, 1, none⟩ = some (.int .u64 (y : Int)) := q1
        have W1 : IntKind.i64.wrap (x : Int) = wrap64 (x : Int) := wrap_is _
        have W2 : IntKind.i64.wrap (y : Int) = wrap64 (y : Int) := wrap_is _
        by_cases hxy : x = y
        · have hd : ((x : Int) == (y : Int)) = true := by simp [hxy]
          have HD := Lib.hid (decide_eq_true hxy)
          clear hxy
          go_region_held3 (fun w' => At w [(P, 58, #[.int .u64 (x : Int), .int .u64 (y : Int)]), (D, 58, #[.int .u64 (a : Int), .int .u64 (b : Int), .int .u64 (n1 : Int), .int .u64 (n2 : Int), .int .u64 (a : Int), .int .u64 (a : Int)])] g w')
            (first | with_reducible exact hS1 | with_reducible exact hA.drew | with_reducible assumption)
            (first | (go_at_call 33; (with_reducible refine (HUx.out _).mono ?_); rintro e w6 ⟨A1, N1, C1, rfl, hn1', hc1, hr1, hb6⟩; have hS1 := At.below ‹_› hb6; clear hb6)
                   | (go_at_call 33; (with_reducible refine (HUy.out _).mono ?_); rintro e w7 ⟨A2, N2, C2, rfl, hn2', hc2, hr2, hb7⟩; replace hr1 := Lib.hid ((hr1.out.below hb7).more hb7.size); have hS1 := At.below ‹_› hb7; clear hb7)
                   | (go_at_call 32; (with_reducible refine (begins_any _ _ ([] ++ encU x) ([] ++ encU y) _ _ _ _ _ _ _ hr1.out hr2.out hn1'.out hn2'.out hc1).mono ?_); rintro e w8 ⟨he8, hb8⟩; rw [HBU.out, HD.out] at he8; subst he8; have hS1 := At.below ‹_› hb8; clear hb8)
                   | (go_at_call 34; (with_reducible refine (HIx.out _).mono ?_); rintro e w6 ⟨A1, N1, C1, rfl, hn1', hc1, hr1, hb6⟩; have hS1 := At.below ‹_› hb6; clear hb6)
                   | (go_at_call 34; (with_reducible refine (HIy.out _).mono ?_); rintro e w7 ⟨A2, N2, C2, rfl, hn2', hc2, hr2, hb7⟩; replace hr1 := Lib.hid ((hr1.out.below hb7).more hb7.size); have hS1 := At.below ‹_› hb7; clear hb7)
                   | (go_at_call 32; (with_reducible refine (begins_any _ _ ([] ++ encU (zig (wrap64 (x : Int)))) ([] ++ encU (zig (wrap64 (y : Int)))) _ _ _ _ _ _ _ hr1.out hr2.out hn1'.out hn2'.out hc1).mono ?_); rintro e w8 ⟨he8, hb8⟩; rw [HBI.out, HD.out] at he8; subst he8; have hS1 := At.below ‹_› hb8; clear hb8))
          go_wp2
          go_roundw
          case rel => exact ⟨k + 1, hlt, by go_num, hS1.tl⟩
          case measure => simp [intOf]; omega
        · have hd : ((x : Int) == (y : Int)) = false := by simp; omega
          have HD := Lib.hid (decide_eq_false hxy)
          clear hxy
          go_region_held3 (fun w' => At w [(P, 58, #[.int .u64 (x : Int), .int .u64 (y : Int)]), (D, 58, #[.int .u64 (a : Int), .int .u64 (b : Int), .int .u64 (n1 : Int), .int .u64 (n2 : Int), .int .u64 (a : Int), .int .u64 (a : Int)])] g w')
            (first | with_reducible exact hS1 | with_reducible exact hA.drew | with_reducible assumption)
            (first | (go_at_call 33; (with_reducible refine (HUx.out _).mono ?_); rintro e w6 ⟨A1, N1, C1, rfl, hn1', hc1, hr1, hb6⟩; have hS1 := At.below ‹_› hb6; clear hb6)
                   | (go_at_call 33; (with_reducible refine (HUy.out _).mono ?_); rintro e w7 ⟨A2, N2, C2, rfl, hn2', hc2, hr2, hb7⟩; replace hr1 := Lib.hid ((hr1.out.below hb7).more hb7.size); have hS1 := At.below ‹_› hb7; clear hb7)
                   | (go_at_call 32; (with_reducible refine (begins_any _ _ ([] ++ encU x) ([] ++ encU y) _ _ _ _ _ _ _ hr1.out hr2.out hn1'.out hn2'.out hc1).mono ?_); rintro e w8 ⟨he8, hb8⟩; rw [HBU.out, HD.out] at he8; subst he8; have hS1 := At.below ‹_› hb8; clear hb8)
                   | (go_at_call 34; (with_reducible refine (HIx.out _).mono ?_); rintro e w6 ⟨A1, N1, C1, rfl, hn1', hc1, hr1, hb6⟩; have hS1 := At.below ‹_› hb6; clear hb6)
                   | (go_at_call 34; (with_reducible refine (HIy.out _).mono ?_); rintro e w7 ⟨A2, N2, C2, rfl, hn2', hc2, hr2, hb7⟩; replace hr1 := Lib.hid ((hr1.out.below hb7).more hb7.size); have hS1 := At.below ‹_› hb7; clear hb7)
                   | (go_at_call 32; (with_reducible refine (begins_any _ _ ([] ++ encU (zig (wrap64 (x : Int)))) ([] ++ encU (zig (wrap64 (y : Int)))) _ _ _ _ _ _ _ hr1.out hr2.out hn1'.out hn2'.out hc1).mono ?_); rintro e w8 ⟨he8, hb8⟩; rw [HBI.out, HD.out] at he8; subst he8; have hS1 := At.below ‹_› hb8; clear hb8))
          go_wp2
          go_roundw
          case rel => exact ⟨k + 1, hlt, by go_num, hS1.tl⟩
          case measure => simp [intOf]; omega
      · have hL := hl.below hA.1.1
        have hlw := hl.lt
        go_wp2_with fail
        refine (key_any g _ hA.2 hL (by omega)).mono ?_
        rintro e w4 ⟨k1, hk1, rfl, hst⟩
        have hA4 := hA.tl.step hst hg1 (fun _ h => by cases h)
        clear hst hA hL
        go_wp2_with fail
        obtain ⟨sa, hsa⟩ : ∃ sa : ByteArray, sa = s ++ (⟨#[97]⟩ : ByteArray) := ⟨_, rfl⟩
        have hsz : sa.size ≤ 5001 := by rw [hsa, ByteArray.size_append]; show s.size + 1 ≤ 5001; omega
        rw [← hsa]
        clear hsa
        replace hA4 := hA4.add 9 #[.string k1, .string s, .string sa, .string ⟨#[]⟩]
        generalize w4.heap.size = E at hA4 ⊢
        go_loopw [75] (fun i wr => ∃ k : Nat, k ≤ 4 ∧ i = .int .i64 k ∧ At w [(E, 9, #[.string k1, .string s, .string sa, .string ⟨#[]⟩])] g wr) (fun i _ => 4 - (intOf i).toNat)
        case atStart => exact ⟨0, by omega, rfl, hA4⟩
        case round =>
          clear hA4
          obtain ⟨k, hk, rfl, hA⟩ := hrel
          by_cases hlt2 : k < 4
          · obtain ⟨x, hx, c0⟩ : ∃ x : ByteArray, x.size ≤ 100000 ∧ (#[.string k1, .string s, .string sa, .string ⟨#[]⟩] : Array Value)[k]? = some (.string x) := by
              match k, hlt2 with
              | 0, _ => exact ⟨k1, by omega, rfl⟩
              | 1, _ => exact ⟨s, by omega, rfl⟩
              | 2, _ => exact ⟨sa, by omega, rfl⟩
              | 3, _ => exact ⟨⟨#[]⟩, by decide, rfl⟩
            replace c0 := (hA.1.hd.1 k).trans c0
            simp only at c0
            have hb := bg_S (x := s) (y := x) (by omega) (by omega)
            have HB := Lib.hid hb
            clear hb
            go_wp2_with fail
            refine (sN s (by omega) _).mono ?_
            rintro e w6 ⟨A1, N1, C1, rfl, hn1', hc1, hr1, hb6⟩
            go_wp2_with fail
            refine (sN x hx _).mono ?_
            rintro e w7 ⟨A2, N2, C2, rfl, hn2', hc2, hr2, hb7⟩
            go_wp2_with fail
            refine (begins_any _ _ ([] ++ encS s.data.toList) ([] ++ encS x.data.toList) _ _ _ _ _ _ _ (hr1.out.below hb7) hr2.out hn1'.out hn2'.out hc1).mono ?_
            rintro e w8 ⟨he8, hb8⟩
            rw [HB.out] at he8
            subst he8
            replace hA := ((hA.below hb6).below hb7).below hb8
            clear hb6 hb7 hb8 hr1 hr2 c0
            go_wp2_with fail
            go_roundw
            case rel => exact ⟨k + 1, hlt2, by go_num, hA⟩
            case measure => simp [intOf]; omega
          · go_wp2_with fail
            refine (sane_any _).mono ?_
            rintro e w9 ⟨rfl, hb9⟩
            go_wp2_with fail
            go_ret
            exact ⟨rfl, (hA.below hb9).1.1⟩
end Go.Proofs.YtfencagmkhoibaaDoor
