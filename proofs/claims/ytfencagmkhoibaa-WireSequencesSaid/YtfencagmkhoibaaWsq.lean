/-
  The walk of WireSequences: from whatever arguments it answers true and only makes memory. Condition: the first argument reads as a slice of ints.
-/
import Derived.Test.YtfencagmkhoibaaKbS
import Derived.Test.YtfencagmkhoibaaKbE
namespace Go.Proofs.Ytfencagmkhoibaa
open Go.RowKit

/-- What the law appends. -/
def encs (s : List UInt8) : List Nat → List UInt8
  | [] => []
  | n :: ns => encU n ++ (encU (zig (wrap64 (n : Int))) ++ (encS s ++ encs s ns))
theorem encs_append (s : List UInt8) (n : Nat) : ∀ ns, encs s (ns ++ [n]) = encs s ns ++ encU n ++ encU (zig (wrap64 (n : Int))) ++ encS s
  | [] => by simp [encs]
  | m :: ns => by
    show encU m ++ (encU (zig (wrap64 (m : Int))) ++ (encS s ++ encs s (ns ++ [n]))) = _
    rw [encs_append s n ns]
    simp [encs]
theorem wrap_bd (n : Int) : -9223372036854775808 ≤ wrap64 n ∧ wrap64 n ≤ 9223372036854775807 := by unfold wrap64; omega
theorem encs_len (s : List UInt8) (hs : s.length ≤ 5000) : ∀ ns : List Nat, (∀ n ∈ ns, n < 18446744073709551616) → (encs s ns).length ≤ ns.length * 5030
  | [], _ => by simp [encs]
  | m :: ns, h => by
    have h1 := enc_len10 (h m (.head _))
    have hb := wrap_bd (m : Int)
    have h2 := enc_len10 (zig_lt hb.1 hb.2)
    have h3 := enc_len10 (m := s.length) (by omega)
    have h4 := encs_len s hs ns (fun n hn => h n (.tail _ hn))
    simp only [encs, encS, List.length_append, List.length_cons]
    omega

/-- Unsigned numbers as cells. -/
def uv (l : List Nat) : List Value := l.map fun n : Nat => Value.int .u64 (n : Int)
theorem uv_len (l : List Nat) : (uv l).length = l.length := by simp [uv]
theorem uv_ones (l : List Nat) : ∀ u ∈ uv l, u.oneCell' = true := by
  intro u hu
  simp only [uv, List.mem_map] at hu
  obtain ⟨b, _, rfl⟩ := hu
  rfl
theorem infoU64 : (Try.prog.info? 24).map (fun i => (i.zero, i.size, i.bytes)) = some (some (.int .u64 0), 1, 8) := by kernel_rfl
def OwnU (w : World) (base : Nat) (v : Value) (l : List Nat) : Prop := w.ownsRow base 24 1 v l.length (uv l)
section
variable {w w' : World} {base g : Nat} {v : Value} {l : List Nat} {m : List UInt8}
theorem OwnU.below (h : OwnU w base v l) (k : Below w.heap.size w w') : OwnU w' base v l := by
  obtain ⟨h1, h2 | ⟨g, cap, cur, h3, h4, h5, h6⟩⟩ := h
  · exact ⟨h1, .inl h2⟩
  · exact ⟨h1, .inr ⟨g, cap, cur, h3, h4, (k.block g (Has.lt h5)).trans h5, h6⟩⟩
theorem OwnU.step (h : OwnU w (g + 1) v l) (k : TStep w g w') : OwnU w' (g + 1) v l := by
  obtain ⟨h1, h2 | ⟨G, cap, cur, h3, h4, h5, h6⟩⟩ := h
  · exact ⟨h1, .inl h2⟩
  · exact ⟨h1, .inr ⟨G, cap, cur, h3, h4, (k.2.block G (Has.lt h5) (fun e => by have := Option.some.inj e; omega)).trans h5, h6⟩⟩
theorem OwnB.step (h : OwnB w (g + 1) v m) (k : TStep w g w') : OwnB w' (g + 1) v m := by
  obtain ⟨h1, h2 | ⟨G, cap, cur, h3, h4, h5, h6⟩⟩ := h
  · exact ⟨h1, .inl h2⟩
  · exact ⟨h1, .inr ⟨G, cap, cur, h3, h4, (k.2.block G (Has.lt h5) (fun e => by have := Option.some.inj e; omega)).trans h5, h6⟩⟩
theorem OwnU.base_le (h : OwnU w base v l) {i : Nat} (hi : v.ownBlock = some i) : base ≤ i ∧ i < w.heap.size := by
  obtain ⟨_, ⟨rfl, _⟩ | ⟨g', cap', cur, rfl, h4, h5, _⟩⟩ := h
  · cases hi
  · cases hi; exact ⟨h4, Has.lt h5⟩
/-- An append to the numbers leaves the bytes, the tape and what was there. -/
theorem OwnU.bytes {v7 : Value} {b : Nat} (h : OwnU w base v l) (k : OwnB w b v7 m) (hg : ∀ i, i < w.heap.size → some i ≠ v.ownBlock → w'.heap[i]? = w.heap[i]?) : OwnB w' b v7 m := by
  obtain ⟨h1, h2 | ⟨G, cap, cur, h3, h4, h5, h6⟩⟩ := k
  · exact ⟨h1, .inl h2⟩
  · refine ⟨h1, .inr ⟨G, cap, cur, h3, h4, (hg G (Has.lt h5) (fun e => ?_)).trans h5, h6⟩⟩
    obtain ⟨_, ⟨rfl, _⟩ | ⟨g', cap', cur', rfl, _, k5, _⟩⟩ := h
    · cases e
    · cases e
      rw [h5] at k5
      injection k5 with k5
      injection k5 with _ k5
      exact absurd k5 (by decide)
theorem OwnU.tape {u : World} (h : OwnU w (g + 1) v l) (hA : At u [] g w) (hu : u.heap.size ≤ g) (hg : w.grownBy w' v.ownBlock) : At u [] g w' := by
  have hk : ∀ i, i ≤ g → i < w.heap.size → w'.heap[i]? = w.heap[i]? := fun i hi hlt => hg.block i hlt (fun e => by
    have := (h.base_le e.symm).1
    omega)
  have hgl := hA.2.lt
  obtain ⟨A, n, c, q, k1, k2, hn, hb⟩ := hA.2
  exact ⟨⟨hA.1.1.grown hg hA.1.1.size (fun i e => by have := (h.base_le e).1; omega), fun q hq => by cases hq⟩, A, n, c, q, k1, k2, hn.keep (fun i hi => hk i (by omega) (by omega)), (hk g (Nat.le_refl _) hgl).trans hb⟩
theorem grownBy_pre {a b c : World} {row : Option Nat} (k : Below a.heap.size a b) (h : b.grownBy c row) : a.grownBy c row :=
  ⟨h.os.trans k.os, h.tape.trans k.tape, h.output.trans k.output, Nat.le_trans k.size h.size, fun i hi hne => (h.block i (Nat.lt_of_lt_of_le hi k.size) hne).trans (k.block i hi)⟩
/-- It is read. -/
theorem OwnU.read (h : OwnU w base v l) : ∃ A c, v = .slice A l.length c ∧ l.length ≤ c ∧ c ≤ maxLen ∧ (l ≠ [] → ∃ G, A = some ⟨G, 0, none⟩ ∧ ∀ i (h : i < l.length), w.cell? ⟨G, 0 + i, none⟩ = some (.int .u64 (l[i] : Int))) := by
  obtain ⟨h1, ⟨rfl, h2⟩ | ⟨g, cap, cur, rfl, h4, h5, h6, h7, h8, h9⟩⟩ := h
  · have hl : l = [] := List.eq_nil_of_length_eq_zero h2
    subst hl
    exact ⟨none, 0, rfl, Nat.le_refl _, by unfold maxLen; omega, fun h => absurd rfl h⟩
  · refine ⟨_, cap, rfl, h6, h7, fun _ => ⟨g, rfl, fun i hi => ?_⟩⟩
    rw [Nat.zero_add, Has.cell h5, ← Array.getElem?_toList]
    have h10 : (cur.toList.take (l.length * 1))[i]? = some (.int .u64 (l[i] : Int)) := by rw [h9]; simp [uv, List.getElem?_eq_getElem hi]
    rw [List.getElem?_take_of_lt (by omega)] at h10
    exact h10
end

theorem str_back (s : ByteArray) : (⟨s.data.toList.toArray⟩ : ByteArray) = s := by
  obtain ⟨⟨l⟩⟩ := s
  rfl
/-- What the three readers answer at the head of what was appended. -/
theorem seq_reads (w : World) (B : Nat) (A : Option Addr) (l : List UInt8) (c n : Nat) (s : ByteArray) (R : List UInt8) (hl : l = encU n ++ (encU (zig (wrap64 (n : Int))) ++ (encS s.data.toList ++ R))) (hn : n < 18446744073709551616) (hs : s.size ≤ 5000) (hb : Bys w B A l) (h5 : l.length ≤ 100000) (hc : l.length ≤ c) (hm : c ≤ maxLen) :
    ∃ p q r : Nat, 1 ≤ p ∧ 1 ≤ q ∧ 1 ≤ r ∧ p + q + r ≤ l.length ∧ l.drop (p + q + r) = R ∧
      Calls Try.prog 17 #[.slice A l.length c] w (fun e w' => e = .returned (.tuple #[.int .u64 (n : Int), .int .i64 (p : Int), .int .i64 0]) ∧ w = w') ∧
      Calls Try.prog 18 #[.slice (A.map (·.add p)) (l.length - p) (c - p)] w (fun e w' => e = .returned (.tuple #[.int .i64 (wrap64 (n : Int)), .int .i64 (q : Int), .int .i64 0]) ∧ w = w') ∧
      Calls Try.prog 19 #[.slice (A.map (·.add (p + q))) (l.length - (p + q)) (c - (p + q)), .int .i64 (s.size : Int)] w (fun e w' => e = .returned (.tuple #[.string s, .int .i64 (r : Int), .int .i64 0]) ∧ w = w') := by
  have hzb := wrap_bd (n : Int)
  have hz := zig_lt hzb.1 hzb.2
  have hsl : s.data.toList.length < 18446744073709551616 := by show s.size < _; omega
  have e1 : l.drop (encU n).length = encU (zig (wrap64 (n : Int))) ++ (encS s.data.toList ++ R) := by rw [hl, List.drop_left]
  have e2 : l.drop ((encU n).length + (encU (zig (wrap64 (n : Int)))).length) = encS s.data.toList ++ R := by rw [← List.drop_drop, e1, List.drop_left]
  have e3 : l.drop ((encU n).length + (encU (zig (wrap64 (n : Int)))).length + (encS s.data.toList).length) = R := by rw [← List.drop_drop, e2, List.drop_left]
  have p1 := enc_len_pos n
  have p2 := enc_len_pos (zig (wrap64 (n : Int)))
  have p3 : 1 ≤ (encS s.data.toList).length := by unfold encS; rw [List.length_append]; have := enc_len_pos s.data.toList.length; omega
  have htot : (encU n).length + ((encU (zig (wrap64 (n : Int)))).length + ((encS s.data.toList).length + R.length)) = l.length := by rw [hl]; simp only [List.length_append]
  have d1 : decU l = some (n, (encU n).length) := by rw [hl]; exact decU_enc hn _
  have d2 : decU (l.drop (encU n).length) = some (zig (wrap64 (n : Int)), (encU (zig (wrap64 (n : Int)))).length) := by rw [e1]; exact decU_enc hz _
  have d3 : decS (l.drop ((encU n).length + (encU (zig (wrap64 (n : Int)))).length)) (s.size : Int) = .got s.data.toList (encS s.data.toList).length := by rw [e2]; exact decS_enc hsl _ (Int.le_refl _) _
  have c2 := int_any (A.map (·.add (encU n).length)) (l.drop (encU n).length) (c - (encU n).length) B w (by have h := hb.cut (k := (encU n).length) hc; rw [if_neg (by omega)] at h; exact h) (by rw [List.length_drop]; omega)
  have c3 := string_any (A.map (·.add ((encU n).length + (encU (zig (wrap64 (n : Int)))).length))) (l.drop ((encU n).length + (encU (zig (wrap64 (n : Int)))).length)) (c - ((encU n).length + (encU (zig (wrap64 (n : Int)))).length)) B w (s.size : Int) (by have h := hb.cut (k := (encU n).length + (encU (zig (wrap64 (n : Int)))).length) hc; rw [if_neg (by omega)] at h; exact h) (by rw [List.length_drop]; omega) (by rw [List.length_drop]; omega) (by unfold maxLen at hm ⊢; omega) (by omega) (by omega)
  rw [List.length_drop] at c2 c3
  refine ⟨_, _, _, p1, p2, p3, by omega, e3, (uint_any A l c B w hb (by omega)).mono ?_, c2.mono ?_, c3.mono ?_⟩
  · rintro e w' ⟨he, hw⟩
    rw [d1] at he
    exact ⟨he, hw⟩
  · rintro e w' ⟨he, hw⟩
    rw [d2] at he
    refine ⟨he.trans ?_, hw⟩
    unfold intV
    simp only [zag_zig]
  · rintro e w' ⟨he, hw⟩
    rw [d3] at he
    refine ⟨he.trans ?_, hw⟩
    unfold strV
    simp only [str_back]

set_option maxRecDepth 100000 in
set_option maxHeartbeats 6400000 in
theorem sequences_walk (A : Option Addr) (n0 cp : Nat) (s : ByteArray) (w : World) (hnc : n0 ≤ cp) (hc : cp ≤ maxLen) (hN : Nums w w.heap.size A n0) (hs : s.size ≤ maxLen) :
    Calls Try.prog 4 #[.slice A n0 cp, .string s] w (LawP w) := by
  obtain ⟨i0, hi0, hz0, hz1, hz2⟩ := info_parts infoU64
  unfold maxLen at hs
  by_cases hbig : 5000 < s.size
  · go_enter Try.func4, Try.ntmps4
    go_wp2_with fail
    refine (new_any A n0 cp _ hnc hc hN).mono ?_
    rintro e w1 ⟨g, hg1, rfl, hT, hb⟩
    go_wp2_with fail
    refine (sane_any _).mono ?_
    rintro e w2 ⟨rfl, hb2⟩
    go_wp2_with fail
    go_ret
    exact ⟨rfl, hb.trans (hb2.mono hb.size)⟩
  · go_enter Try.func4, Try.ntmps4
    go_wp2_with fail
    refine (new_any A n0 cp _ hnc hc hN).mono ?_
    rintro e w1 ⟨g, hg1, rfl, hT, hb⟩
    have hA : At w [] g w1 := ⟨(Inv.nil w).below hb, hT⟩
    clear hb hT hN hnc hc
    go_wp2_with fail
    refine (next_any g 8 _ hA.2 (by omega)).mono ?_
    rintro e w2 ⟨r, r0, r1, rfl, hst⟩
    replace hA := hA.step hst hg1 (fun _ h => by cases h)
    clear hst
    have r2 : r < 8 := by omega
    clear r1
    go_wp2_with fail
    go_loopw [6, 7, 8] (fun a6 a7 i wr => ∃ (v6 v7 : Value) (k : Nat) (ns : List Nat), v6 = a6 ∧ v7 = a7 ∧ i = .int .i64 (k : Int) ∧ ns.length + k ≤ 7 ∧ Hid (∀ n ∈ ns, n < 18446744073709551616) ∧ OwnU wr (g + 1) v6 ns ∧ OwnB wr (g + 1) v7 (encs s.data.toList ns) ∧ At w [] g wr) (fun _ _ i _ => (intOf i).toNat)
    case atStart => exact ⟨_, _, r.toNat, [], rfl, rfl, by rw [Int.toNat_of_nonneg r0], by simp; omega, Lib.hid (by simp), World.ownsRow_nil _ _ _ _, OwnB.nil _ _, hA⟩
    case round =>
      clear hA
      obtain ⟨v6, v7, k, ns, rfl, rfl, rfl, hk, HN, hU, hB, hA⟩ := hrel
      have hs5 : s.data.toList.length ≤ 5000 := by show s.size ≤ 5000; omega
      have HL := Lib.hid (encs_len s.data.toList hs5 ns HN.out)
      have hz := hA.2.lt
      by_cases hlt : 0 < k
      · go_wp2_with fail
        refine (edges_any g _ hA.2).mono ?_
        rintro e w3 ⟨n, hn, rfl, hst⟩
        replace hA := hA.step hst hg1 (fun _ h => by cases h)
        replace hU := hU.step hst
        replace hB := hB.step hst
        have hz3 := hst.2.size
        clear hst
        go_wp2_with (at_builtin; refine wpList_append_own_at _ rfl _ _ 35 rfl (g + 1) 24 i0 (.int .u64 0) 1 8 Try.underlying35 hi0 hz0 hz1 hz2 rfl (by decide) v6 ns.length (uv ns) rfl (hU.below ((Below.refl _ _).alloc (Nat.le_refl _) _)) ⟨w3.heap.size, 0, none⟩ 1 1 [.int .u64 (n : Int)] rfl rfl (cell_one_new _ _ _) (by simp [Value.oneCell']) (by unfold maxLen; omega) (by omega) (by simp; omega) ?_; intro v8 w4 hU4 hg4 _ hat4)
        replace hg4 := grownBy_pre ((Below.refl _ _).alloc (Nat.le_refl _) (.cells #[.int .u64 (n : Int)] 24)) hg4
        have hz4 := hg4.size
        replace hA := hU.tape hA hg1 hg4
        replace hB := hU.bytes hB hg4.block
        replace hU4 : OwnU w4 (g + 1) v8 (ns ++ [n]) := by
          unfold OwnU
          rw [show uv (ns ++ [n]) = uv ns ++ [.int .u64 (n : Int)] by simp [uv], List.length_append]
          exact hU4
        clear hU hg4 hat4
        obtain ⟨A7, c7, rfl, hc1, hc2, hb7⟩ := hB.read
        go_wp2_with fail
        refine (appendUint_any A7 _ c7 n _ hb7 (by have := HL.out; omega) hc1 hc2 hn).mono ?_
        rintro e w5 ⟨v5, rfl, ho5, hb5⟩
        have hle5 : (encs s.data.toList ns ++ encU n).length ≤ 100000 := by
          have := HL.out
          have := enc_len10 hn
          rw [List.length_append]
          omega
        generalize he5 : encs s.data.toList ns ++ encU n = l5 at ho5 hle5
        have HE5 := Lib.hid he5
        clear he5
        obtain ⟨A5, c5, rfl, hc3, hc4, hr5⟩ := ho5.read
        go_wp2_with fail
        refine (appendInt_any A5 _ c5 _ _ hr5 (by omega) hc3 hc4 (wrap_bd _).1 (wrap_bd _).2).mono ?_
        rintro e w6 ⟨v6, rfl, ho6, hb6⟩
        have hle6 : (l5 ++ encU (zig (wrap64 (n : Int)))).length ≤ 200000 := by
          have := enc_len10 (zig_lt (wrap_bd (n : Int)).1 (wrap_bd (n : Int)).2)
          rw [List.length_append]
          omega
        generalize he6 : l5 ++ encU (zig (wrap64 (n : Int))) = l6 at ho6 hle6
        have HE6 := Lib.hid he6
        clear he6
        obtain ⟨A6, c6, rfl, hc5, hc6, hr6⟩ := ho6.read
        go_wp2_with fail
        refine (appendString_any A6 _ c6 s _ hr6 (by omega) hc5 hc6 (by omega)).mono ?_
        rintro e w7 ⟨v7, rfl, ho7, hb7⟩
        go_wp2_with fail
        have hAll := hb5.trans ((hb6.trans (hb7.mono hb6.size)).mono hb5.size)
        have hs6 := hb6.size
        have hs5 := hb5.size
        refine ⟨⟨v8, v7, k - 1, ns ++ [n], rfl, rfl, by congr 1; omega, by simp; omega, Lib.hid ?_, hU4.below hAll, ?_, hA.below hAll⟩, by simp [intOf]; omega⟩
        · intro x hx
          rcases List.mem_append.1 hx with hx | hx
          · exact HN.out x hx
          · rw [List.mem_singleton.1 hx]; exact hn
        · rw [encs_append, HE5.out, HE6.out]
          exact ho7.less (by omega)
      · obtain ⟨A6, c6, rfl, hc61, hc62, hr6⟩ := hU.read
        obtain ⟨A7, c7, rfl, hc71, hc72, hr7⟩ := hB.read
        have HB := Lib.hid hA.1.1
        clear hU hB hA HL
        go_wp2_with fail
        go_loop [7, 10] (fun b i => ∃ (j : Nat) (A : Option Addr) (L c : Nat) (l : List UInt8), i = .int .i64 (j : Int) ∧ j ≤ ns.length ∧ b = .slice A L c ∧ L ≤ c ∧ c ≤ maxLen ∧ L ≤ 100000 ∧ Hid (Bys wr wr.heap.size A l) ∧ Hid (l.length = L) ∧ Hid (l = encs s.data.toList (ns.drop j))) (fun _ i => ns.length - (intOf i).toNat)
        case atStart => exact ⟨0, A7, _, c7, _, rfl, Nat.zero_le _, rfl, hc71, hc72, by have := encs_len s.data.toList hs5 ns HN.out; omega, hr7, rfl, rfl⟩
        case round =>
          obtain ⟨j, A, L, c, l, rfl, hj, rfl, hLc, hcm, hL5, HR, HL, HE⟩ := hrel
          by_cases hjl : j < ns.length
          · obtain ⟨G, rfl, hcell⟩ := hr6 (by intro e; rw [e] at hjl; simp at hjl)
            have hc := hcell j hjl
            rw [Nat.zero_add] at hc
            have hn := HN.out _ (List.getElem_mem hjl)
            have he := HE.out
            rw [List.drop_eq_getElem_cons hjl] at he
            generalize ns[j] = n at hc hn he
            obtain ⟨p, q, r, h1, h2, h3, htot, hd, k1, k2, k3⟩ := seq_reads wr wr.heap.size A l c n s _ he hn (by omega) HR.out (by have := HL.out; omega) (by have := HL.out; omega) hcm
            rw [HL.out] at k1 k2 k3 htot
            have HD := Lib.hid hd
            have K1 := Lib.hid k1
            have K2 := Lib.hid k2
            have K3 := Lib.hid k3
            unfold maxLen at hcm
            have nc1 : ¬ c = p := by omega
            have nc2 : ¬ c = p + q := by omega
            clear hcell he hd k1 k2 k3
            go_wp2_with fail
            refine (K1.out).mono ?_
            rintro e w' ⟨rfl, rfl⟩
            go_wp2_with fail
            refine (K2.out).mono ?_
            rintro e w' ⟨rfl, rfl⟩
            go_wp2_with fail
            refine (K3.out).mono ?_
            rintro e w' ⟨rfl, rfl⟩
            go_wp2_with fail
            have hcut := HR.out.cut (k := p + q + r) (cap := c) (by have := HL.out; omega)
            refine ⟨⟨j + 1, _, _, _, l.drop (p + q + r), by go_num, by omega, rfl, by omega, by unfold maxLen; omega, by omega, Lib.hid hcut, Lib.hid (by rw [List.length_drop, HL.out]), Lib.hid HD.out⟩, by simp [intOf]; omega⟩
          · have he := HE.out
            rw [List.drop_eq_nil_of_le (by omega)] at he
            have h0 : L = 0 := by rw [← HL.out, he]; rfl
            subst h0
            clear he
            go_wp2_with fail
            refine (sane_any _).mono ?_
            rintro e w3 ⟨rfl, hb3⟩
            go_wp2_with fail
            go_ret
            exact ⟨rfl, HB.out.trans (hb3.mono HB.out.size)⟩
end Go.Proofs.Ytfencagmkhoibaa
