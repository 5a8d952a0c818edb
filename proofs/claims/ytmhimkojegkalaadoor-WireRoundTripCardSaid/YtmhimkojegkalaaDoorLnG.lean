/-
  DecodeLinks of the reference. Condition: the bytes can be read.
  What layer 3 does to an encoding: damage; bytes of the call's own. Conditions: the bytes can be read, the tape.
  decodes of layer 3: it answers true. Condition: the bytes can be read.
  What the walks of WireNodes and WireRoundTrip know between their steps. Conditions: what is read can be read.
  What WireRoundTrip decodes and encodes: each the other's way back. Conditions: what is read can be read.
-/
import Derived.Test.YtmhimkojegkalaaDoorLjD
import Derived.Test.YtmhimkojegkalaaDoorLjI
import Derived.Test.YtmhimkojegkalaaDoorKmL
import Derived.Test.YtmhimkojegkalaaDoorLbU
import Derived.Test.YtmhimkojegkalaaDoorKdR
import Derived.Test.YtmhimkojegkalaaDoorLmG
import Derived.Test.YtmhimkojegkalaaDoorLdG
import Derived.Test.YtmhimkojegkalaaDoorLnC
import Derived.Test.YtmhimkojegkalaaDoorLjB
import Derived.Test.YtmhimkojegkalaaDoorLjH
namespace Go.Proofs.YtmhimkojegkalaaDoor
section
open Go.RowKit

/-- append of a node's links: the list's blocks are as they were, the links' row is newer. -/
theorem wpList_pushD2 {P : Program} {ops : Array Oper} {rest : List Oper} {o : Oper} {a : Act} {Q : Exit → Act → World → Prop} (hgd : o.guard = none) (s x : Operand) (t : TypeId)
    (ho : o.op = .call { callee := .builtin .append, args := #[s, x], argTypes := #[t, t] })
    (base : Nat) (i : TypeInfo) (ht : P.underlying t = some (.slice 64)) (hi : P.info? 64 = some i) (hz : i.zero = some (.agg #[.int .i64 0, .slice none 0 0])) (hsize : i.size = 2) (hby : i.bytes = 32)
    (v : Value) (ls : List Ld) (w1 w0 : World) (id : Int) (u : Value) (lv : List Lk) (hown : OwnD w1 base v ls) (hk : ∀ j, base ≤ j → j < w1.heap.size → w0.heap[j]? = w1.heap[j]?) (hsz : w1.heap.size ≤ w0.heap.size) (hu : OwnK w0 w1.heap.size u lv) (hb1 : base ≤ w1.heap.size) (hs : a.eval s = v) (hx : a.eval x = .slice (some ⟨w0.heap.size, 0, none⟩) 1 1) (hlen : ls.length < 1000000)
    (h : ∀ v' w', OwnD w' base v' (ls ++ [⟨id, lv⟩]) → Below base w0 w' → wpList P ops Q rest (a.put o.dst v') w') : wpList P ops Q (o :: rest) a (w0.alloc (.cells #[.int .i64 id, u] 64)) := by
  have hba := (Below.refl w0.heap.size w0).alloc (Nat.le_refl _) (.cells #[.int .i64 id, u] 64)
  have hownA := (hown.keep hk).below hba
  have hbase : base ≤ w0.heap.size := Nat.le_trans hb1 hsz
  have hone : u.oneCell' = true := by
    obtain ⟨A, c, rfl⟩ := OwnK.shape hu
    rfl
  have hob := hown.lt
  obtain ⟨q, h1, h2, h3, h4⟩ := hown
  have hq : ∀ (i : Nat) (hi : i < q.length) k, q[i].2.ownBlock = some k → k < w1.heap.size := fun i hi k e => ((h3 i hi (by omega)).2.1.lt k e).2
  have h1A : (w0.alloc (.cells #[.int .i64 id, u] 64)).ownsRow base 64 2 v ls.length (flatP q) := by
    obtain ⟨k1, k2 | ⟨g, cap, cur, k3, k4, k5, k6⟩⟩ := h1
    · exact ⟨k1, .inl k2⟩
    · exact ⟨k1, .inr ⟨g, cap, cur, k3, k4, (Has.below ((hk g k4 (Has.lt k5)).trans k5) hba), k6⟩⟩
  have huA : OwnK (w0.alloc (.cells #[.int .i64 id, u] 64)) base u lv := own_lessK (hu.below hba) hb1
  refine wpList_append_own_at _ hgd s x t ho base 64 i (.agg #[.int .i64 0, .slice none 0 0]) 2 32 ht hi hz hsize hby rfl (by decide) v ls.length (flatP q) hs h1A ⟨w0.heap.size, 0, none⟩ 1 1 [.int .i64 id, u] hx rfl ?_ ?_ (by unfold maxLen; omega) (by omega) (by simp; omega) ?_
  · intro j z hj
    rw [add_at, Nat.zero_add, (Has.new w0 64 #[.int .i64 id, u]).cell, ← Array.getElem?_toList]
    exact hj
  · intro z hz
    simp at hz
    rcases hz with rfl | rfl
    · rfl
    · exact hone
  · intro v' w' ho' hg _ hat
    refine h v' w' (hownA.add h1A h2 huA (fun k hk2 => ?_) (by rw [flatP_snoc]; exact ho') hg (hat.imp (fun e => e) fun e => ⟨_, Nat.le_refl _, e⟩)) ?_
    · have := (hu.lt k hk2).1
      exact ⟨fun e => by have := (hob k e).2; omega, fun i hi e => by have := hq i hi k e; omega⟩
    · refine ((Below.refl _ _).alloc hbase _).trans (grownBy_below0 hg (by rw [World.size_alloc]; omega) (fun k e => (hob k e).1))
def decPL (p : List Ld × Rdr) : Option (List Ld) := match p with
  | (x, some []) => some x
  | _ => none
theorem decPL_none {p : List Ld × Rdr} (h : p.2 = none) : decPL p = none := by
  obtain ⟨x, r⟩ := p
  cases h
  rfl
theorem cg_row {a b c : World} {g : Nat} {row : Option Nat} (h : a.grownBy b (some g)) (k : b.grownBy c row) (hr : ∀ j, row = some j → a.heap.size ≤ j) : a.grownBy c (some g) :=
  ⟨k.os.trans h.os, k.tape.trans h.tape, k.output.trans h.output, Nat.le_trans h.size k.size, fun i hi hne => (k.block i (Nat.lt_of_lt_of_le hi h.size) (fun e => by have := hr i e.symm; omega)).trans (h.block i hi hne)⟩
theorem own_cgK {a b : World} {g X : Nat} {v : Value} {xs : List Lk} (h : OwnK a X v xs) (hX : g < X) (k : a.grownBy b (some g)) : OwnK b X v xs :=
  h.keep fun i h1 hi => k.block i hi (fun e => by have := Option.some.inj e; omega)
theorem OwnK.blk2 {w w' : World} {base : Nat} {v : Value} {l : List Lk} (h : OwnK w base v l) (k : ∀ i, base ≤ i → i < w.heap.size → v.ownBlock = some i → w'.heap[i]? = w.heap[i]?) : OwnK w' base v l := by
  obtain ⟨h1, h2 | ⟨g, cap, cur, h3, h4, h5, h6⟩⟩ := h
  · exact ⟨h1, .inl h2⟩
  · exact ⟨h1, .inr ⟨g, cap, cur, h3, h4, (k g h4 (Has.lt h5) (by rw [h3]; rfl)).trans h5, h6⟩⟩
theorem rdLd_none : (rdLd none).2 = none := by
  have h : ∀ k, (rdMany rdLk k none).2 = none := fun k => by
    have := rdMany_none (rd := rdLk) rfl none 0 rfl k
    rwa [Nat.zero_add] at this
  exact h _
/-- What is so in the inner loop. -/
structure RdQ (wq wr : World) (g B X : Nat) (Di : Int) (u : Value) (ys : List Lk) (r : Rdr) : Prop where
  row : Has wr X 64 #[.int .i64 Di, u]
  own : OwnK wr (X + 1) u ys
  grown : wq.grownBy wr (some g)
  rdr : RdA wr g B r

set_option maxRecDepth 100000 in
set_option maxHeartbeats 6400000 in
theorem rdecodeLinks_any (A : Option Addr) (l : List UInt8) (c B : Nat) (w : World) (hl : Bys w B A l) (hB : B ≤ w.heap.size) (hn : l.length ≤ 9223372036854775807) (hc : l.length ≤ c) (hm : c ≤ maxLen) :
    Calls Tryd.prog 47 #[.slice A l.length c] w (DecLP l w) := by
  have hb0 := (Below.refl w.heap.size w).alloc (Nat.le_refl _) (.cells #[.slice A l.length c, .bool false] 112)
  have hX := Has.new w 112 #[.slice A l.length c, .bool false]
  have hA0 : RdA (w.alloc (.cells #[.slice A l.length c, .bool false] 112)) w.heap.size B (some l) := ⟨A, l, c, hX, fun t h => by (injection h), hc, hm, hl.below (hb0.mono hB), hn⟩
  have HU := Lib.hid (rUint_any (some l) w.heap.size B 64 _ hA0 hB)
  have HB0 := Lib.hid hb0
  obtain ⟨inf, hif, hif1, hif2, hif3⟩ := infoK_parts
  obtain ⟨inp, hip, hip1, hip2, hip3⟩ := infoP_parts
  have hn0 := rdU_le 64 (some l)
  unfold DecLP
  have hZ0 : decL l = decPL (rdMany rdLd (rdU 64 (some l)).1 (rdU 64 (some l)).2) := by
    unfold decL decAll
    show _ = decPL (rdList 64 rdLd (some l))
    generalize rdList 64 rdLd (some l) = p
    obtain ⟨x, r⟩ := p
    cases r with
    | none => rfl
    | some t => cases t <;> rfl
  have HZ := Lib.hid hZ0
  clear hZ0
  generalize decL l = Z at *
  generalize hE : (if Z.isSome then (0 : Int) else 4) = E
  have HE := Lib.hid hE
  clear hE
  generalize rdU 64 (some l) = P at *
  obtain ⟨n, r1⟩ := P
  simp only [Int.cast_ofNat_Int] at HU hn0 HZ ⊢
  clear hl hn hc hm hX hA0 hb0
  go_enter Tryd.func47, Tryd.ntmps47
  go_wp2_with fail
  refine (HU.out).mono ?_
  rintro e w1 ⟨rfl, hA1, hg1⟩
  have hB1 := HB0.out.grown hg1 HB0.out.size (fun j e => by have := Option.some.inj e; omega)
  clear hg1 HU HB0
  obtain ⟨g, hg⟩ : ∃ g, g = w.heap.size := ⟨_, rfl⟩
  have HG := Lib.hid hg
  rw [← hg] at hA1 ⊢
  have hgB : B ≤ g := by omega
  have hgl : g < w1.heap.size := by
    obtain ⟨_, _, _, h, _⟩ := hA1
    exact h.lt
  clear hg
  go_wp2_with fail
  go_loopw [5, 6] (fun v vi wr => ∃ (v2 : Value) (k j : Nat) (xs : List Ld), v2 = v ∧ vi = .int .u64 (j : Int) ∧ k + j = n ∧ Below w.heap.size w wr ∧ RdA wr g B (rdMany rdLd k r1).2 ∧ OwnD wr (g + 1) v2 xs ∧ xs.length = k ∧ Hid ((rdMany rdLd k r1).2 ≠ none → xs = (rdMany rdLd k r1).1) ∧ g < wr.heap.size) (fun _ vi _ => (intOf vi).toNat)
  case atStart => exact ⟨_, 0, n, [], rfl, rfl, by omega, hB1, hA1, OwnD.nil _ _, rfl, Lib.hid (fun _ => rfl), hgl⟩
  case round =>
    clear hB1 hA1 hgl
    obtain ⟨v2, k, j, xs, rfl, rfl, hkj, hb, hA, ho, hxl, HXS, hgl⟩ := hrel
    have HSN := Lib.hid (rdMany_snoc rdLd k r1)
    have HNB := Lib.hid (fun (h : (rdMany rdLd k r1).2 = none) => by
      have := rdMany_none rdLd_none r1 k h j
      rw [hkj] at this
      exact this)
    have HKN : Hid (j = 0 → rdMany rdLd n r1 = ((rdMany rdLd k r1).1, (rdMany rdLd k r1).2)) := Lib.hid (fun h => by rw [← hkj, h, Nat.add_zero])
    generalize rdMany rdLd k r1 = D at *
    obtain ⟨xs0, rk⟩ := D
    simp only at hA HSN HNB HKN HXS
    cases rk with
    | none =>
      have HD : Hid (Z = none) := Lib.hid (by rw [HZ.out]; exact decPL_none (HNB.out rfl))
      obtain ⟨A2, l2, c2, hX2, _, hc2, hm2, hR2, hn2⟩ := hA
      have x0 := hX2.cell 0
      have x1 : wr.cell? ⟨g, 1, none⟩ = some (.bool true) := hX2.cell 1
      have HLN : Hid (LdsR wr (.slice none 0 0) []) := Lib.hid ⟨none, 0, rfl, Nat.le_refl _, by unfold maxLen; omega, fun h => absurd rfl h⟩
      clear hX2 HNB HKN HSN ho HXS
      by_cases hj : 0 < j
      · have hjz : (0 : Int) < (j : Int) := by omega
        go_wp2_with fail
        go_ret2
        rw [← HE.out, HD.out]
        exact ⟨_, rfl, HLN.out, hb⟩
      · obtain rfl : j = 0 := by omega
        go_wp2_with fail
        go_ret2
        rw [← HE.out, HD.out]
        exact ⟨_, rfl, HLN.out, hb⟩
    | some t =>
      obtain rfl : xs = xs0 := HXS.out (by simp)
      clear HXS
      by_cases hj : 0 < j
      · obtain ⟨i, rfl⟩ : ∃ i, j = i + 1 := ⟨j - 1, by omega⟩
        have hjz : (0 : Int) < ((i : Int) + 1) := by omega
        have ej : IntKind.u64.wrap ((i : Int) + 1 - 1) = (i : Int) := by rw [Int.add_sub_cancel, IntKind.wrap_u64]; omega
        rw [show ((i + 1 : Nat) : Int) = (i : Int) + 1 from by omega]
        have HI := Lib.hid (rInt_any (some t) g B wr hA hgB)
        have HST : Hid (rdMany rdLd (k + 1) r1 = (xs ++ [(rdLd (some t)).1], (rdLd (some t)).2)) := HSN
        have HRD : Hid (rdLd (some t) = (⟨(rdI (some t)).1, (rdMany rdLk (rdU 17 (rdI (some t)).2).1 (rdU 17 (rdI (some t)).2).2).1⟩, (rdMany rdLk (rdU 17 (rdI (some t)).2).1 (rdU 17 (rdI (some t)).2).2).2)) := Lib.hid rfl
        have HUX := Lib.hid (fun (W : World) (h : RdA W g B (rdI (some t)).2) => rUint_any (rdI (some t)).2 g B 17 W h hgB)
        have HJX := Lib.hid (fun (W : World) (r : Rdr) (h : RdA W g B r) => rInt_any r g B W h hgB)
        obtain ⟨_, _, _, hXr, _, _, _, _, _⟩ := hA
        have x1 : wr.cell? ⟨g, 1, none⟩ = some (.bool false) := hXr.cell 1
        clear hXr
        generalize rdLd (some t) = D at *
        generalize rdI (some t) = P1 at *
        obtain ⟨Di, r2⟩ := P1
        simp only at HRD HI HUX
        have hm0 := rdU_le 17 r2
        generalize rdU 17 r2 = P2 at *
        obtain ⟨m, r3⟩ := P2
        simp only [Int.cast_ofNat_Int] at HRD HUX hm0
        have HO := Lib.hid ho
        have HB := Lib.hid hb
        obtain ⟨A5, c5, hv5⟩ := ho.shape
        subst hv5
        have HXL := Lib.hid hxl
        rw [hxl] at HO ⊢
        obtain ⟨wq, rfl⟩ : ∃ wq, wq = wr := ⟨_, rfl⟩
        clear HNB HKN HSN ho hb hxl
        go_wp2_with fail
        refine (HI.out).mono ?_
        rintro e w2 ⟨rfl, hA2, hg2⟩
        have hA3 := hA2.on (Nat.le_trans hgB (Nat.le_of_lt (Nat.lt_of_lt_of_le hgl hg2.size))) ((Below.refl _ _).alloc (Nat.le_refl _) (.cells #[.int .i64 Di, .slice none 0 0] 64))
        have hg3 := cg_below hg2 ((Below.refl _ _).alloc (Nat.le_refl _) (.cells #[.int .i64 Di, .slice none 0 0] 64))
        have hN3 := Has.new w2 64 #[.int .i64 Di, .slice none 0 0]
        have hXs : wq.heap.size ≤ w2.heap.size := hg2.size
        have HT1 := Lib.hid (HUX.out _ hA3)
        have HG3 := Lib.hid hg3
        have HN3 := Lib.hid hN3
        have hgX : g < w2.heap.size := Nat.lt_of_lt_of_le hgl hXs
        clear hA2 hg2 hA3 hg3 hN3 HI HUX x1
        go_wp2_with fail
        refine (HT1.out).mono ?_
        rintro e w3 ⟨rfl, hA3, hg3⟩
        obtain ⟨X, hX⟩ : ∃ X, X = w2.heap.size := ⟨_, rfl⟩
        rw [← hX] at HN3 hXs hgX ⊢
        have HXE := Lib.hid hX
        have hne : X ≠ g := by omega
        have HK3 : Hid (RdQ wq w3 g B X Di (.slice none 0 0) [] r3) := Lib.hid ⟨has_cg HN3.out hne hg3, OwnK.nil _ _, cg_trans HG3.out hg3, hA3⟩
        clear hA3 hg3 HG3 HN3 HT1 hX HXE
        go_wp2_with fail
        go_loopw [8] (fun vi wr => ∃ (q i' : Nat) (u : Value) (ys : List Lk), vi = .int .u64 (i' : Int) ∧ q + i' = m ∧ RdQ wq wr g B X Di u ys (rdMany rdLk q r3).2 ∧ ys.length = q ∧ Hid ((rdMany rdLk q r3).2 ≠ none → ys = (rdMany rdLk q r3).1)) (fun vi _ => (intOf vi).toNat)
        case atStart => exact ⟨0, m, _, [], rfl, by omega, HK3.out, rfl, Lib.hid (fun _ => rfl)⟩
        case round =>
          clear HK3
          obtain ⟨q, i', u, ys, rfl, hqi, hK, hyl, HYS⟩ := hrel
          have HSN := Lib.hid (rdMany_snoc rdLk q r3)
          have HNB := Lib.hid (fun (h : (rdMany rdLk q r3).2 = none) => by
            have := rdMany_none (rd := rdLk) rfl r3 q h i'
            rw [hqi] at this
            exact this)
          have HKN : Hid (i' = 0 → rdMany rdLk m r3 = ((rdMany rdLk q r3).1, (rdMany rdLk q r3).2)) := Lib.hid (fun h => by rw [← hqi, h, Nat.add_zero])
          generalize rdMany rdLk q r3 = D2 at *
          obtain ⟨ys0, rq⟩ := D2
          simp only at hK HSN HNB HKN HYS
          obtain ⟨A6, c6, hv6⟩ := hK.own.shape
          rw [hyl] at hv6
          subst hv6
          have HYL := Lib.hid hyl
          clear hyl
          cases rq with
          | none =>
            by_cases hi : 0 < i'
            · have hiz : (0 : Int) < (i' : Int) := by omega
              have HEX : Hid ((none : Rdr) = D.2 ∧ (D.2 ≠ none → (⟨Di, ys⟩ : Ld) = D.1)) := Lib.hid (by
                have h9 := HNB.out rfl
                rw [HRD.out]
                exact ⟨h9.symm, fun h => absurd h9 h⟩)
              obtain ⟨hX4, hU4, hG4, hA4⟩ := hK
              have x0 := hX4.cell 0
              have x1 := hX4.cell 1
              have HUQ := Lib.hid (own_lessK hU4 (show wq.heap.size ≤ X + 1 by omega))
              have hkp : ∀ j, g + 1 ≤ j → j < wq.heap.size → wr.heap[j]? = wq.heap[j]? := fun j h1 h2 => hG4.block j h2 (fun e => by have := Option.some.inj e; omega)
              have hsz := hG4.size
              have HKP := Lib.hid hkp
              have hx6 : xs.length < 1000000 := by have := HXL.out; omega
              have hwg : w.heap.size ≤ g + 1 := by have := HG.out; omega
              have HB6 := Lib.hid (HB.out.grown hG4 HB.out.size (fun j e => by have := Option.some.inj e; have := HG.out; omega))
              have HA4 := Lib.hid hA4
              clear hX4 hU4 hG4 hA4 hkp HNB HKN HSN HYS HJX
              have b1 : wr.cell? ⟨g, 1, none⟩ = some (.bool true) := by
                obtain ⟨_, _, _, hXr, _⟩ := HA4.out
                exact hXr.cell 1
              go_wp2_with (at_builtin; refine wpList_pushD2 rfl _ _ 24 rfl (g + 1) inp Tryd.underlying24 hip hip1 hip2 hip3 (.slice A5 k c5) xs wq wr Di (.slice A6 q c6) ys HO.out HKP.out hsz HUQ.out hgl rfl rfl hx6 ?_; intro v9 w9 ho9 hb9)
              have hg9 : g < w9.heap.size := Nat.lt_of_lt_of_le (Nat.lt_of_lt_of_le hgl hsz) hb9.size
              have hA9 := HA4.out.upto hgB hb9
              have HO9 := Lib.hid ho9
              have HB9 := Lib.hid (HB6.out.trans (hb9.mono hwg))
              refine ⟨⟨v9, k + 1, i, xs ++ [⟨Di, ys⟩], rfl, by go_num, by omega, HB9.out, ?_, HO9.out, by rw [List.length_append, HXL.out]; rfl, Lib.hid (fun h => ?_), hg9⟩, by simp [intOf]⟩
              · rw [HST.out]
                show RdA w9 g B D.2
                rw [← HEX.out.1]
                exact hA9
              · rw [HST.out] at h ⊢
                rw [HEX.out.2 h]
            · have hi0 : i' = 0 := by omega
              subst hi0
              have HEX : Hid ((none : Rdr) = D.2 ∧ (D.2 ≠ none → (⟨Di, ys⟩ : Ld) = D.1)) := Lib.hid (by
                have h9 := HNB.out rfl
                rw [HRD.out]
                exact ⟨h9.symm, fun h => absurd h9 h⟩)
              obtain ⟨hX4, hU4, hG4, hA4⟩ := hK
              have x0 := hX4.cell 0
              have x1 := hX4.cell 1
              have HUQ := Lib.hid (own_lessK hU4 (show wq.heap.size ≤ X + 1 by omega))
              have hkp : ∀ j, g + 1 ≤ j → j < wq.heap.size → wr.heap[j]? = wq.heap[j]? := fun j h1 h2 => hG4.block j h2 (fun e => by have := Option.some.inj e; omega)
              have hsz := hG4.size
              have HKP := Lib.hid hkp
              have hx6 : xs.length < 1000000 := by have := HXL.out; omega
              have hwg : w.heap.size ≤ g + 1 := by have := HG.out; omega
              have HB6 := Lib.hid (HB.out.grown hG4 HB.out.size (fun j e => by have := Option.some.inj e; have := HG.out; omega))
              have HA4 := Lib.hid hA4
              clear hX4 hU4 hG4 hA4 hkp HNB HKN HSN HYS HJX
              have b1 : wr.cell? ⟨g, 1, none⟩ = some (.bool true) := by
                obtain ⟨_, _, _, hXr, _⟩ := HA4.out
                exact hXr.cell 1
              go_wp2_with (at_builtin; refine wpList_pushD2 rfl _ _ 24 rfl (g + 1) inp Tryd.underlying24 hip hip1 hip2 hip3 (.slice A5 k c5) xs wq wr Di (.slice A6 q c6) ys HO.out HKP.out hsz HUQ.out hgl rfl rfl hx6 ?_; intro v9 w9 ho9 hb9)
              have hg9 : g < w9.heap.size := Nat.lt_of_lt_of_le (Nat.lt_of_lt_of_le hgl hsz) hb9.size
              have hA9 := HA4.out.upto hgB hb9
              have HO9 := Lib.hid ho9
              have HB9 := Lib.hid (HB6.out.trans (hb9.mono hwg))
              refine ⟨⟨v9, k + 1, i, xs ++ [⟨Di, ys⟩], rfl, by go_num, by omega, HB9.out, ?_, HO9.out, by rw [List.length_append, HXL.out]; rfl, Lib.hid (fun h => ?_), hg9⟩, by simp [intOf]⟩
              · rw [HST.out]
                show RdA w9 g B D.2
                rw [← HEX.out.1]
                exact hA9
              · rw [HST.out] at h ⊢
                rw [HEX.out.2 h]
          | some s =>
            obtain rfl : ys = ys0 := HYS.out (by simp)
            by_cases hi : 0 < i'
            · obtain ⟨p, rfl⟩ : ∃ p, i' = p + 1 := ⟨i' - 1, by omega⟩
              have hiz : (0 : Int) < ((p : Int) + 1) := by omega
              have ep : IntKind.u64.wrap ((p : Int) + 1 - 1) = (p : Int) := by rw [Int.add_sub_cancel, IntKind.wrap_u64]; omega
              rw [show ((p + 1 : Nat) : Int) = (p : Int) + 1 from by omega]
              obtain ⟨hX4, hU4, hG4, hA4⟩ := hK
              have HI1 := Lib.hid (HJX.out wr (some s) hA4)
              have HSTK : Hid (rdMany rdLk (q + 1) r3 = (ys ++ [(rdLk (some s)).1], (rdLk (some s)).2)) := HSN
              have HRK : Hid (rdLk (some s) = (⟨(rdI (some s)).1, (rdI (rdI (some s)).2).1⟩, (rdI (rdI (some s)).2).2)) := Lib.hid rfl
              have b1 : wr.cell? ⟨g, 1, none⟩ = some (.bool false) := by
                obtain ⟨_, _, _, hXr, _⟩ := hA4
                exact hXr.cell 1
              generalize rdLk (some s) = E at *
              generalize rdI (some s) = P3 at *
              obtain ⟨yl, r4⟩ := P3
              simp only at HRK HI1
              have HI2 := Lib.hid (fun (W : World) (h : RdA W g B r4) => HJX.out W r4 h)
              generalize rdI r4 = P4 at *
              obtain ⟨yr, r5⟩ := P4
              simp only at HRK HI2
              have HX4 := Lib.hid hX4
              have HU4 := Lib.hid hU4
              have HG4 := Lib.hid hG4
              clear hX4 hU4 hG4 hA4 HNB HKN HSN HYS
              go_wp2_with fail
              refine (HI1.out).mono ?_
              rintro e w5 ⟨rfl, hA5, hg5⟩
              have hal := (Below.refl _ _).alloc (Nat.le_refl _) (.cells #[.int .i64 yl, .int .i64 0] 61) (a := w5)
              have hG5 := cg_trans HG4.out hg5
              have hY5 : wq.heap.size ≤ w5.heap.size := hG5.size
              have hX5 := has_cg HX4.out hne hg5
              have hXY : X < w5.heap.size := hX5.lt
              have hU5 := own_cgK HU4.out (show g < X + 1 by omega) hg5
              have HUL := Lib.hid hU5.lt
              have HI3 := Lib.hid (HI2.out _ (hA5.on (by omega) hal))
              have HX6 := Lib.hid (hX5.below hal)
              have HU6 := Lib.hid (hU5.below hal)
              have HG6 := Lib.hid (cg_below hG5 hal)
              have HY6 := Lib.hid (Has.new w5 61 #[.int .i64 yl, .int .i64 0])
              clear HI1 HI2 hA5 hg5 hal hG5 hX5 hU5 HX4 HU4 HG4 b1
              go_wp2_with fail
              refine (HI3.out).mono ?_
              rintro e w6 ⟨rfl, hA7, hg7⟩
              have hX7 := has_cg HX6.out hne hg7
              have hY7 := has_cg HY6.out (show w5.heap.size ≠ g by omega) hg7
              have hU7 := own_cgK HU6.out (show g < X + 1 by omega) hg7
              have y1 := hY7.cell 1
              have yz := fun o => hY7.frozen o
              have HX8 := Lib.hid (hX7.far (p := ⟨w5.heap.size, 1, none⟩) (show X ≠ w5.heap.size by omega) (.int .i64 yr))
              have HY8 := Lib.hid (hY7.set_ 1 (.int .i64 yr))
              have HA8 := Lib.hid (hA7.far (X := w5.heap.size) (by omega) (by omega) 1 (.int .i64 yr))
              have HG8 := Lib.hid (cg_new (cg_trans HG6.out hg7) hY5 1 (.int .i64 yr))
              have HU8 := Lib.hid (hU7.blk2 (w' := w6.setCell ⟨w5.heap.size, 1, none⟩ (.int .i64 yr)) (fun i _ _ e => Below.heap_setCell _ ⟨w5.heap.size, 1, none⟩ _ i (by show i ≠ w5.heap.size; have := (HUL.out i e).2; omega)))
              clear hX7 hY7 hU7 hA7 hg7 HX6 HY6 HU6 HG6 HI3
              go_upto_region 12 with fail
              clear y1 yz
              generalize w6.setCell ⟨w5.heap.size, 1, none⟩ (.int .i64 yr) = W8 at *
              have hY8 : Has W8 w5.heap.size 61 #[.int .i64 yl, .int .i64 yr] := HY8.out
              have x1 := HX8.out.cell 1
              have y0 := hY8.cell 0
              have y1 := hY8.cell 1
              have hlv2 : ys.length < 1000000 := by have := HYL.out; omega
              have hXw : X + 1 ≤ W8.heap.size := HX8.out.lt
              clear hY8 HY8
              go_wp2_with (at_builtin; refine wpList_pushK rfl _ _ 62 rfl (X + 1) inf Tryd.underlying62 hif hif1 hif2 hif3 (.slice A6 q c6) ys W8 ⟨yl, yr⟩ rfl HU8.out rfl hlv2 hXw ?_; intro u2 w9 hU9 hg9 hat9; obtain ⟨lw, hlw⟩ : ∃ lw, lw = ys ++ [(⟨yl, yr⟩ : Lk)] := ⟨_, rfl⟩; rw [← hlw] at hU9; have hlwn : lw.length = q + 1 := (by rw [hlw, List.length_append, HYL.out]; rfl); have HLW := Lib.hid hlw; have HLN := Lib.hid hlwn; have hX9 := (hg9.block X HX8.out.lt (fun e => (by have := (HU8.out.lt X e.symm).1; omega))).trans HX8.out; have HX9 := Lib.hid hX9; have x9 := Has.cell (cs := #[.int .i64 Di, .slice A6 q c6]) hX9 1; have z9 := fun o => Has.frozen hX9 o; have HB9 := Lib.hid (grownBy_below0 (base := g + 1) hg9 (by omega) (fun k e => (by have := (HU8.out.lt k e).1; omega))); have HG9 := Lib.hid (cg_row HG8.out hg9 (fun j e => (by have := (HU8.out.lt j e).1; omega))); have HU9 := Lib.hid hU9; obtain ⟨A8, c8, hv8⟩ := hU9.shape; rw [hlwn] at hv8; subst hv8; clear hlw hlwn hX9 hU9 hg9 hat9)
              have HX10 := Lib.hid (Has.set_ HX9.out 1 (.slice A8 (q + 1) c8))
              refine ⟨⟨q + 1, p, _, lw, by go_num, by omega, ⟨HX10.out, ?_, cg_new HG9.out hXs 1 _, ?_⟩, HLN.out, Lib.hid (fun h => ?_)⟩, by simp [intOf]⟩
              · exact HU9.out.keep fun j h1 _ => Below.heap_setCell _ ⟨X, 1, none⟩ _ j (by show j ≠ X; omega)
              · rw [HSTK.out]
                show RdA _ g B E.2
                rw [HRK.out]
                exact (HA8.out.upto hgB HB9.out).far (X := X) (by omega) (by omega) 1 _
              · rw [HSTK.out, HLW.out, HRK.out]
            · have hi0 : i' = 0 := by omega
              subst hi0
              have HEX : Hid ((some s : Rdr) = D.2 ∧ (D.2 ≠ none → (⟨Di, ys⟩ : Ld) = D.1)) := Lib.hid (by
                have h9 := HKN.out rfl
                rw [HRD.out, h9]
                exact ⟨rfl, fun _ => rfl⟩)
              obtain ⟨hX4, hU4, hG4, hA4⟩ := hK
              have x0 := hX4.cell 0
              have x1 := hX4.cell 1
              have HUQ := Lib.hid (own_lessK hU4 (show wq.heap.size ≤ X + 1 by omega))
              have hkp : ∀ j, g + 1 ≤ j → j < wq.heap.size → wr.heap[j]? = wq.heap[j]? := fun j h1 h2 => hG4.block j h2 (fun e => by have := Option.some.inj e; omega)
              have hsz := hG4.size
              have HKP := Lib.hid hkp
              have hx6 : xs.length < 1000000 := by have := HXL.out; omega
              have hwg : w.heap.size ≤ g + 1 := by have := HG.out; omega
              have HB6 := Lib.hid (HB.out.grown hG4 HB.out.size (fun j e => by have := Option.some.inj e; have := HG.out; omega))
              have HA4 := Lib.hid hA4
              clear hX4 hU4 hG4 hA4 hkp HNB HKN HSN HYS HJX
              have b1 : wr.cell? ⟨g, 1, none⟩ = some (.bool false) := by
                obtain ⟨_, _, _, hXr, _⟩ := HA4.out
                exact hXr.cell 1
              go_wp2_with (at_builtin; refine wpList_pushD2 rfl _ _ 24 rfl (g + 1) inp Tryd.underlying24 hip hip1 hip2 hip3 (.slice A5 k c5) xs wq wr Di (.slice A6 q c6) ys HO.out HKP.out hsz HUQ.out hgl rfl rfl hx6 ?_; intro v9 w9 ho9 hb9)
              have hg9 : g < w9.heap.size := Nat.lt_of_lt_of_le (Nat.lt_of_lt_of_le hgl hsz) hb9.size
              have hA9 := HA4.out.upto hgB hb9
              have HO9 := Lib.hid ho9
              have HB9 := Lib.hid (HB6.out.trans (hb9.mono hwg))
              refine ⟨⟨v9, k + 1, i, xs ++ [⟨Di, ys⟩], rfl, by go_num, by omega, HB9.out, ?_, HO9.out, by rw [List.length_append, HXL.out]; rfl, Lib.hid (fun h => ?_), hg9⟩, by simp [intOf]⟩
              · rw [HST.out]
                show RdA w9 g B D.2
                rw [← HEX.out.1]
                exact hA9
              · rw [HST.out] at h ⊢
                rw [HEX.out.2 h]
      · obtain rfl : j = 0 := by omega
        have HD1 := Lib.hid (HKN.out rfl)
        obtain ⟨A2, l2, c2, hX2, he2, hc2, hm2, hR2, hn2⟩ := hA
        obtain rfl := he2 t rfl
        have x0 := hX2.cell 0
        have x1 : wr.cell? ⟨g, 1, none⟩ = some (.bool false) := hX2.cell 1
        have HO : Hid (LdsR wr v2 xs) := Lib.hid ho.read
        have HLN : Hid (LdsR wr (.slice none 0 0) []) := Lib.hid ⟨none, 0, rfl, Nat.le_refl _, by unfold maxLen; omega, fun h => absurd rfl h⟩
        clear hX2 HNB HKN HSN ho he2
        cases l2 with
        | nil =>
          have HD : Hid (Z = some xs) := Lib.hid (by rw [HZ.out, HD1.out]; rfl)
          clear hR2 hn2
          replace x0 : wr.cell? ⟨g, 0, none⟩ = some (.slice A2 0 c2) := x0
          go_wp2_with fail
          go_ret2
          rw [← HE.out, HD.out]
          exact ⟨v2, rfl, HO.out, hb⟩
        | cons a t =>
          have hz : (0 : Int) < ((a :: t).length : Int) := by rw [List.length_cons]; omega
          have HD2 : Hid (Z = none) := Lib.hid (by rw [HZ.out, HD1.out]; rfl)
          clear HD1
          generalize (a :: t).length = m at *
          go_wp2_with fail
          go_ret2
          rw [← HE.out, HD2.out]
          exact ⟨_, rfl, HLN.out, hb⟩
end
section
open Go.RowKit

theorem OwnB.empty (w : World) : OwnB (w.alloc (.cells #[] 5)) w.heap.size (.slice (some ⟨w.heap.size, 0, none⟩) 0 0) [] :=
  ⟨rfl, .inr ⟨w.heap.size, 0, #[], rfl, Nat.le_refl _, Has.new w 5 #[], Nat.le_refl _, by unfold maxLen; omega, rfl, rfl⟩⟩
theorem OwnB.keepB {w w' : World} {base : Nat} {v : Value} {l : List UInt8} (h : OwnB w base v l) (k : ∀ i, base ≤ i → i < w.heap.size → w'.heap[i]? = w.heap[i]?) : OwnB w' base v l := by
  obtain ⟨h1, h2 | ⟨g, cap, cur, h3, h4, h5, h6⟩⟩ := h
  · exact ⟨h1, .inl h2⟩
  · exact ⟨h1, .inr ⟨g, cap, cur, h3, h4, (k g h4 (Has.lt h5)).trans h5, h6⟩⟩
theorem OwnB.step {w w' : World} {base g : Nat} {v : Value} {l : List UInt8} (h : OwnB w base v l) (hg : g < base) (k : TStep w g w') : OwnB w' base v l :=
  h.keepB fun i h1 hi => k.2.block i hi (fun e => by have := Option.some.inj e; omega)
/-- A row of bytes that is not empty: where it lies, its elements, what may be done with it. -/
theorem OwnB.open_ {w : World} {base : Nat} {v : Value} {l : List UInt8} (h : OwnB w base v l) (hne : l ≠ []) : ∃ (G cap : Nat), v = .slice (some ⟨G, 0, none⟩) l.length cap ∧ base ≤ G ∧ G < w.heap.size ∧ l.length ≤ cap ∧ cap ≤ maxLen ∧
    (∀ i (h : i < l.length), w.cell? ⟨G, i, none⟩ = some (.int .u8 (l[i].toNat : Int))) ∧ (∀ o, w.frozen? ⟨G, o, none⟩ = false) ∧
    (∀ w1 : World, w1.heap[G]? = w.heap[G]? → ∀ k (c : UInt8), OwnB (w1.setCell ⟨G, k, none⟩ (.int .u8 (c.toNat : Int))) base v (l.set k c)) ∧
    (∀ k, k ≤ l.length → OwnB w base (.slice (some ⟨G, 0, none⟩) k cap) (l.take k)) := by
  obtain ⟨h1, ⟨rfl, h2⟩ | ⟨g, cap, cur, rfl, h4, h5, h6, h7, h8, h9⟩⟩ := h
  · exact absurd (List.eq_nil_of_length_eq_zero h2) hne
  · refine ⟨g, cap, rfl, h4, Has.lt h5, h6, h7, fun i hi => ?_, fun o => Has.frozen h5 o, fun w1 hw1 k c => ⟨by rw [List.length_set, bv_len, List.length_set]; omega, .inr ⟨g, cap, _, by rw [List.length_set], h4, Has.set_ (t := 5) (hw1.trans h5) k (.int .u8 (c.toNat : Int)), by rw [List.length_set]; exact h6, h7, by simpa using h8, ?_⟩⟩, fun k hk => ⟨by rw [bv_len]; omega, .inr ⟨g, cap, cur, by rw [List.length_take, Nat.min_eq_left hk], h4, h5, ?_, h7, h8, ?_⟩⟩⟩
    · rw [Has.cell h5, ← Array.getElem?_toList]
      have h10 : (cur.toList.take (l.length * 1))[i]? = some (.int .u8 (l[i].toNat : Int)) := by rw [h9]; exact bv_get hi
      rw [List.getElem?_take_of_lt (by omega)] at h10
      exact h10
    · rw [Array.toList_setIfInBounds, List.take_set, List.length_set, h9]
      unfold bv
      rw [List.map_set]
    · rw [List.length_take]; omega
    · rw [List.length_take, Nat.min_eq_left hk]
      have : bv (l.take k) = (bv l).take k := by unfold bv; rw [List.map_take]
      rw [this, ← h9, List.take_take]
      congr 1
      omega
/-- append of a slice that is read, its length a letter. -/
theorem wpList_pushLn {P : Program} {ops : Array Oper} {rest : List Oper} {o : Oper} {a : Act} {Q : Exit → Act → World → Prop} {w : World} (hgd : o.guard = none) (s x : Operand) (t : TypeId)
    (ho : o.op = .call { callee := .builtin .append, args := #[s, x], argTypes := #[t, t] })
    (base : Nat) (i : TypeInfo) (ht : P.underlying t = some (.slice 5)) (hi : P.info? 5 = some i) (hz : i.zero = some (.int .u8 0)) (hsize : i.size = 1) (hby : i.bytes = 1)
    (v : Value) (l : List UInt8) (B : Nat) (A : Option Addr) (m : List UInt8) (n c : Nat) (hn : n = m.length) (hs : a.eval s = v) (hown : OwnB w base v l) (hx : a.eval x = .slice A n c) (hm : Bys w B A m) (hlen : l.length + n ≤ 140737488355328) (hbase : base ≤ w.heap.size)
    (h : ∀ v' w', OwnB w' base v' (l ++ m) → Push w v w' v' → wpList P ops Q rest (a.put o.dst v') w') : wpList P ops Q (o :: rest) a w := by
  subst hn
  exact wpList_pushL hgd s x t ho base i ht hi hz hsize hby v l B A m c hs hown hx hm hlen hbase h
/-- What damage gives: a row of its own, of at most one byte more. -/
def DmgP (n g : Nat) (w : World) (e : Ending) (w' : World) : Prop := ∃ (v : Value) (l' : List UInt8), e = .returned v ∧ OwnB w' w.heap.size v l' ∧ l'.length ≤ n + 1 ∧ TStep w g w'
theorem dmgP_mk {n g : Nat} {w w' : World} {v : Value} {l' : List UInt8} (h1 : OwnB w' w.heap.size v l') (h2 : l'.length ≤ n + 1) (h3 : TStep w g w') : DmgP n g w (.returned v) w' := ⟨v, l', rfl, h1, h2, h3⟩

set_option maxRecDepth 100000 in
set_option maxHeartbeats 3200000 in
theorem damage3_any (A : Option Addr) (l : List UInt8) (c B g : Nat) (w : World) (ht : Tape w g) (hl : Bys w B A l) (hB : B ≤ w.heap.size) (hn : l.length ≤ 1000000) :
    Calls Tryd.prog 17 #[.pointer (some ⟨g, 0, none⟩), .slice A l.length c] w (DmgP l.length g w) := by
  have hg := ht.lt
  have hba := (Below.refl w.heap.size w).alloc (Nat.le_refl _) (.cells #[] 5)
  have s0 := (TStep.refl ht).below hba
  have hE := OwnB.empty w
  have hl0 := hl.below (hba.mono hB)
  have hbs := hba.size
  have HN := Lib.hid (show ([] : List UInt8).length + l.length ≤ 140737488355328 by simp; omega)
  obtain ⟨i0, hi0, hz0, hz1, hz2⟩ := info_parts infoByte
  obtain ⟨n, hln⟩ : ∃ n, n = l.length := ⟨_, rfl⟩
  by_cases h0 : l = []
  · subst h0
    clear hl hba hn
    go_enter Tryd.func17, Tryd.ntmps17
    go_wp2_with (at_builtin; refine wpList_pushL rfl _ _ 25 rfl w.heap.size i0 Tryd.underlying25 hi0 hz0 hz1 hz2 (.slice (some ⟨w.heap.size, 0, none⟩) 0 0) [] B A [] c rfl hE rfl hl0 HN.out hbs ?_; intro v1 w1 ho hp; rw [List.nil_append] at ho; have s1 : TStep w g w1 := s0.below_base hg (hp.below hE hbs); obtain ⟨A1, c1, hv1, _, _, _⟩ := ho.read; replace hv1 : v1 = .slice A1 0 c1 := hv1; have HO := Lib.hid ho; clear ho hp s0 hE hl0; subst hv1)
    go_ret
    exact dmgP_mk HO.out (by simp) s1
  · clear hl hba
    have hp0 : 0 < l.length := List.length_pos_iff.2 h0
    rw [← hln] at hn HN hp0 ⊢
    have HL := Lib.hid hln
    have nz : ((n : Int) == 0) = false := by simp; omega
    clear hln
    go_enter Tryd.func17, Tryd.ntmps17
    go_wp2_with (at_builtin; refine wpList_pushLn rfl _ _ 25 rfl w.heap.size i0 Tryd.underlying25 hi0 hz0 hz1 hz2 (.slice (some ⟨w.heap.size, 0, none⟩) 0 0) [] B A l n c HL.out rfl hE rfl hl0 HN.out hbs ?_; intro v1 w1 ho hp; have s1 : TStep w g w1 := s0.below_base hg (hp.below hE hbs); rw [List.nil_append] at ho; obtain ⟨G, cap, hv1, hG1, hG2, hc1, hc2, hcl, hfz, hset, htk⟩ := ho.open_ h0; rw [← HL.out] at hv1 hc1 htk; have HO := Lib.hid ho; have HCL := Lib.hid hcl; have HFZ := Lib.hid hfz; have HSET := Lib.hid hset; have HTK := Lib.hid htk; clear ho hp hE hl0 HN hbs hcl hfz hset htk s0 h0; subst hv1)
    unfold maxLen at hc2
    have hb1 : w.heap.size ≤ w1.heap.size := s1.2.size
    go_wp2_with fail
    refine (next_any g _ _ s1.1 (by omega)).mono ?_
    rintro e w2 ⟨r, r0, r1, rfl, hst⟩
    have s2 := s1.trans hst
    have hr : r = 0 ∨ r = 1 ∨ (2 ≤ r ∧ r ≤ 3) := by omega
    have HO2 := Lib.hid (HO.out.step hg hst)
    have HST2 := Lib.hid hst
    clear r0 r1 hst HO
    rcases hr with rfl | rfl | ⟨r2, r3⟩
    · go_wp2_with fail
      refine (next_any g _ _ s2.1 (by omega)).mono ?_
      rintro e w3 ⟨q, q0, q1, rfl, hst⟩
      obtain ⟨k, rfl⟩ := Int.eq_ofNat_of_zero_le q0
      have hk : k ≤ n := by omega
      have hk2 : (k : Int) ≤ (cap : Int) := by omega
      have HO3 := Lib.hid (((HTK.out k hk).step hg HST2.out).step hg hst)
      have s3 := s2.trans hst
      clear hst
      go_wp2_with fail
      go_ret
      exact dmgP_mk HO3.out (by rw [List.length_take]; omega) s3
    · go_wp2_with fail
      refine (next_any g _ _ s2.1 (by omega)).mono ?_
      rintro e w3 ⟨q, q0, q1, rfl, hst⟩
      have q2 : q < 256 := by omega
      have ho3 := HO2.out.step hg hst
      have s3 := s2.trans hst
      have hb3 : w.heap.size ≤ w3.heap.size := s3.2.size
      have hl7 : l.length < 140737488355328 := by rw [← HL.out]; omega
      have HQ : Hid (q = ((UInt8.ofNat q.toNat).toNat : Int)) := Lib.hid (by simp; omega)
      clear hst q1
      go_wp2_with (at_builtin; refine wpList_push1 rfl _ _ 25 rfl w.heap.size i0 Tryd.underlying25 hi0 hz0 hz1 hz2 (.slice (some ⟨G, 0, none⟩) n cap) l w3 (UInt8.ofNat q.toNat) _ HQ.out rfl ho3 rfl hl7 hb3 ?_; intro v4 w4 ho4 hp4; have s4 : TStep w g w4 := s3.below_base hg (hp4.below ho3 hb3); have HO4 := Lib.hid ho4; obtain ⟨A4, c4, hv4, _, _, _⟩ := ho4.read; clear ho4 hp4 ho3; (generalize hll : (l ++ [UInt8.ofNat q.toNat]).length = l4 at hv4); have HLL := Lib.hid hll; clear hll; subst hv4)
      go_ret
      exact dmgP_mk HO4.out (by rw [List.length_append, ← HL.out]; exact Nat.le_refl _) s4
    · have t0 : (r == (0 : Int)) = false := by simp; omega
      have t1 : (r == (1 : Int)) = false := by simp; omega
      clear r2 r3
      go_wp2_with fail
      refine (next_any g _ _ s2.1 (by omega)).mono ?_
      rintro e w3 ⟨q, q0, q1, rfl, hst3⟩
      obtain ⟨k, rfl⟩ := Int.eq_ofNat_of_zero_le q0
      have hk : k < n := by omega
      have s3 := s2.trans hst3
      clear q1
      go_wp2_with fail
      refine (next_any g _ _ s3.1 (by omega)).mono ?_
      rintro e w4 ⟨v, v0, v1, rfl, hst4⟩
      have v2 : v < 256 := by omega
      have s4 := s3.trans hst4
      have hgz : g < w4.heap.size := Nat.lt_of_lt_of_le hg s4.2.size
      have sN := s4.alloc (.cells #[.int .i64 0, .int .i64 1, .int .i64 128, .int .i64 255, .int .i64 v] 3)
      have hV := Has.new w4 3 #[.int .i64 0, .int .i64 1, .int .i64 128, .int .i64 255, .int .i64 v]
      have hpk := Lib.hid (pick_any g w4.heap.size 5 [0, 1, 128, 255, v] _ sN.1 (by simp) (by simp) (by simp) (by omega) (fun i hi => by
        rw [hV.cell]
        have h5 : i = 0 ∨ i = 1 ∨ i = 2 ∨ i = 3 ∨ i = 4 := by simp at hi; omega
        rcases h5 with rfl | rfl | rfl | rfl | rfl <;> rfl))
      have HS := Lib.hid ((HST2.out.trans (hst3.trans hst4)).alloc (.cells #[.int .i64 0, .int .i64 1, .int .i64 128, .int .i64 255, .int .i64 v] 3))
      clear hV hst3 hst4 v1
      go_wp2_with fail
      refine (hpk.out).mono ?_
      rintro e w5 ⟨u, hu, rfl, hst5⟩
      have hu2 : 0 ≤ u ∧ u < 256 := by simp at hu; omega
      obtain ⟨u0, u1⟩ := hu2
      have hst15 := HS.out.trans hst5
      have hblk : w5.heap[G]? = w1.heap[G]? := hst15.2.block G hG2 (fun e => by have := Option.some.inj e; omega)
      have hfz := (World.frozen?_of_block (a := ⟨G, k, none⟩) hblk).trans (HFZ.out k)
      have hcl := (World.cell?_of_block (a := ⟨G, k, none⟩) hblk).trans (HCL.out k (by rw [← HL.out]; exact hk))
      have hu3 : u = ((UInt8.ofNat u.toNat).toNat : Int) := by simp; omega
      have HF := Lib.hid (HSET.out w5 hblk k (UInt8.ofNat u.toNat))
      rw [← hu3] at HF
      have s6 : TStep w g (w5.setCell ⟨G, k, none⟩ (.int .u8 u)) := (s1.trans hst15).set (p := ⟨G, k, none⟩) hG1 hg _
      generalize l[k]'(by rw [← HL.out]; exact hk) = lk at hcl
      clear hpk hu hst15 hst5 hblk sN HS hu3 HSET HTK HCL HFZ HST2 HO2
      have hkz : (0 : Int) ≤ (k : Int) := by omega
      have hkn : (k : Int) < (n : Int) := by omega
      go_wp2_with fail
      go_ret
      exact dmgP_mk HF.out (by rw [List.length_set, ← HL.out]; omega) s6
end
section
open Go.RowKit

theorem decN_small (z : List UInt8) : ((decN z).getD []).length ≤ 64 := by
  cases h : decN z with
  | none => exact Nat.zero_le _
  | some x => exact (decAll_some codec_nd h).1
theorem decL_small (z : List UInt8) : ((decL z).getD []).length ≤ 64 := by
  cases h : decL z with
  | none => exact Nat.zero_le _
  | some x => exact (decAll_some codec_ld h).1
set_option maxRecDepth 100000 in
set_option maxHeartbeats 1600000 in
theorem decodes_any (A : Option Addr) (l : List UInt8) (c B : Nat) (w : World) (hl : Bys w B A l) (hB : B ≤ w.heap.size) (hc : l.length ≤ c) (hm : c ≤ maxLen) :
    Calls Tryd.prog 16 #[.slice A l.length c] w (LawP w) := by
  have hn : l.length ≤ 9223372036854775807 := by unfold maxLen at hm; omega
  have HD1 := Lib.hid (fun (W : World) (k : Below w.heap.size w W) => decodeNodes_any A l c B W (hl.below (k.mono hB)) (Nat.le_trans hB k.size) hn hc hm)
  have HD2 := Lib.hid (fun (W : World) (k : Below w.heap.size w W) => rdecodeNodes_any A l c B W (hl.below (k.mono hB)) (Nat.le_trans hB k.size) hn hc hm)
  have HD3 := Lib.hid (fun (W : World) (k : Below w.heap.size w W) => decodeLinks_any A l c B W (hl.below (k.mono hB)) (Nat.le_trans hB k.size) hn hc hm)
  have HD4 := Lib.hid (fun (W : World) (k : Below w.heap.size w W) => rdecodeLinks_any A l c B W (hl.below (k.mono hB)) (Nat.le_trans hB k.size) hn hc hm)
  unfold DecNP at HD1 HD2
  unfold DecLP at HD3 HD4
  have hx := decN_small l
  have hy := decL_small l
  generalize (decN l).getD [] = xs at *
  generalize (decL l).getD [] = ys at *
  generalize (if (decN l).isSome then (0 : Int) else 4) = E1 at *
  generalize (if (decL l).isSome then (0 : Int) else 4) = E2 at *
  generalize l.length = n at *
  clear hl hn hc hm
  have e1 : (E1 == E1) = true := by simp
  have e2 : (E2 == E2) = true := by simp
  go_enter Tryd.func16, Tryd.ntmps16
  go_wp2_with fail
  refine (HD1.out w (Below.refl _ _)).mono ?_
  rintro e w1 ⟨v1, rfl, ho1, hb1⟩
  obtain ⟨A1, c1, hv1, hr1⟩ := ho1.read
  have HR1 := Lib.hid hr1
  have HB1 := Lib.hid hb1
  generalize hp : xs.length = p at *
  subst hv1
  have HP := Lib.hid hp
  clear ho1 hr1 hb1 HD1 hp
  go_wp2_with fail
  refine (HD2.out w1 HB1.out).mono ?_
  rintro e w2 ⟨v2, rfl, ho2, hb2⟩
  obtain ⟨A2, c2, hv2, hr2⟩ := ho2.read
  rw [HP.out] at hv2
  have HR2 := Lib.hid hr2
  have HR1' := Lib.hid ((HR1.out.below hb2).more hb2.size)
  have HB2 := Lib.hid (HB1.out.trans (hb2.mono HB1.out.size))
  subst hv2
  clear ho2 hr2 hb2 HD2 HR1 HB1
  go_wp2_with fail
  refine (HD3.out w2 HB2.out).mono ?_
  rintro e w3 ⟨v3, rfl, ⟨A3, c3, hv3, _, _, hr3⟩, hb3⟩
  have HR1 := Lib.hid ((HR1'.out.below hb3).more hb3.size)
  have HR2' := Lib.hid ((HR2.out.below hb3).more hb3.size)
  have HR3 := Lib.hid hr3
  have HB3 := Lib.hid (HB2.out.trans (hb3.mono HB2.out.size))
  generalize hq : ys.length = q at *
  have HQ := Lib.hid hq
  subst hv3
  clear hr3 hb3 HD3 HR1' HR2 HB2 hq
  go_wp2_with fail
  refine (HD4.out w3 HB3.out).mono ?_
  rintro e w4 ⟨v4, rfl, ⟨A4, c4, hv4, _, _, hr4⟩, hb4⟩
  rw [HQ.out] at hv4
  have hn1 := (HR1.out.below hb4).more hb4.size
  have hn2 := (HR2'.out.below hb4).more hb4.size
  have hl1 := (HR3.out.below hb4).more hb4.size
  have HB4 := Lib.hid (HB3.out.trans (hb4.mono HB3.out.size))
  have HS1 := Lib.hid (same_nodes A1 A2 xs xs c1 c2 w4 hn1 hn2 (by rw [HP.out]; omega))
  have HS2 := Lib.hid (fun (W : World) (k : Below w4.heap.size w4 W) => rsame6_any A3 A4 ys ys c3 c4 W ((hl1.below k).more k.size) ((hr4.below k).more k.size) (by rw [HQ.out]; omega))
  rw [sameN_self, HP.out] at HS1
  rw [decide_eq_true (rfl : ys = ys), HQ.out] at HS2
  subst hv4
  clear hr4 hb4 HD4 HR1 HR2' HR3 HB3 hn1 hn2 hl1
  go_wp2_with fail
  refine (HS1.out).mono ?_
  rintro e w5 ⟨rfl, hb5⟩
  have HB5 := Lib.hid hb5
  clear hb5 HS1
  go_wp2_with fail
  refine (HS2.out w5 HB5.out).mono ?_
  rintro e w6 ⟨rfl, hb6⟩
  have B6 := HB4.out.trans ((HB5.out.trans (hb6.mono HB5.out.size)).mono HB4.out.size)
  go_wp2_with fail
  go_ret
  exact ⟨rfl, B6⟩
end
section
open Go.RowKit

theorem OwnB.shape3 {w : World} {base : Nat} {v : Value} {l : List UInt8} (h : OwnB w base v l) : ∃ A n c, v = .slice A n c := by
  obtain ⟨A, c, e, _⟩ := h.read
  exact ⟨A, _, c, e⟩
theorem decodes_own {w : World} {base n c : Nat} {A : Option Addr} {l : List UInt8} (h : OwnB w base (.slice A n c) l) : Calls Tryd.prog 16 #[.slice A n c] w (LawP w) := by
  obtain ⟨A', c', e, h1, h2, h3⟩ := h.read
  injection e with e1 e2 e3
  subst e1 e2 e3
  exact decodes_any A l c w.heap.size w h3 (Nat.le_refl _) h1 h2
theorem damage_own {w : World} {base n c g : Nat} {A : Option Addr} {l : List UInt8} (ht : Tape w g) (h : OwnB w base (.slice A n c) l) (hn : l.length ≤ 1000000) : Calls Tryd.prog 17 #[.pointer (some ⟨g, 0, none⟩), .slice A n c] w (DmgP n g w) := by
  obtain ⟨A', c', e, h1, h2, h3⟩ := h.read
  injection e with e1 e2 e3
  subst e1 e2 e3
  exact damage3_any A l c w.heap.size g w ht h3 (Nat.le_refl _) hn
set_option maxRecDepth 100000 in
theorem str_own {w : World} {base n c : Nat} {A : Option Addr} {l : List UInt8} (h : OwnB w base (.slice A n c) l) : (convert 25 9 (.slice A n c)).run Tryd.prog w = .ok (.string ⟨l.toArray⟩) w := by
  obtain ⟨A', c', e, h1, h2, h3⟩ := h.read
  injection e with e1 e2 e3
  subst e1 e2 e3
  exact run_str (P := Tryd.prog) w w.heap.size A l c h3 25 9 Tryd.underlying25 Tryd.underlying5 Tryd.underlying9
def encL (l : List Nd) : List UInt8 := if okNs l then encNs l else []
def encE (l : List Nd) : Int := if okNs l then 0 else 3
def encM (l : List Ld) : List UInt8 := if okLds l then encLds l else []
def encF (l : List Ld) : Int := if okLds l then 0 else 3
theorem encL_small {l : List Nd} (hw : ∀ x ∈ l, x.wide) : (encL l).length ≤ 1000000 := by
  unfold encL
  split
  · rename_i h
    obtain ⟨h1, h2⟩ := okNs_keys h
    have h3 := flat_len (f := encNd) (m := 1030) (l := l) (fun x hx => encNd_len (hw x hx).1.1 (hw x hx).1.2 (hw x hx).2 (Nat.le_trans (h2 x hx) (by omega)))
    have h4 := enc_len10 (m := l.length) (by omega)
    unfold encNs
    rw [List.length_append]
    have h5 : l.length * 1030 ≤ 64 * 1030 := Nat.mul_le_mul_right _ h1
    omega
  · exact Nat.zero_le _
theorem encM_small {l : List Ld} (hw : ∀ x ∈ l, x.wide) : (encM l).length ≤ 1000000 := by
  unfold encM
  split
  · rename_i h
    obtain ⟨h1, h2⟩ := okLds_fit h hw
    have h3 := flat_len (f := encLd) (m := 400) (l := l) (fun x hx => encLd_len (h2 x hx))
    have h4 := enc_len10 (m := l.length) (by omega)
    unfold encLds
    rw [List.length_append]
    have h5 : l.length * 400 ≤ 64 * 400 := Nat.mul_le_mul_right _ h1
    omega
  · exact Nat.zero_le _
/-- What the loop of the law knows of its nodes and links. -/
structure NL (w wx : World) (g : Nat) (Ax : Option Addr) (lx : List Nd) (Ay : Option Addr) (ly : List Ld) : Prop where
  below : Below w.heap.size w wx
  tape : Tape wx g
  nds : ∀ W, TStep wx g W → Nds W W.heap.size Ax lx
  lds : ∀ W, TStep wx g W → Lds W W.heap.size Ay ly
  nw : ∀ x ∈ lx, x.wide
  lw : ∀ x ∈ ly, x.wide
  nn : lx.length ≤ 1000
  ln : ly.length ≤ 1000
section
variable {w a b : World} {g : Nat} {Ax Ay : Option Addr} {lx : List Nd} {ly : List Ld}
theorem NL.step (h : NL w a g Ax lx Ay ly) (hg : w.heap.size ≤ g) (k : TStep a g b) : NL w b g Ax lx Ay ly :=
  ⟨h.below.grown k.2 h.below.size (fun j e => by have := Option.some.inj e; omega), k.1, fun W k2 => h.nds W (k.trans k2), fun W k2 => h.lds W (k.trans k2), h.nw, h.lw, h.nn, h.ln⟩
theorem NL.on (h : NL w a g Ax lx Ay ly) (hg : w.heap.size ≤ g) (k : Below a.heap.size a b) : NL w b g Ax lx Ay ly := h.step hg ((TStep.refl h.tape).below k)
theorem NL.enc (h : NL w a g Ax lx Ay ly) (c : Nat) : Calls Tryd.prog 12 #[.slice Ax lx.length c] a fun e w' => ∃ A n c, e = .returned (.tuple #[.slice A n c, .int .i64 (encE lx)]) ∧ OwnB w' a.heap.size (.slice A n c) (encL lx) ∧ Below a.heap.size a w' := by
  refine (encodeNodes_any Ax lx c a (h.nds _ (TStep.refl h.tape)) (by have := h.nn; omega) h.nw).mono fun e w' hp => ?_
  obtain ⟨v, rfl, ho, hb⟩ := hp
  obtain ⟨A, n, c, rfl⟩ := ho.shape3
  exact ⟨A, n, c, rfl, ho, hb⟩
theorem NL.renc (h : NL w a g Ax lx Ay ly) (c : Nat) : Calls Tryd.prog 13 #[.slice Ax lx.length c] a fun e w' => ∃ A n c, e = .returned (.tuple #[.slice A n c, .int .i64 (encE lx)]) ∧ OwnB w' a.heap.size (.slice A n c) (encL lx) ∧ Below a.heap.size a w' := by
  refine (rencodeNodes_any Ax lx c a (h.nds _ (TStep.refl h.tape)) (by have := h.nn; omega) h.nw).mono fun e w' hp => ?_
  obtain ⟨v, rfl, ho, hb⟩ := hp
  obtain ⟨A, n, c, rfl⟩ := ho.shape3
  exact ⟨A, n, c, rfl, ho, hb⟩
theorem NL.encm (h : NL w a g Ax lx Ay ly) (c : Nat) : Calls Tryd.prog 14 #[.slice Ay ly.length c] a fun e w' => ∃ A n c, e = .returned (.tuple #[.slice A n c, .int .i64 (encF ly)]) ∧ OwnB w' a.heap.size (.slice A n c) (encM ly) ∧ Below a.heap.size a w' := by
  refine (encodeLinks_any Ay ly c a (h.lds _ (TStep.refl h.tape)) (by have := h.ln; omega) h.lw).mono fun e w' hp => ?_
  obtain ⟨v, rfl, ho, hb⟩ := hp
  obtain ⟨A, n, c, rfl⟩ := ho.shape3
  exact ⟨A, n, c, rfl, ho, hb⟩
theorem NL.rencm (h : NL w a g Ax lx Ay ly) (c : Nat) : Calls Tryd.prog 15 #[.slice Ay ly.length c] a fun e w' => ∃ A n c, e = .returned (.tuple #[.slice A n c, .int .i64 (encF ly)]) ∧ OwnB w' a.heap.size (.slice A n c) (encM ly) ∧ Below a.heap.size a w' := by
  refine (rencodeLinks_any Ay ly c a (h.lds _ (TStep.refl h.tape)) (by have := h.ln; omega) h.lw).mono fun e w' hp => ?_
  obtain ⟨v, rfl, ho, hb⟩ := hp
  obtain ⟨A, n, c, rfl⟩ := ho.shape3
  exact ⟨A, n, c, rfl, ho, hb⟩
end
theorem chk_wide {l : List Nd} (h : chkV l = 0) : ∀ x ∈ l, x.wide := fun x hx => by
  have := List.all_eq_true.1 (chkV_zero.1 h).2.1 x hx
  simp [Nd.ok] at this
  exact ⟨⟨by omega, by omega⟩, by omega⟩
theorem LkW.fit {y : Lk} (h : LkW y) : Lk.fit y := h
/-- What a row is as it is read, now and as long as its blocks stay. -/
theorem OwnE.readB {w : World} {base n L : Nat} {v : Value} (h : OwnE w base v n L) : ∃ (A : Option Addr) (c : Nat) (ls : List Ld), v = .slice A ls.length c ∧ ls.length = n ∧ (∀ W, KpA base w W → w.heap.size ≤ W.heap.size → Lds W W.heap.size A ls) ∧ (∀ x ∈ ls, Ld.wide x) := by
  obtain ⟨q, h1, h2, h3, h4⟩ := h
  have hch : ∀ i, i < n → ∃ x : Ld, ∃ hq : i < q.length, x.id = q[i].1 ∧ OwnK w base q[i].2 x.levels ∧ Ld.wide x := fun i hi => by
    have hq : i < q.length := by omega
    obtain ⟨a, lv, b, c, d, _⟩ := h3 _ (List.getElem_mem hq)
    exact ⟨⟨q[i].1, lv⟩, hq, rfl, b, a, fun y hy => d y hy⟩
  obtain ⟨R, hR⟩ := Go.Deep.choose_lt (α := Ld) hch
  have hl : ((List.range n).map R).length = n := by simp
  rcases h1.2 with ⟨rfl, rfl⟩ | ⟨g, cap, cur, rfl, hb, hg, hnc, hcm, hcs, htake⟩
  · exact ⟨none, 0, [], rfl, rfl, fun W _ _ hn => absurd rfl hn, fun x hx => by cases hx⟩
  · refine ⟨some ⟨g, 0, none⟩, cap, (List.range n).map R, by rw [hl], hl, fun W hk hs _ => ⟨g, 0, rfl, Nat.lt_of_lt_of_le (Has.lt hg) hs, fun i hi => ?_⟩, fun x hx => ?_⟩
    · have hi' : i < n := by omega
      obtain ⟨hq, e1, ho, _⟩ := hR i hi'
      obtain ⟨p1, p2⟩ := flatP_at q i hq
      have h1W : LRow W base (.slice (some ⟨g, 0, none⟩) n cap) n (flatP q) := h1.keep fun i a b _ => hk i a b
      obtain ⟨A', c', e2, k1, k2, k3⟩ := (ho.keep hk).readB
      have hge : ((List.range n).map R)[i] = R i := by simp
      rw [Nat.zero_add, h1W.cells _ _ p1, h1W.cells _ _ p2, hge, e1, e2]
      exact ⟨by first | rfl | trivial, A', c', by first | rfl | trivial, k1, k2, k3⟩
    · obtain ⟨i, hi, rfl⟩ := List.mem_map.1 hx
      obtain ⟨_, _, _, hw⟩ := hR i (by simpa using hi)
      exact hw
end
section
open Go.RowKit

theorem okNs_of {l : List Nd} (h1 : l.length ≤ 64) (h2 : ∀ x ∈ l, x.key.size ≤ 64) : okNs l = true := by
  unfold okNs longK
  rw [Bool.and_eq_true, decide_eq_true_eq, Bool.not_eq_true', List.any_eq_false]
  exact ⟨h1, fun x hx => by have := h2 x hx; simpa using this⟩
theorem okLds_of {l : List Ld} (h1 : l.length ≤ 64) (h2 : ∀ x ∈ l, x.levels.length ≤ 17) : okLds l = true := by
  unfold okLds manyL
  rw [Bool.and_eq_true, decide_eq_true_eq, Bool.not_eq_true', List.any_eq_false]
  exact ⟨h1, fun x hx => by have := h2 x hx; simpa using this⟩
theorem decN_ok {z : List UInt8} {l : List Nd} (h : decN z = some l) : l.length ≤ 64 ∧ (∀ x ∈ l, x.wide) ∧ okNs l = true ∧ encNs l = z := by
  obtain ⟨h1, h2, h3⟩ := decAll_some codec_nd h
  exact ⟨h1, fun x hx => ⟨(h2 x hx).1, by have := (h2 x hx).2.2; omega⟩, okNs_of h1 fun x hx => (h2 x hx).2.1, h3⟩
theorem decL_ok {z : List UInt8} {l : List Ld} (h : decL z = some l) : l.length ≤ 64 ∧ (∀ x ∈ l, x.wide) ∧ okLds l = true ∧ encLds l = z := by
  obtain ⟨h1, h2, h3⟩ := decAll_some codec_ld h
  exact ⟨h1, fun x hx => ⟨(h2 x hx).1, (h2 x hx).2.2⟩, okLds_of h1 fun x hx => (h2 x hx).2.1, h3⟩
theorem decN_enc' {l : List Nd} (hw : ∀ x ∈ l, x.wide) (h : okNs l = true) : decN (encNs l) = some l :=
  decAll_enc codec_nd (okNs_keys h).1 (fun x hx => ⟨(hw x hx).1, (okNs_keys h).2 x hx, by have := (hw x hx).2; omega⟩)
theorem decL_enc' {l : List Ld} (hw : ∀ x ∈ l, x.wide) (h : okLds l = true) : decL (encLds l) = some l :=
  decAll_enc codec_ld (okLds_fit h hw).1 (okLds_fit h hw).2
section
variable {W : World} {A : Option Addr} {n c : Nat} {z : List UInt8}
theorem decNodes_no (hz : Bys W W.heap.size A z) (hn : n = z.length) (hc : n ≤ c) (hm : c ≤ maxLen) (hd : decN z = none) : Calls Tryd.prog 19 #[.slice A n c] W fun e w' => ∃ A m c, e = .returned (.tuple #[.slice A m c, .int .i64 4]) ∧ Below W.heap.size W w' := by
  subst hn
  refine (decodeNodes_any A z c W.heap.size W hz (Nat.le_refl _) (by unfold maxLen at hm; omega) hc hm).mono fun e w' hp => ?_
  obtain ⟨v, rfl, ho, hb⟩ := hp
  obtain ⟨A', c', rfl, _⟩ := ho.read
  rw [hd]
  exact ⟨A', _, c', rfl, hb⟩
theorem decNodes_yes (hz : Bys W W.heap.size A z) (hn : n = z.length) (hc : n ≤ c) (hm : c ≤ maxLen) {l : List Nd} (hd : decN z = some l) : Calls Tryd.prog 19 #[.slice A n c] W fun e w' => ∃ A m c, m = l.length ∧ e = .returned (.tuple #[.slice A m c, .int .i64 0]) ∧ Nds w' w'.heap.size A l ∧ Below W.heap.size W w' := by
  subst hn
  refine (decodeNodes_any A z c W.heap.size W hz (Nat.le_refl _) (by unfold maxLen at hm; omega) hc hm).mono fun e w' hp => ?_
  obtain ⟨v, rfl, ho, hb⟩ := hp
  rw [hd] at ho ⊢
  obtain ⟨A', c', rfl, hr⟩ := ho.read
  exact ⟨A', _, c', rfl, rfl, hr, hb⟩
theorem decLinks_no (hz : Bys W W.heap.size A z) (hn : n = z.length) (hc : n ≤ c) (hm : c ≤ maxLen) (hd : decL z = none) : Calls Tryd.prog 21 #[.slice A n c] W fun e w' => ∃ A m c, e = .returned (.tuple #[.slice A m c, .int .i64 4]) ∧ Below W.heap.size W w' := by
  subst hn
  refine (decodeLinks_any A z c W.heap.size W hz (Nat.le_refl _) (by unfold maxLen at hm; omega) hc hm).mono fun e w' hp => ?_
  obtain ⟨v, rfl, ⟨A', c', rfl, _⟩, hb⟩ := hp
  rw [hd]
  exact ⟨A', _, c', rfl, hb⟩
theorem decLinks_yes (hz : Bys W W.heap.size A z) (hn : n = z.length) (hc : n ≤ c) (hm : c ≤ maxLen) {l : List Ld} (hd : decL z = some l) : Calls Tryd.prog 21 #[.slice A n c] W fun e w' => ∃ A m c, m = l.length ∧ e = .returned (.tuple #[.slice A m c, .int .i64 0]) ∧ Lds w' w'.heap.size A l ∧ Below W.heap.size W w' := by
  subst hn
  refine (decodeLinks_any A z c W.heap.size W hz (Nat.le_refl _) (by unfold maxLen at hm; omega) hc hm).mono fun e w' hp => ?_
  obtain ⟨v, rfl, ho, hb⟩ := hp
  rw [hd] at ho ⊢
  obtain ⟨A', c', rfl, _, _, hr⟩ := ho
  exact ⟨A', _, c', rfl, rfl, hr, hb⟩
theorem encNodes_back {l : List Nd} (hd : decN z = some l) (hn : n = l.length) (hr : Nds W W.heap.size A l) : Calls Tryd.prog 12 #[.slice A n c] W fun e w' => ∃ A n c, e = .returned (.tuple #[.slice A n c, .int .i64 0]) ∧ OwnB w' W.heap.size (.slice A n c) z ∧ Below W.heap.size W w' := by
  subst hn
  obtain ⟨h1, h2, h3, h4⟩ := decN_ok hd
  refine (encodeNodes_any A l c W hr (by omega) h2).mono fun e w' hp => ?_
  obtain ⟨v, rfl, ho, hb⟩ := hp
  rw [h3] at ho ⊢
  obtain ⟨A', n', c', rfl⟩ := ho.shape3
  rw [if_pos rfl, h4] at ho
  exact ⟨A', n', c', rfl, ho, hb⟩
theorem encLinks_back {l : List Ld} (hd : decL z = some l) (hn : n = l.length) (hr : Lds W W.heap.size A l) : Calls Tryd.prog 14 #[.slice A n c] W fun e w' => ∃ A n c, e = .returned (.tuple #[.slice A n c, .int .i64 0]) ∧ OwnB w' W.heap.size (.slice A n c) z ∧ Below W.heap.size W w' := by
  subst hn
  obtain ⟨h1, h2, h3, h4⟩ := decL_ok hd
  refine (encodeLinks_any A l c W hr (by omega) h2).mono fun e w' hp => ?_
  obtain ⟨v, rfl, ho, hb⟩ := hp
  rw [h3] at ho ⊢
  obtain ⟨A', n', c', rfl⟩ := ho.shape3
  rw [if_pos rfl, h4] at ho
  exact ⟨A', n', c', rfl, ho, hb⟩
set_option maxRecDepth 100000 in
theorem str_bys (hz : Bys W W.heap.size A z) (hn : n = z.length) : (convert 25 9 (.slice A n c)).run Tryd.prog W = .ok (.string ⟨z.toArray⟩) W := by
  subst hn
  exact run_str (P := Tryd.prog) W W.heap.size A z c hz 25 9 Tryd.underlying25 Tryd.underlying5 Tryd.underlying9
end
theorem chk_key {l : List Nd} (h : chkV l = 0) : ∀ x ∈ l, x.key.size ≤ 64 := fun x hx => by
  have := List.all_eq_true.1 (chkV_zero.1 h).2.1 x hx
  simp [Nd.ok, vk] at this
  omega
end
end Go.Proofs.YtmhimkojegkalaaDoor
