/-
  slices.Contains at numbers; chain of package locked. Conditions: what is read can be read; the list is valid.
-/
import Derived.Test.YtgmffgdhijcfcaaDoorKzO
namespace Go.Proofs.YtgmffgdhijcfcaaDoor
open Go.RowKit Go.Maps
namespace Lk

set_option maxRecDepth 100000 in
set_option maxHeartbeats 1600000 in
theorem sindex_any (A : Option Addr) (l : List Int) (n c lo : Nat) (i : Int) (w : World) (hn : l.length = n) (h : RdR nrow 1 w lo A l) (hm : n ≤ maxLen) :
    Calls Tryd.prog 83 #[.slice A n c, .int .i64 i] w fun e w' => ∃ R : Int, e = .returned (.int .i64 R) ∧ (R ≥ 0 ↔ i ∈ l) ∧ w = w' := by
  have hml : maxLen ≤ 9223372036854775807 := by decide
  have HN := Lib.hid hn
  have HR := Lib.hid h
  clear h hn
  go_enter Tryd.func83, Tryd.ntmps83
  go_wp2_with fail
  go_loopw [8] (fun vk wr => ∃ k : Nat, vk = .int .i64 (k : Int) ∧ k ≤ n ∧ w = wr ∧ Hid (∀ j (h : j < k) (h2 : j < l.length), l[j] ≠ i)) (fun vk _ => n - (intOf vk).toNat)
  case atStart => exact ⟨0, rfl, by omega, rfl, Lib.hid fun j h => by omega⟩
  case round =>
    obtain ⟨k, rfl, hk, rfl, HS⟩ := hrel
    by_cases hlt : k < n
    · have k1 : k < l.length := by rw [HN.out]; exact hlt
      obtain ⟨b, o, e, -, hb, f1⟩ := num_at HR.out k1
      subst e
      have i0 : (0 : Int) ≤ (k : Int) := by omega
      have i1 : (k : Int) < (n : Int) := by omega
      have HM := Lib.hid (List.getElem_mem k1)
      have HNX := Lib.hid (fun (h1 : l[k] ≠ i) (j : Nat) (h : j < k + 1) (h2 : j < l.length) => (show l[j] ≠ i from by
        rcases Nat.lt_or_ge j k with h3 | h3
        · exact HS.out j h3 h2
        · obtain rfl : j = k := by omega
          exact h1))
      generalize l[k] = y at *
      clear k1 HS
      by_cases he : y = i
      · subst he
        go_wp2_with fail
        go_ret
        exact ⟨_, rfl, ⟨fun _ => HM.out, fun _ => by omega⟩, rfl⟩
      · have hz : (i == y) = false := by simpa using fun e => he e.symm
        have HR2 := Lib.hid (HNX.out he)
        clear he HNX HM
        go_wp2_with fail
        exact ⟨⟨k + 1, by go_num, hlt, (by first | rfl | trivial), Lib.hid HR2.out⟩, by simp [intOf]; omega⟩
    · go_wp2_with fail
      go_ret
      refine ⟨-1, rfl, ⟨fun q => by omega, fun q => ?_⟩, rfl⟩
      obtain ⟨j, hj, rfl⟩ := List.mem_iff_getElem.1 q
      exact absurd rfl (HS.out j (by have := HN.out; omega) hj)
theorem contains_any (A : Option Addr) (l : List Int) (n c lo : Nat) (i : Int) (w : World) (hn : l.length = n) (h : RdR nrow 1 w lo A l) (hm : n ≤ maxLen) :
    Calls Tryd.prog 63 #[.slice A n c, .int .i64 i] w (BoolQ (i ∈ l) w) := by
  have HI := Lib.hid (sindex_any A l n c lo i w hn h hm)
  clear h hn
  go_enter Tryd.func63, Tryd.ntmps63
  go_wp2_with fail
  refine (HI.out).mono ?_
  rintro e w1 ⟨R, rfl, hr, rfl⟩
  have HR := Lib.hid hr
  clear hr
  go_wp2_with fail
  go_ret
  refine ⟨decide (R ≥ 0), rfl, ?_, rfl⟩
  rw [decide_eq_true_iff]
  exact HR.out
def nat2 (l : List Nat) : List Int := List.map (fun i : Nat => (i : Int)) l
theorem nat2_len (l : List Nat) : (nat2 l).length = l.length := List.length_map _
theorem nat2_mem (l : List Nat) (i : Nat) : (i : Int) ∈ nat2 l ↔ i ∈ l := by
  unfold nat2
  rw [List.mem_map]
  constructor
  · rintro ⟨j, hj, e⟩
    obtain rfl : j = i := by omega
    exact hj
  · exact fun h => ⟨i, h, rfl⟩
theorem nat2_at (l : List Nat) {i : Nat} (h : i < (nat2 l).length) : (nat2 l)[i] = ((l[i]'(by rwa [nat2_len] at h) : Nat) : Int) := by simp [nat2]
/-- Where the walk along the chain stands. -/
structure ChnS (l : Ls) (pre : List Nat) (at' : Nat) : Prop where
  lt : at' < l.cs.length
  rk : pre.length ≤ rnk l at'
  is : chnV l l.cs.length 0 = (chnV l (l.cs.length - pre.length) at').map (pre ++ ·)
theorem ChnS.zero {l : Ls} (v : Vld l) : ChnS l [] 0 := ⟨by have := v.n2; omega, Nat.zero_le _, by simp⟩
theorem ChnS.fuel {l : Ls} {pre : List Nat} {a : Nat} (h : ChnS l pre a) : ∃ f, l.cs.length - pre.length = f + 1 := ⟨l.cs.length - pre.length - 1, by have := rnk_n h.lt; have := h.rk; omega⟩
theorem ChnS.done {l : Ls} {pre : List Nat} (h : ChnS l pre 1) : chnV l l.cs.length 0 = some (pre ++ [1]) := by
  obtain ⟨f, hf⟩ := h.fuel
  rw [h.is, hf]
  unfold chnV
  rw [if_pos rfl]
  rfl
theorem ChnS.stop {l : Ls} {pre : List Nat} {a : Nat} (h : ChnS l pre a) (h1 : a ≠ 1) (h2 : blw l a (l.at_ a).right.toNat = false) : chnV l l.cs.length 0 = none := by
  obtain ⟨f, hf⟩ := h.fuel
  rw [h.is, hf]
  unfold chnV
  rw [if_neg h1, if_neg (by rw [h2]; exact Bool.false_ne_true)]
  rfl
theorem ChnS.next {l : Ls} (v : Vld l) {pre : List Nat} {a : Nat} (h : ChnS l pre a) (h1 : a ≠ 1) (h2 : blw l a (l.at_ a).right.toNat = true) : ChnS l (pre ++ [a]) (l.at_ a).right.toNat := by
  obtain ⟨f, hf⟩ := h.fuel
  have hr := v.rg a h.lt
  have hlt : (l.at_ a).right.toNat < l.cs.length := by omega
  have hk := (rnk_iff v h.lt hlt).1 h2
  have h3 := h.rk
  refine ⟨hlt, by rw [List.length_append]; simp only [List.length_cons, List.length_nil]; omega, ?_⟩
  rw [h.is, hf]
  conv => lhs; unfold chnV
  rw [if_neg h1, if_pos h2, List.length_append]
  simp only [List.length_cons, List.length_nil]
  rw [show l.cs.length - (pre.length + (0 + 1)) = f by omega, Option.map_map]
  congr 1
  funext r
  simp
theorem ChnS.small {l : Ls} {pre : List Nat} {a : Nat} (h : ChnS l pre a) : pre.length < l.cs.length := by have := rnk_n h.lt; have := h.rk; omega
def ChnP (l : Ls) (w : World) (e : Ending) (w' : World) : Prop :=
  (chnV l l.cs.length 0 = none ∧ e = .returned (.tuple #[.slice none 0 0, .bool false]) ∧ Below w.heap.size w w') ∨
  ∃ ch A n c, chnV l l.cs.length 0 = some ch ∧ e = .returned (.tuple #[.slice A n c, .bool true]) ∧ ch.length = n ∧ n ≤ l.cs.length ∧ n ≤ c ∧ RdR nrow 1 w' w.heap.size A (nat2 ch) ∧ Below w.heap.size w w'
set_option maxRecDepth 100000 in
set_option maxHeartbeats 3200000 in
theorem chain_any (A : Option Addr) (l : Ls) (n c : Nat) (w : World) (hn : l.cs.length = n) (h : Ces w 0 A l.cs) (v : Vld l) :
    Calls Tryd.prog 39 #[.slice A n c] w (ChnP l w) := by
  have HN := Lib.hid hn
  have HL := Lib.hid h
  have HV := Lib.hid v
  have n66 : n ≤ 66 := by rw [← hn]; exact v.n66
  have HO0 : Hid (OwnR nrow 1 3 (w.alloc (.cells #[.int .i64 0] 3)) w.heap.size (.slice (some ⟨w.heap.size, 0, none⟩) 1 1) (nat2 ([] ++ [0]))) := Lib.hid ⟨rfl, .inr ⟨w.heap.size, 1, _, rfl, Nat.le_refl _, Has.new w _ _, Nat.le_refl _, by unfold maxLen; omega, rfl, rfl⟩⟩
  have HB0 := Lib.hid ((Below.refl w.heap.size w).alloc (Nat.le_refl _) (.cells #[.int .i64 0] 3))
  have HS0 := Lib.hid (ChnS.zero v)
  clear h hn v
  go_enter Tryd.func39, Tryd.ntmps39
  go_wp2_with fail
  generalize w.alloc (.cells #[.int .i64 0] 3) = W0 at *
  go_loopw [4, 5, 6] (fun vo va vx wr => ∃ (a : Nat) (pre : List Nat) (v1 : Value), va = .int .i64 (a : Int) ∧ v1 = vo ∧ vx = vx ∧ Hid (ChnS l pre a) ∧ OwnR nrow 1 3 wr w.heap.size v1 (nat2 (pre ++ [a])) ∧ Below w.heap.size w wr) (fun _ va _ _ => n - rnk l (intOf va).toNat)
  case atStart => exact ⟨0, [], _, rfl, rfl, rfl, HS0.out, HO0.out, HB0.out⟩
  case round =>
    clear HO0 HB0 HS0
    obtain ⟨a, pre, v1, rfl, rfl, -, HS, hO, hB⟩ := hrel
    have HB := Lib.hid hB
    obtain ⟨A3, n3, q3, hv3⟩ := own_sh hO
    subst hv3
    have HO := Lib.hid hO
    clear hO
    by_cases h1 : a = 1
    · subst h1
      have HD := Lib.hid HS.out.done
      have HR : Hid (∃ A c, Value.slice A3 n3 q3 = .slice A (nat2 (pre ++ [1])).length c ∧ (nat2 (pre ++ [1])).length ≤ c ∧ c ≤ maxLen ∧ RdR nrow 1 wr w.heap.size A (nat2 (pre ++ [1]))) := Lib.hid (HO.out.read (fun _ => rfl))
      have HSM := Lib.hid HS.out.small
      clear hB
      go_wp2_with fail
      go_ret2
      obtain ⟨A, c, e, h3, -, h4⟩ := HR.out
      injection e with e1 e2 e3
      subst e1 e3
      have h5 := HSM.out
      rw [nat2_len] at e2 h3
      refine .inr ⟨pre ++ [1], A3, n3, q3, HD.out, rfl, e2.symm, ?_, by omega, h4, HB.out⟩
      rw [e2, List.length_append]
      simp only [List.length_cons, List.length_nil]
      omega
    · have hlt := HS.out.lt
      obtain ⟨b, o, e, -, hb, f0, f1, f2, -⟩ := Ces.at_ HL.out hlt
      subst e
      replace f2 := (hB.cell (p := ⟨b, o + a * 5 + 2, none⟩) hb).trans f2
      rw [l.at_lt hlt] at f2
      obtain ⟨r, hr, hrn⟩ := nat_of (HV.out.rg a hlt)
      have HRT : Hid ((l.at_ a).right.toNat = r) := Lib.hid (by rw [hr]; rfl)
      rw [hr] at f2
      rw [HN.out] at hlt hrn
      have i0 : (0 : Int) ≤ (a : Int) := by omega
      have i1 : (a : Int) < (n : Int) := by omega
      have h1d : ((a : Int) != 1) = true := by simp; omega
      have HCM := Lib.hid (compare_n l n c a r 0 (some ⟨b, o, none⟩) wr HN.out (RdR.below HL.out hB) hlt hrn)
      have hgt := cmpC_ge l a r
      cases hbl : blw l a r with
      | false =>
        rw [hbl] at hgt
        have HD := Lib.hid (HS.out.stop h1 (by rw [HRT.out]; exact hbl))
        have hR := of_decide_eq_true hgt
        clear hgt hbl h1 hB
        generalize cmpC l a r = R at *
        go_wp2_with fail
        refine (HCM.out).mono ?_
        rintro e w2 ⟨rfl, hb2⟩
        have HB2 := Lib.hid (HB.out.trans (hb2.mono HB.out.size))
        clear hb2
        go_wp2_with fail
        go_ret2
        exact .inl ⟨HD.out, rfl, HB2.out⟩
      | true =>
        rw [hbl] at hgt
        have HD := Lib.hid (HS.out.next HV.out h1 (by rw [HRT.out]; exact hbl))
        rw [HRT.out] at HD
        have HRK := Lib.hid (⟨(rnk_iff HV.out HS.out.lt (by rw [HN.out]; exact hrn)).1 hbl, by have := rnk_n (l := l) (a := r) (by rw [HN.out]; exact hrn); have := HN.out; omega⟩ : rnk l a < rnk l r ∧ rnk l r < n)
        have HSM := Lib.hid HS.out.small
        have hR := of_decide_eq_false hgt
        clear hgt hbl h1 hB
        generalize cmpC l a r = R at *
        go_wp2_with fail
        refine (HCM.out).mono ?_
        rintro e w2 ⟨rfl, hb2⟩
        have HB2 := Lib.hid (HB.out.trans (hb2.mono HB.out.size))
        have HO2 := Lib.hid (HO.out.below hb2)
        have hsz := HB2.out.size
        clear hb2
        go_wp2_with (at_builtin; refine wpList_pushR RowT.nu rfl (.tmp 20) (.tmp 22) rfl w.heap.size (.slice A3 n3 q3) (nat2 (pre ++ [a])) w2 (r : Int) _ rfl (by simp [Act.eval]) HO2.out (by simp [Act.eval]) (by have := HSM.out; have := HN.out; rw [nat2_len, List.length_append]; simp only [List.length_cons, List.length_nil]; omega) hsz ?_; intro v5 w5 ho5 hg5 hat5; obtain ⟨A5, n5, q5, hv5⟩ := own_sh ho5; subst hv5; have HO5 := Lib.hid ho5; have HG5 := Lib.hid (HB2.out.trans (grown_below hg5 hsz (fun j e => (HO2.out.lt j e).1))); clear ho5 hg5 hat5)
        refine ⟨⟨r, pre ++ [a], _, rfl, rfl, (by first | rfl | trivial), HD, ?_, HG5.out⟩, ?_⟩
        · have := HO5.out
          rwa [show nat2 (pre ++ [a]) ++ [(r : Int)] = nat2 (pre ++ [a] ++ [r]) by simp [nat2]] at this
        · have := HRK.out
          simp only [intOf, Int.toNat_natCast]
          omega
end Lk
end Go.Proofs.YtgmffgdhijcfcaaDoor
