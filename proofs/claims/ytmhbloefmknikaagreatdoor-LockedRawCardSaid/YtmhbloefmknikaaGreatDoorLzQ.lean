/-
  slices.Contains at numbers; chain of package locked. Conditions: what is read can be read; the list is valid.
  holds of package locked. No condition.
  isCutOut and anyLocked of package locked. Condition: what is read can be read.
  membersLinked and linkedBack of package locked. Conditions: the list can be read; no list is long.
  locksHeld and Check of package locked. Conditions: the list can be read; no list is long.
-/
import Derived.Test.YtmhbloefmknikaaGreatDoorLzJ
namespace Go.Proofs.YtmhbloefmknikaaGreatDoor
section
open Go.RowKit Go.Maps
namespace Lk

set_option maxRecDepth 100000 in
set_option maxHeartbeats 1600000 in
theorem sindex_any (A : Option Addr) (l : List Int) (n c lo : Nat) (i : Int) (w : World) (hn : l.length = n) (h : RdR nrow 1 w lo A l) (hm : n ≤ maxLen) :
    Calls Tryz.prog 140 #[.slice A n c, .int .i64 i] w fun e w' => ∃ R : Int, e = .returned (.int .i64 R) ∧ (R ≥ 0 ↔ i ∈ l) ∧ w = w' := by
  have hml : maxLen ≤ 9223372036854775807 := by decide
  have HN := Lib.hid hn
  have HR := Lib.hid h
  clear h hn
  go_enter Tryz.func140, Tryz.ntmps140
  go_wp2_with fail
  go_loopw [8] (fun vk wr => ∃ k : Nat, vk = .int .i64 (k : Int) ∧ k ≤ n ∧ w = wr ∧ Hid (∀ j (h : j < k) (h2 : j < l.length), l[j] ≠ i)) (fun vk _ => n - (intOf vk).toNat)
  case atStart => exact ⟨0, rfl, by omega, rfl, Lib.hid fun j h => by omega⟩
  case round =>
    obtain ⟨k, rfl, hk, rfl, HS⟩ := hrel
    by_cases hlt : k < n
    · have k1 : k < l.length := by rw [HN.out]; exact hlt
      obtain ⟨b, o, e, -, hb, f1⟩ := num_at HR.out k1
      subst e
      have i0 : (0 : Int) ≤ (k : Int) := by omega
      have i1 : (k : Int) < (n : Int) := by omega
      have HM := Lib.hid (List.getElem_mem k1)
      have HNX := Lib.hid (fun (h1 : l[k] ≠ i) (j : Nat) (h : j < k + 1) (h2 : j < l.length) => (show l[j] ≠ i from by
        rcases Nat.lt_or_ge j k with h3 | h3
        · exact HS.out j h3 h2
        · obtain rfl : j = k := by omega
          exact h1))
      generalize l[k] = y at *
      clear k1 HS
      by_cases he : y = i
      · subst he
        go_wp2_with fail
        go_ret
        exact ⟨_, rfl, ⟨fun _ => HM.out, fun _ => by omega⟩, rfl⟩
      · have hz : (i == y) = false := by simpa using fun e => he e.symm
        have HR2 := Lib.hid (HNX.out he)
        clear he HNX HM
        go_wp2_with fail
        exact ⟨⟨k + 1, by go_num, hlt, (by first | rfl | trivial), Lib.hid HR2.out⟩, by simp [intOf]; omega⟩
    · go_wp2_with fail
      go_ret
      refine ⟨-1, rfl, ⟨fun q => by omega, fun q => ?_⟩, rfl⟩
      obtain ⟨j, hj, rfl⟩ := List.mem_iff_getElem.1 q
      exact absurd rfl (HS.out j (by have := HN.out; omega) hj)
theorem contains_any (A : Option Addr) (l : List Int) (n c lo : Nat) (i : Int) (w : World) (hn : l.length = n) (h : RdR nrow 1 w lo A l) (hm : n ≤ maxLen) :
    Calls Tryz.prog 111 #[.slice A n c, .int .i64 i] w (BoolQ (i ∈ l) w) := by
  have HI := Lib.hid (sindex_any A l n c lo i w hn h hm)
  clear h hn
  go_enter Tryz.func111, Tryz.ntmps111
  go_wp2_with fail
  refine (HI.out).mono ?_
  rintro e w1 ⟨R, rfl, hr, rfl⟩
  have HR := Lib.hid hr
  clear hr
  go_wp2_with fail
  go_ret
  refine ⟨decide (R ≥ 0), rfl, ?_, rfl⟩
  rw [decide_eq_true_iff]
  exact HR.out
def nat2 (l : List Nat) : List Int := List.map (fun i : Nat => (i : Int)) l
theorem nat2_len (l : List Nat) : (nat2 l).length = l.length := List.length_map _
theorem nat2_mem (l : List Nat) (i : Nat) : (i : Int) ∈ nat2 l ↔ i ∈ l := by
  unfold nat2
  rw [List.mem_map]
  constructor
  · rintro ⟨j, hj, e⟩
    obtain rfl : j = i := by omega
    exact hj
  · exact fun h => ⟨i, h, rfl⟩
theorem nat2_at (l : List Nat) {i : Nat} (h : i < (nat2 l).length) : (nat2 l)[i] = ((l[i]'(by rwa [nat2_len] at h) : Nat) : Int) := by simp [nat2]
/-- Where the walk along the chain stands. -/
structure ChnS (l : Ls) (pre : List Nat) (at' : Nat) : Prop where
  lt : at' < l.cs.length
  rk : pre.length ≤ rnk l at'
  is : chnV l l.cs.length 0 = (chnV l (l.cs.length - pre.length) at').map (pre ++ ·)
theorem ChnS.zero {l : Ls} (v : Vld l) : ChnS l [] 0 := ⟨by have := v.n2; omega, Nat.zero_le _, by simp⟩
theorem ChnS.fuel {l : Ls} {pre : List Nat} {a : Nat} (h : ChnS l pre a) : ∃ f, l.cs.length - pre.length = f + 1 := ⟨l.cs.length - pre.length - 1, by have := rnk_n h.lt; have := h.rk; omega⟩
theorem ChnS.done {l : Ls} {pre : List Nat} (h : ChnS l pre 1) : chnV l l.cs.length 0 = some (pre ++ [1]) := by
  obtain ⟨f, hf⟩ := h.fuel
  rw [h.is, hf]
  unfold chnV
  rw [if_pos rfl]
  rfl
theorem ChnS.stop {l : Ls} {pre : List Nat} {a : Nat} (h : ChnS l pre a) (h1 : a ≠ 1) (h2 : blw l a (l.at_ a).right.toNat = false) : chnV l l.cs.length 0 = none := by
  obtain ⟨f, hf⟩ := h.fuel
  rw [h.is, hf]
  unfold chnV
  rw [if_neg h1, if_neg (by rw [h2]; exact Bool.false_ne_true)]
  rfl
theorem ChnS.next {l : Ls} (v : Vld l) {pre : List Nat} {a : Nat} (h : ChnS l pre a) (h1 : a ≠ 1) (h2 : blw l a (l.at_ a).right.toNat = true) : ChnS l (pre ++ [a]) (l.at_ a).right.toNat := by
  obtain ⟨f, hf⟩ := h.fuel
  have hr := v.rg a h.lt
  have hlt : (l.at_ a).right.toNat < l.cs.length := by omega
  have hk := (rnk_iff v h.lt hlt).1 h2
  have h3 := h.rk
  refine ⟨hlt, by rw [List.length_append]; simp only [List.length_cons, List.length_nil]; omega, ?_⟩
  rw [h.is, hf]
  conv => lhs; unfold chnV
  rw [if_neg h1, if_pos h2, List.length_append]
  simp only [List.length_cons, List.length_nil]
  rw [show l.cs.length - (pre.length + (0 + 1)) = f by omega, Option.map_map]
  congr 1
  funext r
  simp
theorem ChnS.small {l : Ls} {pre : List Nat} {a : Nat} (h : ChnS l pre a) : pre.length < l.cs.length := by have := rnk_n h.lt; have := h.rk; omega
def ChnP (l : Ls) (w : World) (e : Ending) (w' : World) : Prop :=
  (chnV l l.cs.length 0 = none ∧ e = .returned (.tuple #[.slice none 0 0, .bool false]) ∧ Below w.heap.size w w') ∨
  ∃ ch A n c, chnV l l.cs.length 0 = some ch ∧ e = .returned (.tuple #[.slice A n c, .bool true]) ∧ ch.length = n ∧ n ≤ l.cs.length ∧ n ≤ c ∧ RdR nrow 1 w' w.heap.size A (nat2 ch) ∧ Below w.heap.size w w'
set_option maxRecDepth 100000 in
set_option maxHeartbeats 3200000 in
theorem chain_any (A : Option Addr) (l : Ls) (n c : Nat) (w : World) (hn : l.cs.length = n) (h : Ces w 0 A l.cs) (v : Vld l) :
    Calls Tryz.prog 61 #[.slice A n c] w (ChnP l w) := by
  have HN := Lib.hid hn
  have HL := Lib.hid h
  have HV := Lib.hid v
  have n66 : n ≤ 66 := by rw [← hn]; exact v.n66
  have HO0 : Hid (OwnR nrow 1 3 (w.alloc (.cells #[.int .i64 0] 3)) w.heap.size (.slice (some ⟨w.heap.size, 0, none⟩) 1 1) (nat2 ([] ++ [0]))) := Lib.hid ⟨rfl, .inr ⟨w.heap.size, 1, _, rfl, Nat.le_refl _, Has.new w _ _, Nat.le_refl _, by unfold maxLen; omega, rfl, rfl⟩⟩
  have HB0 := Lib.hid ((Below.refl w.heap.size w).alloc (Nat.le_refl _) (.cells #[.int .i64 0] 3))
  have HS0 := Lib.hid (ChnS.zero v)
  clear h hn v
  go_enter Tryz.func61, Tryz.ntmps61
  go_wp2_with fail
  generalize w.alloc (.cells #[.int .i64 0] 3) = W0 at *
  go_loopw [4, 5, 6] (fun vo va vx wr => ∃ (a : Nat) (pre : List Nat) (v1 : Value), va = .int .i64 (a : Int) ∧ v1 = vo ∧ vx = vx ∧ Hid (ChnS l pre a) ∧ OwnR nrow 1 3 wr w.heap.size v1 (nat2 (pre ++ [a])) ∧ Below w.heap.size w wr) (fun _ va _ _ => n - rnk l (intOf va).toNat)
  case atStart => exact ⟨0, [], _, rfl, rfl, rfl, HS0.out, HO0.out, HB0.out⟩
  case round =>
    clear HO0 HB0 HS0
    obtain ⟨a, pre, v1, rfl, rfl, -, HS, hO, hB⟩ := hrel
    have HB := Lib.hid hB
    obtain ⟨A3, n3, q3, hv3⟩ := own_sh hO
    subst hv3
    have HO := Lib.hid hO
    clear hO
    by_cases h1 : a = 1
    · subst h1
      have HD := Lib.hid HS.out.done
      have HR : Hid (∃ A c, Value.slice A3 n3 q3 = .slice A (nat2 (pre ++ [1])).length c ∧ (nat2 (pre ++ [1])).length ≤ c ∧ c ≤ maxLen ∧ RdR nrow 1 wr w.heap.size A (nat2 (pre ++ [1]))) := Lib.hid (HO.out.read (fun _ => rfl))
      have HSM := Lib.hid HS.out.small
      clear hB
      go_wp2_with fail
      go_ret2
      obtain ⟨A, c, e, h3, -, h4⟩ := HR.out
      injection e with e1 e2 e3
      subst e1 e3
      have h5 := HSM.out
      rw [nat2_len] at e2 h3
      refine .inr ⟨pre ++ [1], A3, n3, q3, HD.out, rfl, e2.symm, ?_, by omega, h4, HB.out⟩
      rw [e2, List.length_append]
      simp only [List.length_cons, List.length_nil]
      omega
    · have hlt := HS.out.lt
      obtain ⟨b, o, e, -, hb, f0, f1, f2, -⟩ := Ces.at_ HL.out hlt
      subst e
      replace f2 := (hB.cell (p := ⟨b, o + a * 5 + 2, none⟩) hb).trans f2
      rw [l.at_lt hlt] at f2
      obtain ⟨r, hr, hrn⟩ := nat_of (HV.out.rg a hlt)
      have HRT : Hid ((l.at_ a).right.toNat = r) := Lib.hid (by rw [hr]; rfl)
      rw [hr] at f2
      rw [HN.out] at hlt hrn
      have i0 : (0 : Int) ≤ (a : Int) := by omega
      have i1 : (a : Int) < (n : Int) := by omega
      have h1d : ((a : Int) != 1) = true := by simp; omega
      have HCM := Lib.hid (compare_n l n c a r 0 (some ⟨b, o, none⟩) wr HN.out (RdR.below HL.out hB) hlt hrn)
      have hgt := cmpC_ge l a r
      cases hbl : blw l a r with
      | false =>
        rw [hbl] at hgt
        have HD := Lib.hid (HS.out.stop h1 (by rw [HRT.out]; exact hbl))
        have hR := of_decide_eq_true hgt
        clear hgt hbl h1 hB
        generalize cmpC l a r = R at *
        go_wp2_with fail
        refine (HCM.out).mono ?_
        rintro e w2 ⟨rfl, hb2⟩
        have HB2 := Lib.hid (HB.out.trans (hb2.mono HB.out.size))
        clear hb2
        go_wp2_with fail
        go_ret2
        exact .inl ⟨HD.out, rfl, HB2.out⟩
      | true =>
        rw [hbl] at hgt
        have HD := Lib.hid (HS.out.next HV.out h1 (by rw [HRT.out]; exact hbl))
        rw [HRT.out] at HD
        have HRK := Lib.hid (⟨(rnk_iff HV.out HS.out.lt (by rw [HN.out]; exact hrn)).1 hbl, by have := rnk_n (l := l) (a := r) (by rw [HN.out]; exact hrn); have := HN.out; omega⟩ : rnk l a < rnk l r ∧ rnk l r < n)
        have HSM := Lib.hid HS.out.small
        have hR := of_decide_eq_false hgt
        clear hgt hbl h1 hB
        generalize cmpC l a r = R at *
        go_wp2_with fail
        refine (HCM.out).mono ?_
        rintro e w2 ⟨rfl, hb2⟩
        have HB2 := Lib.hid (HB.out.trans (hb2.mono HB.out.size))
        have HO2 := Lib.hid (HO.out.below hb2)
        have hsz := HB2.out.size
        clear hb2
        go_wp2_with (at_builtin; refine wpList_pushR RowT.nu rfl (.tmp 20) (.tmp 22) rfl w.heap.size (.slice A3 n3 q3) (nat2 (pre ++ [a])) w2 (r : Int) _ rfl (by simp [Act.eval]) HO2.out (by simp [Act.eval]) (by have := HSM.out; have := HN.out; rw [nat2_len, List.length_append]; simp only [List.length_cons, List.length_nil]; omega) hsz ?_; intro v5 w5 ho5 hg5 hat5; obtain ⟨A5, n5, q5, hv5⟩ := own_sh ho5; subst hv5; have HO5 := Lib.hid ho5; have HG5 := Lib.hid (HB2.out.trans (grown_below hg5 hsz (fun j e => (HO2.out.lt j e).1))); clear ho5 hg5 hat5)
        refine ⟨⟨r, pre ++ [a], _, rfl, rfl, (by first | rfl | trivial), HD, ?_, HG5.out⟩, ?_⟩
        · have := HO5.out
          rwa [show nat2 (pre ++ [a]) ++ [(r : Int)] = nat2 (pre ++ [a] ++ [r]) by simp [nat2]] at this
        · have := HRK.out
          simp only [intOf, Int.toNat_natCast]
          omega
end Lk
end
section
open Go.RowKit Go.Maps
namespace Lk

set_option maxRecDepth 100000 in
set_option maxHeartbeats 6400000 in
theorem holds_any (x : Po) (i : Nat) (w : World) : Calls Tryz.prog 113 #[x.val, .int .i64 (i : Int)] w (BoolI (holdB x i = true) w) := by
  obtain ⟨k, c, ph, pd, sc, nx, rs⟩ := x
  have HX := Lib.hid (Has.new w 63 #[.int .i64 k, .int .i64 c, .int .i64 ph, .int .i64 pd, .int .i64 sc, .int .i64 nx, .bool rs])
  have HB := Lib.hid ((Below.refl w.heap.size w).alloc (Nat.le_refl _) (.cells #[.int .i64 k, .int .i64 c, .int .i64 ph, .int .i64 pd, .int .i64 sc, .int .i64 nx, .bool rs] 63))
  have x0 := HX.out.cell 0
  have x2 := HX.out.cell 2
  have x3 := HX.out.cell 3
  have x4 := HX.out.cell 4
  have x5 := HX.out.cell 5
  by_cases hk : k = 3
  · subst hk
    go_enter Tryz.func113, Tryz.ntmps113
    go_wp2_with fail
    go_ret
    exact ⟨false, rfl, by unfold holdB; simp, HB.out⟩
  by_cases p0 : ph = 0
  · subst p0
    go_enter Tryz.func113, Tryz.ntmps113
    go_wp2_with fail
    go_ret
    exact ⟨false, rfl, by unfold holdB; simp, HB.out⟩
  by_cases p1 : ph = 1
  · subst p1
    go_enter Tryz.func113, Tryz.ntmps113
    go_wp2_with fail
    go_ret
    exact ⟨false, rfl, by unfold holdB; simp, HB.out⟩
  by_cases p2 : ph = 2
  · subst p2
    go_enter Tryz.func113, Tryz.ntmps113
    go_wp2_with fail
    go_ret
    exact ⟨false, rfl, by unfold holdB; simp, HB.out⟩
  by_cases p18 : ph = 18
  · subst p18
    go_enter Tryz.func113, Tryz.ntmps113
    go_wp2_with fail
    go_ret
    exact ⟨false, rfl, by unfold holdB; simp, HB.out⟩
  by_cases p3 : ph = 3
  · subst p3
    by_cases q1 : pd = (i : Int)
    · subst q1
      go_enter Tryz.func113, Tryz.ntmps113
      go_wp2_with fail
      go_ret
      exact ⟨true, rfl, by unfold holdB; simp [hk], HB.out⟩
    · have q1d : decide ((i : Int) = pd) = false := decide_eq_false fun e => q1 e.symm
      have q1e : ((i : Int) == pd) = false := by simpa using fun e => q1 e.symm
      go_enter Tryz.func113, Tryz.ntmps113
      go_wp2_with fail
      go_ret
      exact ⟨false, rfl, by unfold holdB; simp [hk, q1], HB.out⟩
  by_cases p10 : ph = 10
  · subst p10
    by_cases q1 : pd = (i : Int)
    · subst q1
      by_cases q2 : sc = (i : Int)
      · subst q2
        by_cases q3 : nx = (i : Int)
        · subst q3
          go_enter Tryz.func113, Tryz.ntmps113
          go_wp2_with fail
          go_ret
          exact ⟨true, rfl, by unfold holdB; simp [hk], HB.out⟩
        · have q3d : decide ((i : Int) = nx) = false := decide_eq_false fun e => q3 e.symm
          have q3e : ((i : Int) == nx) = false := by simpa using fun e => q3 e.symm
          go_enter Tryz.func113, Tryz.ntmps113
          go_wp2_with fail
          go_ret
          exact ⟨true, rfl, by unfold holdB; simp [hk, q3], HB.out⟩
      · have q2d : decide ((i : Int) = sc) = false := decide_eq_false fun e => q2 e.symm
        have q2e : ((i : Int) == sc) = false := by simpa using fun e => q2 e.symm
        by_cases q3 : nx = (i : Int)
        · subst q3
          go_enter Tryz.func113, Tryz.ntmps113
          go_wp2_with fail
          go_ret
          exact ⟨true, rfl, by unfold holdB; simp [hk, q2], HB.out⟩
        · have q3d : decide ((i : Int) = nx) = false := decide_eq_false fun e => q3 e.symm
          have q3e : ((i : Int) == nx) = false := by simpa using fun e => q3 e.symm
          go_enter Tryz.func113, Tryz.ntmps113
          go_wp2_with fail
          go_ret
          exact ⟨true, rfl, by unfold holdB; simp [hk, q2, q3], HB.out⟩
    · have q1d : decide ((i : Int) = pd) = false := decide_eq_false fun e => q1 e.symm
      have q1e : ((i : Int) == pd) = false := by simpa using fun e => q1 e.symm
      by_cases q2 : sc = (i : Int)
      · subst q2
        by_cases q3 : nx = (i : Int)
        · subst q3
          go_enter Tryz.func113, Tryz.ntmps113
          go_wp2_with fail
          go_ret
          exact ⟨true, rfl, by unfold holdB; simp [hk, q1], HB.out⟩
        · have q3d : decide ((i : Int) = nx) = false := decide_eq_false fun e => q3 e.symm
          have q3e : ((i : Int) == nx) = false := by simpa using fun e => q3 e.symm
          go_enter Tryz.func113, Tryz.ntmps113
          go_wp2_with fail
          go_ret
          exact ⟨true, rfl, by unfold holdB; simp [hk, q1, q3], HB.out⟩
      · have q2d : decide ((i : Int) = sc) = false := decide_eq_false fun e => q2 e.symm
        have q2e : ((i : Int) == sc) = false := by simpa using fun e => q2 e.symm
        by_cases q3 : nx = (i : Int)
        · subst q3
          by_cases q4 : i = 0
          · subst q4
            have q1z : ((0 : Int) == pd) = false := by simp; omega
            have q2z : ((0 : Int) == sc) = false := by simp; omega
            go_enter Tryz.func113, Tryz.ntmps113
            go_wp2_with fail
            go_ret
            exact ⟨false, rfl, by unfold holdB; simp [hk]; omega, HB.out⟩
          · have q5 : ((i : Int) != 0) = true := by simp; omega
            go_enter Tryz.func113, Tryz.ntmps113
            go_wp2_with fail
            go_ret
            exact ⟨true, rfl, by unfold holdB; simp [hk, q1, q2]; try omega, HB.out⟩
        · have q3d : decide ((i : Int) = nx) = false := decide_eq_false fun e => q3 e.symm
          have q3e : ((i : Int) == nx) = false := by simpa using fun e => q3 e.symm
          go_enter Tryz.func113, Tryz.ntmps113
          go_wp2_with fail
          go_ret
          exact ⟨false, rfl, by unfold holdB; simp [hk, q1, q2, q3], HB.out⟩
  by_cases p11 : ph = 11
  · subst p11
    by_cases q1 : pd = (i : Int)
    · subst q1
      by_cases q2 : sc = (i : Int)
      · subst q2
        by_cases q3 : nx = (i : Int)
        · subst q3
          go_enter Tryz.func113, Tryz.ntmps113
          go_wp2_with fail
          go_ret
          exact ⟨true, rfl, by unfold holdB; simp [hk], HB.out⟩
        · have q3d : decide ((i : Int) = nx) = false := decide_eq_false fun e => q3 e.symm
          have q3e : ((i : Int) == nx) = false := by simpa using fun e => q3 e.symm
          go_enter Tryz.func113, Tryz.ntmps113
          go_wp2_with fail
          go_ret
          exact ⟨true, rfl, by unfold holdB; simp [hk, q3], HB.out⟩
      · have q2d : decide ((i : Int) = sc) = false := decide_eq_false fun e => q2 e.symm
        have q2e : ((i : Int) == sc) = false := by simpa using fun e => q2 e.symm
        by_cases q3 : nx = (i : Int)
        · subst q3
          go_enter Tryz.func113, Tryz.ntmps113
          go_wp2_with fail
          go_ret
          exact ⟨true, rfl, by unfold holdB; simp [hk, q2], HB.out⟩
        · have q3d : decide ((i : Int) = nx) = false := decide_eq_false fun e => q3 e.symm
          have q3e : ((i : Int) == nx) = false := by simpa using fun e => q3 e.symm
          go_enter Tryz.func113, Tryz.ntmps113
          go_wp2_with fail
          go_ret
          exact ⟨true, rfl, by unfold holdB; simp [hk, q2, q3], HB.out⟩
    · have q1d : decide ((i : Int) = pd) = false := decide_eq_false fun e => q1 e.symm
      have q1e : ((i : Int) == pd) = false := by simpa using fun e => q1 e.symm
      by_cases q2 : sc = (i : Int)
      · subst q2
        by_cases q3 : nx = (i : Int)
        · subst q3
          go_enter Tryz.func113, Tryz.ntmps113
          go_wp2_with fail
          go_ret
          exact ⟨true, rfl, by unfold holdB; simp [hk, q1], HB.out⟩
        · have q3d : decide ((i : Int) = nx) = false := decide_eq_false fun e => q3 e.symm
          have q3e : ((i : Int) == nx) = false := by simpa using fun e => q3 e.symm
          go_enter Tryz.func113, Tryz.ntmps113
          go_wp2_with fail
          go_ret
          exact ⟨true, rfl, by unfold holdB; simp [hk, q1, q3], HB.out⟩
      · have q2d : decide ((i : Int) = sc) = false := decide_eq_false fun e => q2 e.symm
        have q2e : ((i : Int) == sc) = false := by simpa using fun e => q2 e.symm
        by_cases q3 : nx = (i : Int)
        · subst q3
          by_cases q4 : i = 0
          · subst q4
            have q1z : ((0 : Int) == pd) = false := by simp; omega
            have q2z : ((0 : Int) == sc) = false := by simp; omega
            go_enter Tryz.func113, Tryz.ntmps113
            go_wp2_with fail
            go_ret
            exact ⟨false, rfl, by unfold holdB; simp [hk]; omega, HB.out⟩
          · have q5 : ((i : Int) != 0) = true := by simp; omega
            go_enter Tryz.func113, Tryz.ntmps113
            go_wp2_with fail
            go_ret
            exact ⟨true, rfl, by unfold holdB; simp [hk, q1, q2]; try omega, HB.out⟩
        · have q3d : decide ((i : Int) = nx) = false := decide_eq_false fun e => q3 e.symm
          have q3e : ((i : Int) == nx) = false := by simpa using fun e => q3 e.symm
          go_enter Tryz.func113, Tryz.ntmps113
          go_wp2_with fail
          go_ret
          exact ⟨false, rfl, by unfold holdB; simp [hk, q1, q2, q3], HB.out⟩
  by_cases p12 : ph = 12
  · subst p12
    by_cases q1 : pd = (i : Int)
    · subst q1
      by_cases q2 : sc = (i : Int)
      · subst q2
        by_cases q3 : nx = (i : Int)
        · subst q3
          go_enter Tryz.func113, Tryz.ntmps113
          go_wp2_with fail
          go_ret
          exact ⟨true, rfl, by unfold holdB; simp [hk], HB.out⟩
        · have q3d : decide ((i : Int) = nx) = false := decide_eq_false fun e => q3 e.symm
          have q3e : ((i : Int) == nx) = false := by simpa using fun e => q3 e.symm
          go_enter Tryz.func113, Tryz.ntmps113
          go_wp2_with fail
          go_ret
          exact ⟨true, rfl, by unfold holdB; simp [hk, q3], HB.out⟩
      · have q2d : decide ((i : Int) = sc) = false := decide_eq_false fun e => q2 e.symm
        have q2e : ((i : Int) == sc) = false := by simpa using fun e => q2 e.symm
        by_cases q3 : nx = (i : Int)
        · subst q3
          go_enter Tryz.func113, Tryz.ntmps113
          go_wp2_with fail
          go_ret
          exact ⟨true, rfl, by unfold holdB; simp [hk, q2], HB.out⟩
        · have q3d : decide ((i : Int) = nx) = false := decide_eq_false fun e => q3 e.symm
          have q3e : ((i : Int) == nx) = false := by simpa using fun e => q3 e.symm
          go_enter Tryz.func113, Tryz.ntmps113
          go_wp2_with fail
          go_ret
          exact ⟨true, rfl, by unfold holdB; simp [hk, q2, q3], HB.out⟩
    · have q1d : decide ((i : Int) = pd) = false := decide_eq_false fun e => q1 e.symm
      have q1e : ((i : Int) == pd) = false := by simpa using fun e => q1 e.symm
      by_cases q2 : sc = (i : Int)
      · subst q2
        by_cases q3 : nx = (i : Int)
        · subst q3
          go_enter Tryz.func113, Tryz.ntmps113
          go_wp2_with fail
          go_ret
          exact ⟨true, rfl, by unfold holdB; simp [hk, q1], HB.out⟩
        · have q3d : decide ((i : Int) = nx) = false := decide_eq_false fun e => q3 e.symm
          have q3e : ((i : Int) == nx) = false := by simpa using fun e => q3 e.symm
          go_enter Tryz.func113, Tryz.ntmps113
          go_wp2_with fail
          go_ret
          exact ⟨true, rfl, by unfold holdB; simp [hk, q1, q3], HB.out⟩
      · have q2d : decide ((i : Int) = sc) = false := decide_eq_false fun e => q2 e.symm
        have q2e : ((i : Int) == sc) = false := by simpa using fun e => q2 e.symm
        by_cases q3 : nx = (i : Int)
        · subst q3
          by_cases q4 : i = 0
          · subst q4
            have q1z : ((0 : Int) == pd) = false := by simp; omega
            have q2z : ((0 : Int) == sc) = false := by simp; omega
            go_enter Tryz.func113, Tryz.ntmps113
            go_wp2_with fail
            go_ret
            exact ⟨false, rfl, by unfold holdB; simp [hk]; omega, HB.out⟩
          · have q5 : ((i : Int) != 0) = true := by simp; omega
            go_enter Tryz.func113, Tryz.ntmps113
            go_wp2_with fail
            go_ret
            exact ⟨true, rfl, by unfold holdB; simp [hk, q1, q2]; try omega, HB.out⟩
        · have q3d : decide ((i : Int) = nx) = false := decide_eq_false fun e => q3 e.symm
          have q3e : ((i : Int) == nx) = false := by simpa using fun e => q3 e.symm
          go_enter Tryz.func113, Tryz.ntmps113
          go_wp2_with fail
          go_ret
          exact ⟨false, rfl, by unfold holdB; simp [hk, q1, q2, q3], HB.out⟩
  by_cases p13 : ph = 13
  · subst p13
    by_cases q1 : pd = (i : Int)
    · subst q1
      by_cases q2 : sc = (i : Int)
      · subst q2
        by_cases q3 : nx = (i : Int)
        · subst q3
          go_enter Tryz.func113, Tryz.ntmps113
          go_wp2_with fail
          go_ret
          exact ⟨true, rfl, by unfold holdB; simp [hk], HB.out⟩
        · have q3d : decide ((i : Int) = nx) = false := decide_eq_false fun e => q3 e.symm
          have q3e : ((i : Int) == nx) = false := by simpa using fun e => q3 e.symm
          go_enter Tryz.func113, Tryz.ntmps113
          go_wp2_with fail
          go_ret
          exact ⟨true, rfl, by unfold holdB; simp [hk, q3], HB.out⟩
      · have q2d : decide ((i : Int) = sc) = false := decide_eq_false fun e => q2 e.symm
        have q2e : ((i : Int) == sc) = false := by simpa using fun e => q2 e.symm
        by_cases q3 : nx = (i : Int)
        · subst q3
          go_enter Tryz.func113, Tryz.ntmps113
          go_wp2_with fail
          go_ret
          exact ⟨true, rfl, by unfold holdB; simp [hk, q2], HB.out⟩
        · have q3d : decide ((i : Int) = nx) = false := decide_eq_false fun e => q3 e.symm
          have q3e : ((i : Int) == nx) = false := by simpa using fun e => q3 e.symm
          go_enter Tryz.func113, Tryz.ntmps113
          go_wp2_with fail
          go_ret
          exact ⟨true, rfl, by unfold holdB; simp [hk, q2, q3], HB.out⟩
    · have q1d : decide ((i : Int) = pd) = false := decide_eq_false fun e => q1 e.symm
      have q1e : ((i : Int) == pd) = false := by simpa using fun e => q1 e.symm
      by_cases q2 : sc = (i : Int)
      · subst q2
        by_cases q3 : nx = (i : Int)
        · subst q3
          go_enter Tryz.func113, Tryz.ntmps113
          go_wp2_with fail
          go_ret
          exact ⟨true, rfl, by unfold holdB; simp [hk, q1], HB.out⟩
        · have q3d : decide ((i : Int) = nx) = false := decide_eq_false fun e => q3 e.symm
          have q3e : ((i : Int) == nx) = false := by simpa using fun e => q3 e.symm
          go_enter Tryz.func113, Tryz.ntmps113
          go_wp2_with fail
          go_ret
          exact ⟨true, rfl, by unfold holdB; simp [hk, q1, q3], HB.out⟩
      · have q2d : decide ((i : Int) = sc) = false := decide_eq_false fun e => q2 e.symm
        have q2e : ((i : Int) == sc) = false := by simpa using fun e => q2 e.symm
        by_cases q3 : nx = (i : Int)
        · subst q3
          by_cases q4 : i = 0
          · subst q4
            have q1z : ((0 : Int) == pd) = false := by simp; omega
            have q2z : ((0 : Int) == sc) = false := by simp; omega
            go_enter Tryz.func113, Tryz.ntmps113
            go_wp2_with fail
            go_ret
            exact ⟨false, rfl, by unfold holdB; simp [hk]; omega, HB.out⟩
          · have q5 : ((i : Int) != 0) = true := by simp; omega
            go_enter Tryz.func113, Tryz.ntmps113
            go_wp2_with fail
            go_ret
            exact ⟨true, rfl, by unfold holdB; simp [hk, q1, q2]; try omega, HB.out⟩
        · have q3d : decide ((i : Int) = nx) = false := decide_eq_false fun e => q3 e.symm
          have q3e : ((i : Int) == nx) = false := by simpa using fun e => q3 e.symm
          go_enter Tryz.func113, Tryz.ntmps113
          go_wp2_with fail
          go_ret
          exact ⟨false, rfl, by unfold holdB; simp [hk, q1, q2, q3], HB.out⟩
  have HN : Hid (¬ (k = 3 ∨ ph = 0 ∨ ph = 18 ∨ ph = 1 ∨ ph = 2)) := Lib.hid (by omega)
  by_cases q1 : pd = (i : Int)
  · subst q1
    by_cases q2 : sc = (i : Int)
    · subst q2
      go_enter Tryz.func113, Tryz.ntmps113
      go_wp2_with fail
      go_ret
      exact ⟨true, rfl, by unfold holdB; rw [if_neg HN.out]; simp; try omega, HB.out⟩
    · have q2d : decide ((i : Int) = sc) = false := decide_eq_false fun e => q2 e.symm
      have q2e : ((i : Int) == sc) = false := by simpa using fun e => q2 e.symm
      go_enter Tryz.func113, Tryz.ntmps113
      go_wp2_with fail
      go_ret
      exact ⟨true, rfl, by unfold holdB; rw [if_neg HN.out]; simp; try omega, HB.out⟩
  · have q1d : decide ((i : Int) = pd) = false := decide_eq_false fun e => q1 e.symm
    have q1e : ((i : Int) == pd) = false := by simpa using fun e => q1 e.symm
    by_cases q2 : sc = (i : Int)
    · subst q2
      go_enter Tryz.func113, Tryz.ntmps113
      go_wp2_with fail
      go_ret
      exact ⟨true, rfl, by unfold holdB; rw [if_neg HN.out]; simp; try omega, HB.out⟩
    · have q2d : decide ((i : Int) = sc) = false := decide_eq_false fun e => q2 e.symm
      have q2e : ((i : Int) == sc) = false := by simpa using fun e => q2 e.symm
      go_enter Tryz.func113, Tryz.ntmps113
      go_wp2_with fail
      go_ret
      exact ⟨false, rfl, by unfold holdB; rw [if_neg HN.out]; simp; try omega, HB.out⟩
end Lk
end
section
open Go.RowKit Go.Maps
namespace Lk

theorem cutOut1_any (x : Po) (g : Nat) (i : Int) (w : World) (hg : w.cell? ⟨g, 0, none⟩ = some (.int .i64 i)) :
    Calls Tryz.prog 142 #[x.val, .pointer (some ⟨g, 0, none⟩)] w (BoolI (x.cell = i ∧ x.phase = 11) w) := by
  obtain ⟨k, c, ph, pd, sc, nx, rs⟩ := x
  have HX := Lib.hid (Has.new w 63 #[.int .i64 k, .int .i64 c, .int .i64 ph, .int .i64 pd, .int .i64 sc, .int .i64 nx, .bool rs])
  have HB := Lib.hid ((Below.refl w.heap.size w).alloc (Nat.le_refl _) (.cells #[.int .i64 k, .int .i64 c, .int .i64 ph, .int .i64 pd, .int .i64 sc, .int .i64 nx, .bool rs] 63))
  have x1 := HX.out.cell 1
  have x2 := HX.out.cell 2
  have hg2 := (HB.out.cell (p := ⟨g, 0, none⟩) (World.block_lt_of_cell? w _ hg)).trans hg
  have hgz : ¬ w.heap.size = g := fun e => by have := World.block_lt_of_cell? w _ hg; simp only at this; omega
  by_cases h1 : c = i
  · subst h1
    by_cases h2 : ph = 11
    · subst h2
      go_enter Tryz.func142, Tryz.ntmps142
      go_wp2_with fail
      go_ret
      exact ⟨true, rfl, by simp, HB.out⟩
    · have e2 : decide (ph = 11) = false := decide_eq_false h2
      go_enter Tryz.func142, Tryz.ntmps142
      go_wp2_with fail
      go_ret
      exact ⟨_, rfl, by simp, HB.out⟩
  · have e1 : (c == i) = false := by simpa using h1
    have e2 : decide (c = i) = false := decide_eq_false h1
    go_enter Tryz.func142, Tryz.ntmps142
    go_wp2_with fail
    go_ret
    exact ⟨false, rfl, by simp [h1], HB.out⟩
theorem locked1_any (x : Ce) (w : World) : Calls Tryz.prog 115 #[x.val] w (BoolI (x.lock ≠ 0) w) := by
  obtain ⟨k, lf, rg, lo, go⟩ := x
  have HX := Lib.hid (Has.new w 66 #[.string k, .int .i64 lf, .int .i64 rg, .int .i64 lo, .bool go])
  have HB := Lib.hid ((Below.refl w.heap.size w).alloc (Nat.le_refl _) (.cells #[.string k, .int .i64 lf, .int .i64 rg, .int .i64 lo, .bool go] 66))
  have x3 := HX.out.cell 3
  go_enter Tryz.func115, Tryz.ntmps115
  go_wp2_with fail
  go_ret
  exact ⟨_, rfl, by simp, HB.out⟩
set_option maxRecDepth 100000 in
set_option maxHeartbeats 1600000 in
theorem pindex_any (A : Option Addr) (l : List Po) (n c lo : Nat) (g : Nat) (i : Int) (w : World) (hn : l.length = n) (h : RdR Po.row 7 w lo A l) (hm : n ≤ maxLen) (hg : w.cell? ⟨g, 0, none⟩ = some (.int .i64 i)) :
    Calls Tryz.prog 160 #[.slice A n c, .func (.func 142) #[] #[.pointer (some ⟨g, 0, none⟩)]] w fun e w' => ∃ R : Int, e = .returned (.int .i64 R) ∧ (R ≥ 0 ↔ ∃ x ∈ l, x.cell = i ∧ x.phase = 11) ∧ Below w.heap.size w w' := by
  have hml : maxLen ≤ 9223372036854775807 := by decide
  have HN := Lib.hid hn
  have HR := Lib.hid h
  have HCL := Lib.hid (fun (x : Po) (W : World) (k : Below w.heap.size w W) => (cutOut1_any x g i W ((k.cell (p := ⟨g, 0, none⟩) (World.block_lt_of_cell? w _ hg)).trans hg) : Calls Tryz.prog 142 #[x.val, .pointer (some ⟨g, 0, none⟩)] W (BoolI (x.cell = i ∧ x.phase = 11) W)))
  clear h hn
  go_enter Tryz.func160, Tryz.ntmps160
  go_wp2_with fail
  go_loopw [8] (fun vk wr => ∃ k : Nat, vk = .int .i64 (k : Int) ∧ k ≤ n ∧ Below w.heap.size w wr ∧ Hid (∀ j (h : j < k) (h2 : j < l.length), ¬ (fun x : Po => x.cell = i ∧ x.phase = 11) l[j])) (fun vk _ => n - (intOf vk).toNat)
  case atStart => exact ⟨0, rfl, by omega, Below.refl _ _, Lib.hid fun j h => by omega⟩
  case round =>
    obtain ⟨k, rfl, hk, hB, HS⟩ := hrel
    by_cases hlt : k < n
    · have k1 : k < l.length := by rw [HN.out]; exact hlt
      obtain ⟨b, o, e, -, hb, fF⟩ := Pos.at_ HR.out k1
      subst e
      obtain ⟨f0, f1, f2, f3, f4, f5, f6⟩ := fF
      replace f0 := (hB.cell (p := ⟨b, o + k * 7, none⟩) hb).trans f0
      replace f1 := (hB.cell (p := ⟨b, o + k * 7 + 1, none⟩) hb).trans f1
      replace f2 := (hB.cell (p := ⟨b, o + k * 7 + 2, none⟩) hb).trans f2
      replace f3 := (hB.cell (p := ⟨b, o + k * 7 + 3, none⟩) hb).trans f3
      replace f4 := (hB.cell (p := ⟨b, o + k * 7 + 4, none⟩) hb).trans f4
      replace f5 := (hB.cell (p := ⟨b, o + k * 7 + 5, none⟩) hb).trans f5
      replace f6 := (hB.cell (p := ⟨b, o + k * 7 + 6, none⟩) hb).trans f6
      have i0 : (0 : Int) ≤ (k : Int) := by omega
      have i1 : (k : Int) < (n : Int) := by omega
      have HM := Lib.hid (List.getElem_mem k1)
      have HNX := Lib.hid (fun (h1 : ¬ (fun x : Po => x.cell = i ∧ x.phase = 11) l[k]) (j : Nat) (h : j < k + 1) (h2 : j < l.length) => (show ¬ (fun x : Po => x.cell = i ∧ x.phase = 11) l[j] from by
        rcases Nat.lt_or_ge j k with h3 | h3
        · exact HS.out j h3 h2
        · obtain rfl : j = k := by omega
          exact h1))
      generalize l[k] = y at *
      have HC2 := Lib.hid (HCL.out y wr hB)
      have HB := Lib.hid hB
      clear k1 HS hB hb
      obtain ⟨xk, xc, xp, xd, xs, xx, xr⟩ := y
      simp only at f0 f1 f2 f3 f4 f5 f6
      by_cases he : (fun x : Po => x.cell = i ∧ x.phase = 11) ⟨xk, xc, xp, xd, xs, xx, xr⟩
      · have HC3 := Lib.hid (HC2.out.mono fun e w' h => h.yes he)
        have HE := Lib.hid he
        clear he HNX HC2
        go_wp2_with fail
        refine (HC3.out).mono ?_
        rintro e w' ⟨rfl, hb5⟩
        have HB5 := Lib.hid (HB.out.trans (hb5.mono HB.out.size))
        clear hb5
        go_wp2_with fail
        go_ret
        exact ⟨_, rfl, ⟨fun _ => ⟨_, HM.out, HE.out⟩, fun _ => by omega⟩, HB5.out⟩
      · have HC3 := Lib.hid (HC2.out.mono fun e w' h => h.no he)
        have HE := Lib.hid (HNX.out he)
        clear he HNX HC2 HM
        go_wp2_with fail
        refine (HC3.out).mono ?_
        rintro e w' ⟨rfl, hb5⟩
        have HB5 := Lib.hid (HB.out.trans (hb5.mono HB.out.size))
        clear hb5
        go_wp2_with fail
        exact ⟨⟨k + 1, by go_num, hlt, HB5.out, Lib.hid HE.out⟩, by simp [intOf]; omega⟩
    · have HB := Lib.hid hB
      clear hB
      go_wp2_with fail
      go_ret
      refine ⟨-1, rfl, ⟨fun q => by omega, fun q => ?_⟩, HB.out⟩
      obtain ⟨x, hx, q⟩ := q
      obtain ⟨j, hj, rfl⟩ := List.mem_iff_getElem.1 hx
      exact absurd q (HS.out j (by have := HN.out; omega) hj)
theorem pcontains_any (A : Option Addr) (l : List Po) (n c lo : Nat) (g : Nat) (i : Int) (w : World) (hn : l.length = n) (h : RdR Po.row 7 w lo A l) (hm : n ≤ maxLen) (hg : w.cell? ⟨g, 0, none⟩ = some (.int .i64 i)) :
    Calls Tryz.prog 141 #[.slice A n c, .func (.func 142) #[] #[.pointer (some ⟨g, 0, none⟩)]] w (BoolI (∃ x ∈ l, x.cell = i ∧ x.phase = 11) w) := by
  have HI := Lib.hid (pindex_any A l n c lo g i w hn h hm hg)
  clear h hn
  go_enter Tryz.func141, Tryz.ntmps141
  go_wp2_with fail
  refine (HI.out).mono ?_
  rintro e w1 ⟨R, rfl, hr, hb1⟩
  have HR := Lib.hid hr
  have HB := Lib.hid hb1
  clear hr hb1
  go_wp2_with fail
  go_ret
  refine ⟨decide (R ≥ 0), rfl, ?_, HB.out⟩
  rw [decide_eq_true_iff]
  exact HR.out
set_option maxRecDepth 100000 in
set_option maxHeartbeats 1600000 in
theorem cindex_any (A : Option Addr) (l : List Ce) (n c lo : Nat) (w : World) (hn : l.length = n) (h : RdR Ce.row 5 w lo A l) (hm : n ≤ maxLen) :
    Calls Tryz.prog 143 #[.slice A n c, .func (.func 115) #[] #[]] w fun e w' => ∃ R : Int, e = .returned (.int .i64 R) ∧ (R ≥ 0 ↔ ∃ x ∈ l, x.lock ≠ 0) ∧ Below w.heap.size w w' := by
  have hml : maxLen ≤ 9223372036854775807 := by decide
  have HN := Lib.hid hn
  have HR := Lib.hid h
  have HCL := Lib.hid (fun (x : Ce) (W : World) (k : Below w.heap.size w W) => (locked1_any x W : Calls Tryz.prog 115 #[x.val] W (BoolI (x.lock ≠ 0) W)))
  clear h hn
  go_enter Tryz.func143, Tryz.ntmps143
  go_wp2_with fail
  go_loopw [8] (fun vk wr => ∃ k : Nat, vk = .int .i64 (k : Int) ∧ k ≤ n ∧ Below w.heap.size w wr ∧ Hid (∀ j (h : j < k) (h2 : j < l.length), ¬ (fun x : Ce => x.lock ≠ 0) l[j])) (fun vk _ => n - (intOf vk).toNat)
  case atStart => exact ⟨0, rfl, by omega, Below.refl _ _, Lib.hid fun j h => by omega⟩
  case round =>
    obtain ⟨k, rfl, hk, hB, HS⟩ := hrel
    by_cases hlt : k < n
    · have k1 : k < l.length := by rw [HN.out]; exact hlt
      obtain ⟨b, o, e, -, hb, fF⟩ := Ces.at_ HR.out k1
      subst e
      obtain ⟨f0, f1, f2, f3, f4⟩ := fF
      replace f0 := (hB.cell (p := ⟨b, o + k * 5, none⟩) hb).trans f0
      replace f1 := (hB.cell (p := ⟨b, o + k * 5 + 1, none⟩) hb).trans f1
      replace f2 := (hB.cell (p := ⟨b, o + k * 5 + 2, none⟩) hb).trans f2
      replace f3 := (hB.cell (p := ⟨b, o + k * 5 + 3, none⟩) hb).trans f3
      replace f4 := (hB.cell (p := ⟨b, o + k * 5 + 4, none⟩) hb).trans f4
      have i0 : (0 : Int) ≤ (k : Int) := by omega
      have i1 : (k : Int) < (n : Int) := by omega
      have HM := Lib.hid (List.getElem_mem k1)
      have HNX := Lib.hid (fun (h1 : ¬ (fun x : Ce => x.lock ≠ 0) l[k]) (j : Nat) (h : j < k + 1) (h2 : j < l.length) => (show ¬ (fun x : Ce => x.lock ≠ 0) l[j] from by
        rcases Nat.lt_or_ge j k with h3 | h3
        · exact HS.out j h3 h2
        · obtain rfl : j = k := by omega
          exact h1))
      generalize l[k] = y at *
      have HC2 := Lib.hid (HCL.out y wr hB)
      have HB := Lib.hid hB
      clear k1 HS hB hb
      obtain ⟨xk, xl, xr, xo, xg⟩ := y
      simp only at f0 f1 f2 f3 f4
      by_cases he : (fun x : Ce => x.lock ≠ 0) ⟨xk, xl, xr, xo, xg⟩
      · have HC3 := Lib.hid (HC2.out.mono fun e w' h => h.yes he)
        have HE := Lib.hid he
        clear he HNX HC2
        go_wp2_with fail
        refine (HC3.out).mono ?_
        rintro e w' ⟨rfl, hb5⟩
        have HB5 := Lib.hid (HB.out.trans (hb5.mono HB.out.size))
        clear hb5
        go_wp2_with fail
        go_ret
        exact ⟨_, rfl, ⟨fun _ => ⟨_, HM.out, HE.out⟩, fun _ => by omega⟩, HB5.out⟩
      · have HC3 := Lib.hid (HC2.out.mono fun e w' h => h.no he)
        have HE := Lib.hid (HNX.out he)
        clear he HNX HC2 HM
        go_wp2_with fail
        refine (HC3.out).mono ?_
        rintro e w' ⟨rfl, hb5⟩
        have HB5 := Lib.hid (HB.out.trans (hb5.mono HB.out.size))
        clear hb5
        go_wp2_with fail
        exact ⟨⟨k + 1, by go_num, hlt, HB5.out, Lib.hid HE.out⟩, by simp [intOf]; omega⟩
    · have HB := Lib.hid hB
      clear hB
      go_wp2_with fail
      go_ret
      refine ⟨-1, rfl, ⟨fun q => by omega, fun q => ?_⟩, HB.out⟩
      obtain ⟨x, hx, q⟩ := q
      obtain ⟨j, hj, rfl⟩ := List.mem_iff_getElem.1 hx
      exact absurd q (HS.out j (by have := HN.out; omega) hj)
theorem ccontains_any (A : Option Addr) (l : List Ce) (n c lo : Nat) (w : World) (hn : l.length = n) (h : RdR Ce.row 5 w lo A l) (hm : n ≤ maxLen) :
    Calls Tryz.prog 114 #[.slice A n c, .func (.func 115) #[] #[]] w (BoolI (∃ x ∈ l, x.lock ≠ 0) w) := by
  have HI := Lib.hid (cindex_any A l n c lo w hn h hm)
  clear h hn
  go_enter Tryz.func114, Tryz.ntmps114
  go_wp2_with fail
  refine (HI.out).mono ?_
  rintro e w1 ⟨R, rfl, hr, hb1⟩
  have HR := Lib.hid hr
  have HB := Lib.hid hb1
  clear hr hb1
  go_wp2_with fail
  go_ret
  refine ⟨decide (R ≥ 0), rfl, ?_, HB.out⟩
  rw [decide_eq_true_iff]
  exact HR.out
theorem isCutOut_any (A : Option Addr) (l : List Po) (n c : Nat) (i : Nat) (w : World) (hn : l.length = n) (h : Pos w 0 A l) (hm : n ≤ maxLen) :
    Calls Tryz.prog 112 #[.slice A n c, .int .i64 (i : Int)] w (BoolI (∃ x ∈ l, x.cell = (i : Int) ∧ x.phase = 11) w) := by
  have HB := Lib.hid ((Below.refl w.heap.size w).alloc (Nat.le_refl _) (.cells #[.int .i64 (i : Int)] 3))
  have HI := Lib.hid (pcontains_any A l n c 0 w.heap.size (i : Int) _ hn (RdR.below h HB.out) hm ((Has.new w 3 #[.int .i64 (i : Int)]).cell 0))
  clear h hn
  go_enter Tryz.func112, Tryz.ntmps112
  go_wp2_with fail
  refine (HI.out).mono ?_
  rintro e w1 ⟨b, rfl, hb, hb1⟩
  have HR := Lib.hid hb
  have HB1 := Lib.hid (HB.out.trans (hb1.mono HB.out.size))
  clear hb hb1
  go_wp2_with fail
  go_ret
  exact ⟨b, rfl, HR.out, HB1.out⟩
theorem anyLocked_any (A : Option Addr) (l : List Ce) (n c : Nat) (w : World) (hn : l.length = n) (h : Ces w 0 A l) (hm : n ≤ maxLen) :
    Calls Tryz.prog 64 #[.slice A n c] w (BoolI (∃ x ∈ l, x.lock ≠ 0) w) := by
  have HI := Lib.hid (ccontains_any A l n c 0 w hn h hm)
  clear h hn
  go_enter Tryz.func64, Tryz.ntmps64
  go_wp2_with fail
  refine (HI.out).mono ?_
  rintro e w1 ⟨b, rfl, hb, hb1⟩
  have HR := Lib.hid hb
  have HB1 := Lib.hid hb1
  clear hb hb1
  go_wp2_with fail
  go_ret
  exact ⟨b, rfl, HR.out, HB1.out⟩
end Lk
end
section
open Go.RowKit Go.Maps
namespace Lk

theorem unlB_iff (l : Ls) (i : Nat) : (∃ x ∈ l.ps, x.cell = (i : Int) ∧ x.phase = 11) ↔ unlB l i = true := by
  unfold unlB
  rw [List.any_eq_true]
  constructor
  · rintro ⟨x, hx, h1, h2⟩
    exact ⟨x, hx, by simp [h1, h2]⟩
  · rintro ⟨x, hx, h⟩
    simp only [Bool.and_eq_true, decide_eq_true_eq] at h
    exact ⟨x, hx, h.2, h.1⟩
def mlOk (l : Ls) (ch : List Nat) (i : Nat) : Prop := (i < 2 → (l.at_ i).gone = false) ∧ (2 ≤ i → (l.at_ i).gone = true → i ∈ ch → unlB l i = true) ∧ (2 ≤ i → (l.at_ i).gone = false → i ∈ ch)
set_option maxRecDepth 100000 in
set_option maxHeartbeats 6400000 in
theorem membersLinked_any (A1 A2 A3 : Option Addr) (l : Ls) (ch : List Nat) (n m k c1 c2 c3 : Nat) (w : World) (hn : l.cs.length = n) (hm : l.ps.length = m) (hk : ch.length = k) (h : RdL w 0 A1 A2 l) (hc : RdR nrow 1 w 0 A3 (nat2 ch)) (n66 : n ≤ 66) (m8 : m ≤ 8) (k66 : k ≤ 66) :
    Calls Tryz.prog 62 #[.agg #[.slice A1 n c1, .slice A2 m c2], .slice A3 k c3] w (BoolI (∀ i, i < l.cs.length → mlOk l ch i) w) := by
  have HB0 := Lib.hid ((Below.refl w.heap.size w).alloc (Nat.le_refl _) (.cells #[.slice A1 n c1, .slice A2 m c2] 28))
  have HX0 := Lib.hid (Has.new w 28 #[.slice A1 n c1, .slice A2 m c2])
  have HN := Lib.hid hn
  have HM := Lib.hid hm
  have HK := Lib.hid (show (nat2 ch).length = k by rw [nat2_len]; exact hk)
  have HL := Lib.hid h
  have HC := Lib.hid hc
  obtain ⟨B, hB⟩ : ∃ B, B = w.heap.size := ⟨_, rfl⟩
  have HBB := Lib.hid hB
  have HSZ : Hid ((w.alloc (.cells #[.slice A1 n c1, .slice A2 m c2] 28)).heap.size = B + 1) := Lib.hid (by rw [World.size_alloc, hB])
  have x0 := HX0.out.cell 0
  have x1 := HX0.out.cell 1
  rw [← hB] at HB0 HX0 x0 x1
  clear h hn hm hc hk
  go_enter Tryz.func62, Tryz.ntmps62
  go_upto_region 1 with fail
  rw [← hB]
  generalize w.alloc (.cells #[.slice A1 n c1, .slice A2 m c2] 28) = W0 at *
  clear hB
  go_wp2_with fail
  go_loopw [10] (fun vi wr => ∃ (i : Nat), vi = .int .i64 (i : Int) ∧ i ≤ n ∧ Has wr B 28 #[.slice A1 n c1, .slice A2 m c2] ∧ Below B w wr ∧ B + 1 ≤ wr.heap.size ∧ Hid (∀ j, j < i → mlOk l ch j)) (fun vi _ => n - (intOf vi).toNat)
  case atStart => exact ⟨0, rfl, by omega, HX0.out, HB0.out, by rw [HSZ.out]; omega, Lib.hid fun j h => by omega⟩
  case round =>
    obtain ⟨i, rfl, hi, hX, hB, hSz, HS⟩ := hrel
    clear HB0 HX0 HSZ x0 x1
    have HX := Lib.hid hX
    have HB := Lib.hid hB
    have x0 := hX.cell 0
    have x1 := hX.cell 1
    clear hX
    by_cases hlt : i < n
    · have i2 : i < l.cs.length := by rw [HN.out]; exact hlt
      obtain ⟨b, o, e, -, hb, f0, f1, f2, f3, f4⟩ := HL.out.cell i2
      subst e
      rw [← HBB.out] at hb
      replace f0 := (hB.cell (p := ⟨b, o + i * 5, none⟩) hb).trans f0
      replace f1 := (hB.cell (p := ⟨b, o + i * 5 + 1, none⟩) hb).trans f1
      replace f2 := (hB.cell (p := ⟨b, o + i * 5 + 2, none⟩) hb).trans f2
      replace f3 := (hB.cell (p := ⟨b, o + i * 5 + 3, none⟩) hb).trans f3
      replace f4 := (hB.cell (p := ⟨b, o + i * 5 + 4, none⟩) hb).trans f4
      have i0 : (0 : Int) ≤ (i : Int) := by omega
      have i1 : (i : Int) < (n : Int) := by omega
      have HMO : Hid (mlOk l ch i ↔ (i < 2 → (l.at_ i).gone = false) ∧ (2 ≤ i → (l.at_ i).gone = true → i ∈ ch → unlB l i = true) ∧ (2 ≤ i → (l.at_ i).gone = false → i ∈ ch)) := Lib.hid Iff.rfl
      have HBAD : Hid (¬ mlOk l ch i → ¬ ∀ i, i < l.cs.length → mlOk l ch i) := Lib.hid fun h1 h2 => h1 (h2 i i2)
      have HNX : Hid (mlOk l ch i → ∀ j, j < i + 1 → mlOk l ch j) := Lib.hid fun h1 j h2 => by
        rcases Nat.lt_or_ge j i with h3 | h3
        · exact HS.out j h3
        · obtain rfl : j = i := by omega
          exact h1
      generalize l.at_ i = x at *
      obtain ⟨xk, xl, xr, xo, xg⟩ := x
      simp only at f0 f1 f2 f3 f4 HMO
      have HXN := Lib.hid (Has.new wr 66 #[.string xk, .int .i64 xl, .int .i64 xr, .int .i64 xo, .bool xg])
      have hbn := (Below.refl wr.heap.size wr).alloc (Nat.le_refl _) (.cells #[.string xk, .int .i64 xl, .int .i64 xr, .int .i64 xo, .bool xg] 66)
      have HX2 := Lib.hid (HX.out.below hbn)
      have HB2 := Lib.hid (HB.out.trans (hbn.mono (by omega)))
      have hS2 : B + 1 ≤ (wr.alloc (.cells #[.string xk, .int .i64 xl, .int .i64 xr, .int .i64 xo, .bool xg] 66)).heap.size := by rw [World.size_alloc]; omega
      clear hbn HX HB hB HS i2 hb
      go_upto_region 4 with fail
      clear f0 f1 f2 f3 f4 x0 x1
      generalize wr.alloc (.cells #[.string xk, .int .i64 xl, .int .i64 xr, .int .i64 xo, .bool xg] 66) = W at *
      have x0 := HX2.out.cell 0
      have x1 := HX2.out.cell 1
      have y4 := HXN.out.cell 4
      by_cases hi2 : i < 2
      · have hid : (i : Int) < 2 := by omega
        cases xg with
        | true =>
          have HBB2 := Lib.hid (HBAD.out fun q => by have := (HMO.out.1 q).1 hi2; simp at this)
          clear HMO HBAD HNX
          go_wp2_with fail
          go_ret
          exact ⟨false, rfl, ⟨fun h => Bool.noConfusion h, fun h => (HBB2.out h).elim⟩, by rw [← HBB.out]; exact HB2.out⟩
        | false =>
          have HOK := Lib.hid (HNX.out (HMO.out.2 ⟨fun _ => rfl, fun q => by omega, fun q => by omega⟩))
          clear HMO HBAD HNX
          go_wp2_with fail
          exact ⟨⟨i + 1, by go_num, hlt, HX2.out, HB2.out, hS2, HOK⟩, by simp [intOf]; omega⟩
      · have hid : ¬ ((i : Int) < 2) := by omega
        have HCT := Lib.hid (contains_any A3 (nat2 ch) k c3 0 (i : Int) W HK.out (RdR.below HC.out (by rw [← HBB.out]; exact HB2.out)) (by unfold maxLen; omega))
        cases xg with
        | true =>
          by_cases hin : i ∈ ch
          · have H1 := Lib.hid (HCT.out.mono fun e w' h => h.yes ((nat2_mem ch i).2 hin))
            have HCU := Lib.hid (isCutOut_any A2 l.ps m c2 i W HM.out (RdR.below HL.out.ps (by rw [← HBB.out]; exact HB2.out)) (by unfold maxLen; omega))
            cases hu : unlB l i with
            | true =>
              have H2 := Lib.hid (HCU.out.mono fun e w' h => h.yes ((unlB_iff l i).2 hu))
              have HOK := Lib.hid (HNX.out (HMO.out.2 ⟨fun q => absurd q hi2, fun _ _ _ => hu, fun _ q => Bool.noConfusion q⟩))
              clear HMO HBAD HNX HCT HCU hu hin
              go_wp2_with (go_at_call 111; with_reducible refine (H1.out).mono ?_; rintro e w' ⟨rfl, rfl⟩)
              refine (H2.out).mono ?_
              rintro e w5 ⟨rfl, hb5⟩
              have HX5 := Lib.hid (HX2.out.below hb5)
              have HB5 := Lib.hid (HB2.out.trans (hb5.mono (by omega)))
              have hS5 : B + 1 ≤ w5.heap.size := Nat.le_trans hS2 hb5.size
              clear hb5
              go_wp2_with fail
              exact ⟨⟨i + 1, by go_num, hlt, HX5.out, HB5.out, hS5, HOK⟩, by simp [intOf]; omega⟩
            | false =>
              have H2 := Lib.hid (HCU.out.mono fun e w' h => h.no (fun q => by rw [(unlB_iff l i).1 q] at hu; cases hu))
              have HBB2 := Lib.hid (HBAD.out fun q => by have := (HMO.out.1 q).2.1 (by omega) rfl hin; rw [hu] at this; cases this)
              clear HMO HBAD HNX HCT HCU hu hin
              go_wp2_with (go_at_call 111; with_reducible refine (H1.out).mono ?_; rintro e w' ⟨rfl, rfl⟩)
              refine (H2.out).mono ?_
              rintro e w5 ⟨rfl, hb5⟩
              have HB5 := Lib.hid (HB2.out.trans (hb5.mono (by omega)))
              clear hb5
              go_wp2_with fail
              go_ret
              exact ⟨false, rfl, ⟨fun h => Bool.noConfusion h, fun h => (HBB2.out h).elim⟩, by rw [← HBB.out]; exact HB5.out⟩
          · have H1 := Lib.hid (HCT.out.mono fun e w' h => h.no (fun q => hin ((nat2_mem ch i).1 q)))
            have HOK := Lib.hid (HNX.out (HMO.out.2 ⟨fun q => absurd q hi2, fun _ _ q => absurd q hin, fun _ q => Bool.noConfusion q⟩))
            clear HMO HBAD HNX HCT hin
            go_wp2_with (go_at_call 111; with_reducible refine (H1.out).mono ?_; rintro e w' ⟨rfl, rfl⟩)
            exact ⟨⟨i + 1, by go_num, hlt, HX2.out, HB2.out, hS2, HOK⟩, by simp [intOf]; omega⟩
        | false =>
          by_cases hin : i ∈ ch
          · have H1 := Lib.hid (HCT.out.mono fun e w' h => h.yes ((nat2_mem ch i).2 hin))
            have HOK := Lib.hid (HNX.out (HMO.out.2 ⟨fun q => absurd q hi2, fun _ q => Bool.noConfusion q, fun _ _ => hin⟩))
            clear HMO HBAD HNX HCT hin
            go_wp2_with (go_at_call 111; with_reducible refine (H1.out).mono ?_; rintro e w' ⟨rfl, rfl⟩)
            exact ⟨⟨i + 1, by go_num, hlt, HX2.out, HB2.out, hS2, HOK⟩, by simp [intOf]; omega⟩
          · have H1 := Lib.hid (HCT.out.mono fun e w' h => h.no (fun q => hin ((nat2_mem ch i).1 q)))
            have HBB2 := Lib.hid (HBAD.out fun q => hin ((HMO.out.1 q).2.2 (by omega) rfl))
            clear HMO HBAD HNX HCT hin
            go_wp2_with (go_at_call 111; with_reducible refine (H1.out).mono ?_; rintro e w' ⟨rfl, rfl⟩)
            go_ret
            exact ⟨false, rfl, ⟨fun h => Bool.noConfusion h, fun h => (HBB2.out h).elim⟩, by rw [← HBB.out]; exact HB2.out⟩
    · have HS2 := Lib.hid (show ∀ j, j < l.cs.length → mlOk l ch j from fun j hj => HS.out j (by have := HN.out; omega))
      clear hB
      go_wp2_with fail
      go_ret
      exact ⟨true, rfl, ⟨fun _ => HS2.out, fun _ => rfl⟩, by rw [← HBB.out]; exact HB.out⟩
/-- Left leads back through the chain. -/
def lbOk (l : Ls) (ch : List Nat) (i : Nat) : Prop := ∀ (h : i + 1 < ch.length), (l.at_ ch[i + 1]).left = ((ch[i]'(by omega) : Nat) : Int)
theorem bck_iff (l : Ls) : ∀ ch : List Nat, bckB l ch = true ↔ ∀ i, lbOk l ch i
  | [] => ⟨fun _ i h => by simp at h, fun _ => rfl⟩
  | [a] => ⟨fun _ i h => by simp at h, fun _ => rfl⟩
  | a :: b :: r => by
    unfold bckB
    rw [Bool.and_eq_true, decide_eq_true_eq, bck_iff l (b :: r)]
    constructor
    · rintro ⟨h1, h2⟩ i hi
      cases i with
      | zero => exact h1
      | succ i => exact h2 i (by simpa using hi)
    · intro h
      exact ⟨h 0 (by simp), fun i hi => h (i + 1) (by simpa using hi)⟩
set_option maxRecDepth 100000 in
set_option maxHeartbeats 3200000 in
theorem linkedBack_any (A1 A3 : Option Addr) (l : Ls) (ch : List Nat) (n k c1 c3 : Nat) (w : World) (hn : l.cs.length = n) (hk : ch.length = k) (h : Ces w 0 A1 l.cs) (hc : RdR nrow 1 w 0 A3 (nat2 ch)) (k0 : 0 < k) (k66 : k ≤ 66) (hkc : k ≤ c3) (hlt : ∀ i ∈ ch, i < n) :
    Calls Tryz.prog 65 #[.slice A1 n c1, .slice A3 k c3] w (BoolI (bckB l ch = true) w) := by
  have HN := Lib.hid hn
  have HK := Lib.hid hk
  have HL := Lib.hid h
  have HC := Lib.hid hc
  have HLT := Lib.hid hlt
  have HBI := Lib.hid (bck_iff l ch)
  obtain ⟨b3, o3, e3, -, hb3, -⟩ := num_at hc (i := 0) (by rw [nat2_len, hk]; exact k0)
  subst e3
  have k1 : (1 : Int) ≤ (k : Int) := by omega
  have k2 : (k : Int) ≤ (c3 : Int) := by omega
  have k3 : (1 : Int) ≤ (c3 : Int) := by omega
  generalize bckB l ch = Z at *
  clear h hn hc hk hlt
  by_cases hc1 : c3 = 1
  · have hc1i : (c3 : Int) = 1 := by omega
    have hkk : k = 1 := by omega
    have HZ : Hid (Z = true) := Lib.hid (HBI.out.2 fun i h => by have := HK.out; omega)
    subst hkk
    subst hc1
    clear HBI
    go_enter Tryz.func65, Tryz.ntmps65
    go_wp2_with fail
    go_loopw [10] (fun vi wr => vi = .int .i64 0 ∧ w = wr) (fun _ _ => 0)
    case atStart => exact ⟨rfl, rfl⟩
    case round =>
      obtain ⟨rfl, rfl⟩ := hrel
      go_wp2_with fail
      go_ret
      exact ⟨true, rfl, ⟨fun _ => HZ.out, fun _ => rfl⟩, Below.refl _ _⟩
  · have hc1i : ¬ (c3 : Int) = 1 := by omega
    go_enter Tryz.func65, Tryz.ntmps65
    go_wp2_with fail
    obtain ⟨q, hq⟩ : ∃ q, q = k - 1 := ⟨_, rfl⟩
    rw [← hq]
    have HQ := Lib.hid (show k = q + 1 by omega)
    clear hq
    go_loopw [10] (fun vi wr => ∃ i : Nat, vi = .int .i64 (i : Int) ∧ i ≤ q ∧ Below w.heap.size w wr ∧ Hid (∀ j, j < i → lbOk l ch j)) (fun vi _ => q - (intOf vi).toNat)
    case atStart => exact ⟨0, rfl, by omega, Below.refl _ _, Lib.hid fun j h => by omega⟩
    case round =>
      obtain ⟨i, rfl, hi, hB, HS⟩ := hrel
      by_cases hlt : i < q
      · have i2 : i < (nat2 ch).length := by rw [nat2_len, HK.out, HQ.out]; omega
        have i3 : i + 1 < (nat2 ch).length := by rw [nat2_len, HK.out, HQ.out]; omega
        obtain ⟨_, _, e, -, -, f0⟩ := num_at HC.out i2
        injection e with e
        injection e with e1 e2
        subst e1 e2
        obtain ⟨_, _, e, -, -, f1⟩ := num_at HC.out i3
        injection e with e
        injection e with e1 e2
        subst e1 e2
        have i4 : i + 1 < ch.length := by rw [nat2_len] at i3; exact i3
        rw [nat2_at] at f0 f1
        have hin := HLT.out _ (List.getElem_mem i4)
        obtain ⟨b1, o1, eA, -, hb1, -, g1, -⟩ := Ces.at_ HL.out (i := ch[i + 1]) (by rw [HN.out]; exact hin)
        subst eA
        rw [l.at_lt] at g1
        have HLB : Hid (lbOk l ch i ↔ (l.at_ ch[i + 1]).left = ((ch[i]'(by omega) : Nat) : Int)) := Lib.hid ⟨fun h => h i4, fun h _ => h⟩
        have HBAD : Hid (¬ lbOk l ch i → ¬ Z = true) := Lib.hid fun h1 h2 => h1 (HBI.out.1 h2 i)
        have HNX : Hid (lbOk l ch i → ∀ j, j < i + 1 → lbOk l ch j) := Lib.hid fun h1 j h2 => by
          rcases Nat.lt_or_ge j i with h3 | h3
          · exact HS.out j h3
          · obtain rfl : j = i := by omega
            exact h1
        generalize ch[i + 1] = x at *
        generalize ch[i] = y at *
        generalize (l.at_ x).left = z at *
        replace f0 := (hB.cell (p := ⟨b3, o3 + i, none⟩) hb3).trans f0
        replace f1 := (hB.cell (p := ⟨b3, o3 + (i + 1), none⟩) hb3).trans f1
        replace g1 := (hB.cell (p := ⟨b1, o1 + x * 5 + 1, none⟩) hb1).trans g1
        rw [show o3 + (i + 1) = o3 + 1 + i by omega] at f1
        have i0 : (0 : Int) ≤ (i : Int) := by omega
        have i1 : (i : Int) < (q : Int) := by omega
        have i5 : (i : Int) < (k : Int) := by have := HQ.out; omega
        have x0 : (0 : Int) ≤ (x : Int) := by omega
        have x1 : (x : Int) < (n : Int) := by omega
        have HB := Lib.hid hB
        clear hB i2 i3 i4 hin HS hb1
        go_upto_region 4 with fail
        go_quiet (fail)
        have HB2 := Lib.hid (below_drw HB.out nq)
        clear f0 f1 g1
        generalize wr.drewN nq = W at *
        by_cases hz : z = (y : Int)
        · have hzb : (z != (y : Int)) = false := by simp [hz]
          have HOK := Lib.hid (HNX.out (HLB.out.2 hz))
          clear hz HNX HLB HBAD
          go_wp2_with fail
          exact ⟨⟨i + 1, by go_num, hlt, HB2.out, HOK⟩, by simp [intOf]; omega⟩
        · have hzb : (z != (y : Int)) = true := by simpa using hz
          have HNO := Lib.hid (HBAD.out fun q => hz (HLB.out.1 q))
          clear hz HNX HLB HBAD
          go_wp2_with fail
          go_ret
          exact ⟨false, rfl, ⟨fun h => Bool.noConfusion h, fun h => (HNO.out h).elim⟩, HB2.out⟩
      · have HZ : Hid (Z = true) := Lib.hid (HBI.out.2 fun j h => HS.out j (by have := HK.out; have := HQ.out; omega) h)
        have HB := Lib.hid hB
        clear hB HBI
        go_wp2_with fail
        go_ret
        exact ⟨true, rfl, ⟨fun _ => HZ.out, fun _ => rfl⟩, HB.out⟩
end Lk
end
section
open Go.RowKit Go.Maps
namespace Lk

def lhOk (l : Ls) (i p : Nat) : Prop := (l.at_ i).lock = (p : Int) + 1 ↔ holdB (l.pr p) i = true
set_option maxRecDepth 100000 in
set_option maxHeartbeats 6400000 in
theorem locksHeld_any (A1 A2 : Option Addr) (l : Ls) (n m c1 c2 : Nat) (w : World) (hn : l.cs.length = n) (hm : l.ps.length = m) (h : RdL w 0 A1 A2 l) (n66 : n ≤ 66) (m8 : m ≤ 8) :
    Calls Tryz.prog 63 #[.agg #[.slice A1 n c1, .slice A2 m c2]] w (BoolI (∀ i, i < l.cs.length → ∀ p, p < l.ps.length → lhOk l i p) w) := by
  have HB0 := Lib.hid ((Below.refl w.heap.size w).alloc (Nat.le_refl _) (.cells #[.slice A1 n c1, .slice A2 m c2] 28))
  have HX0 := Lib.hid (Has.new w 28 #[.slice A1 n c1, .slice A2 m c2])
  have HN := Lib.hid hn
  have HM := Lib.hid hm
  have HL := Lib.hid h
  obtain ⟨B, hB⟩ : ∃ B, B = w.heap.size := ⟨_, rfl⟩
  have HBB := Lib.hid hB
  have HSZ : Hid ((w.alloc (.cells #[.slice A1 n c1, .slice A2 m c2] 28)).heap.size = B + 1) := Lib.hid (by rw [World.size_alloc, hB])
  have x0 := HX0.out.cell 0
  have x1 := HX0.out.cell 1
  rw [← hB] at HB0 HX0 x0 x1
  clear h hn hm
  go_enter Tryz.func63, Tryz.ntmps63
  go_upto_region 1 with fail
  rw [← hB]
  generalize w.alloc (.cells #[.slice A1 n c1, .slice A2 m c2] 28) = W0 at *
  clear hB
  go_wp2_with fail
  go_loopw [10] (fun vi wr => ∃ (i : Nat), vi = .int .i64 (i : Int) ∧ i ≤ n ∧ Has wr B 28 #[.slice A1 n c1, .slice A2 m c2] ∧ Below B w wr ∧ B + 1 ≤ wr.heap.size ∧ Hid (∀ j, j < i → ∀ p, p < l.ps.length → lhOk l j p)) (fun vi _ => n - (intOf vi).toNat)
  case atStart => exact ⟨0, rfl, by omega, HX0.out, HB0.out, by rw [HSZ.out]; omega, Lib.hid fun j h => by omega⟩
  case round =>
    obtain ⟨i, rfl, hi, hX, hB, hSz, HS⟩ := hrel
    clear HB0 HX0 HSZ x0 x1
    have HX := Lib.hid hX
    have HB := Lib.hid hB
    have x0 := hX.cell 0
    have x1 := hX.cell 1
    clear hX
    by_cases hlt : i < n
    · have i2 : i < l.cs.length := by rw [HN.out]; exact hlt
      obtain ⟨b, o, e, -, hb, f0, f1, f2, f3, f4⟩ := HL.out.cell i2
      subst e
      rw [← HBB.out] at hb
      replace f0 := (hB.cell (p := ⟨b, o + i * 5, none⟩) hb).trans f0
      replace f1 := (hB.cell (p := ⟨b, o + i * 5 + 1, none⟩) hb).trans f1
      replace f2 := (hB.cell (p := ⟨b, o + i * 5 + 2, none⟩) hb).trans f2
      replace f3 := (hB.cell (p := ⟨b, o + i * 5 + 3, none⟩) hb).trans f3
      replace f4 := (hB.cell (p := ⟨b, o + i * 5 + 4, none⟩) hb).trans f4
      have i0 : (0 : Int) ≤ (i : Int) := by omega
      have i1 : (i : Int) < (n : Int) := by omega
      have HLH : Hid (∀ p, lhOk l i p ↔ ((l.at_ i).lock = (p : Int) + 1 ↔ holdB (l.pr p) i = true)) := Lib.hid fun p => Iff.rfl
      have HBAD : Hid (∀ p, p < m → ¬ lhOk l i p → ¬ ∀ i, i < l.cs.length → ∀ p, p < l.ps.length → lhOk l i p) := Lib.hid fun p hp h1 h2 => h1 (h2 i i2 p (by rw [HM.out]; exact hp))
      have HNX : Hid ((∀ p, p < m → lhOk l i p) → ∀ j, j < i + 1 → ∀ p, p < l.ps.length → lhOk l j p) := Lib.hid fun h1 j h2 p hp => by
        rcases Nat.lt_or_ge j i with h3 | h3
        · exact HS.out j h3 p hp
        · obtain rfl : j = i := by omega
          exact h1 p (by rw [← HM.out]; exact hp)
      generalize l.at_ i = x at *
      obtain ⟨xk, xl, xr, xo, xg⟩ := x
      simp only at f0 f1 f2 f3 f4 HLH
      have HXN := Lib.hid (Has.new wr 66 #[.string xk, .int .i64 xl, .int .i64 xr, .int .i64 xo, .bool xg])
      have hbn := (Below.refl wr.heap.size wr).alloc (Nat.le_refl _) (.cells #[.string xk, .int .i64 xl, .int .i64 xr, .int .i64 xo, .bool xg] 66)
      have HX2 := Lib.hid (HX.out.below hbn)
      have HB2 := Lib.hid (HB.out.trans (hbn.mono (by omega)))
      have hS2 : B + 1 ≤ (wr.alloc (.cells #[.string xk, .int .i64 xl, .int .i64 xr, .int .i64 xo, .bool xg] 66)).heap.size := by rw [World.size_alloc]; omega
      have hC2 : wr.heap.size < (wr.alloc (.cells #[.string xk, .int .i64 xl, .int .i64 xr, .int .i64 xo, .bool xg] 66)).heap.size := by rw [World.size_alloc]; omega
      clear hbn HX HB hB HS i2 hb
      go_upto_region 4 with fail
      clear f0 f1 f2 f3 f4 x0 x1
      obtain ⟨C, hC⟩ : ∃ C, C = wr.heap.size := ⟨_, rfl⟩
      generalize hW : wr.alloc (.cells #[.string xk, .int .i64 xl, .int .i64 xr, .int .i64 xo, .bool xg] 66) = W at *
      rw [← hC] at HXN hC2 ⊢
      clear hC hW
      have x0 := HX2.out.cell 0
      have x1 := HX2.out.cell 1
      go_wp2_with fail
      go_loopw [18] (fun vp wr => ∃ (p : Nat), vp = .int .i64 (p : Int) ∧ p ≤ m ∧ Has wr B 28 #[.slice (some ⟨b, o, none⟩) n c1, .slice A2 m c2] ∧ Has wr C 66 #[.string xk, .int .i64 xl, .int .i64 xr, .int .i64 xo, .bool xg] ∧ Below B w wr ∧ B + 1 ≤ wr.heap.size ∧ C < wr.heap.size ∧ Hid (∀ j, j < p → lhOk l i j)) (fun vp _ => m - (intOf vp).toNat)
      case atStart => exact ⟨0, rfl, by omega, HX2.out, HXN.out, HB2.out, hS2, hC2, Lib.hid fun j h => by omega⟩
      case round =>
        obtain ⟨p, rfl, hp, hX, hXC, hB, hSz2, hCz, HS⟩ := hrel
        clear HX2 HXN HB2 hS2 hC2 x0 x1
        have HX := Lib.hid hX
        have HXC := Lib.hid hXC
        have HB := Lib.hid hB
        clear hX hXC
        by_cases hlp : p < m
        · have p2 : p < l.ps.length := by rw [HM.out]; exact hlp
          obtain ⟨b2, o2, e, -, hb, f0, f1, f2, f3, f4, f5, f6⟩ := HL.out.proc p2
          subst e
          rw [← HBB.out] at hb
          replace f0 := (hB.cell (p := ⟨b2, o2 + p * 7, none⟩) hb).trans f0
          replace f1 := (hB.cell (p := ⟨b2, o2 + p * 7 + 1, none⟩) hb).trans f1
          replace f2 := (hB.cell (p := ⟨b2, o2 + p * 7 + 2, none⟩) hb).trans f2
          replace f3 := (hB.cell (p := ⟨b2, o2 + p * 7 + 3, none⟩) hb).trans f3
          replace f4 := (hB.cell (p := ⟨b2, o2 + p * 7 + 4, none⟩) hb).trans f4
          replace f5 := (hB.cell (p := ⟨b2, o2 + p * 7 + 5, none⟩) hb).trans f5
          replace f6 := (hB.cell (p := ⟨b2, o2 + p * 7 + 6, none⟩) hb).trans f6
          have p0 : (0 : Int) ≤ (p : Int) := by omega
          have p1 : (p : Int) < (m : Int) := by omega
          have hw : IntKind.i64.wrap ((p : Int) + 1) = (p : Int) + 1 := IntWalk.i64_in _ (by omega)
          have HLP := Lib.hid (HLH.out p)
          have HNP : Hid (lhOk l i p → ∀ j, j < p + 1 → lhOk l i j) := Lib.hid fun h1 j h2 => by
            rcases Nat.lt_or_ge j p with h3 | h3
            · exact HS.out j h3
            · obtain rfl : j = p := by omega
              exact h1
          have HBP := Lib.hid (HBAD.out p hlp)
          have HHO := Lib.hid (fun V => holds_any (l.pr p) i V)
          generalize l.pr p = y at *
          obtain ⟨yk, yc, yp, yd, ys, yx, yr⟩ := y
          simp only at f0 f1 f2 f3 f4 f5 f6
          have HPN := Lib.hid (Has.new wr 63 #[.int .i64 yk, .int .i64 yc, .int .i64 yp, .int .i64 yd, .int .i64 ys, .int .i64 yx, .bool yr])
          have hbn := (Below.refl wr.heap.size wr).alloc (Nat.le_refl _) (.cells #[.int .i64 yk, .int .i64 yc, .int .i64 yp, .int .i64 yd, .int .i64 ys, .int .i64 yx, .bool yr] 63)
          have HX2 := Lib.hid (HX.out.below hbn)
          have HXC2 := Lib.hid (HXC.out.below hbn)
          have HB2 := Lib.hid (HB.out.trans (hbn.mono (by omega)))
          have hS2 : B + 1 ≤ (wr.alloc (.cells #[.int .i64 yk, .int .i64 yc, .int .i64 yp, .int .i64 yd, .int .i64 ys, .int .i64 yx, .bool yr] 63)).heap.size := by rw [World.size_alloc]; omega
          have hC2 : C < (wr.alloc (.cells #[.int .i64 yk, .int .i64 yc, .int .i64 yp, .int .i64 yd, .int .i64 ys, .int .i64 yx, .bool yr] 63)).heap.size := by rw [World.size_alloc]; omega
          clear hbn HX HXC HB hB HS p2 hb
          go_upto_region 7 with fail
          clear f0 f1 f2 f3 f4 f5 f6
          obtain ⟨D, hD⟩ : ∃ D, D = wr.heap.size := ⟨_, rfl⟩
          generalize hV : wr.alloc (.cells #[.int .i64 yk, .int .i64 yc, .int .i64 yp, .int .i64 yd, .int .i64 ys, .int .i64 yx, .bool yr] 63) = V at *
          rw [← hD] at HPN ⊢
          clear hD hV
          have HSS := Lib.hid (fun (U : World) (k : Below V.heap.size V U) => (⟨(HXC2.out.below k).cell 3, (HPN.out.below k).cell 0, (HPN.out.below k).cell 1, (HPN.out.below k).cell 2, (HPN.out.below k).cell 3, (HPN.out.below k).cell 4, (HPN.out.below k).cell 5, (HPN.out.below k).cell 6, k⟩ : U.cell? ⟨C, 3, none⟩ = some (.int .i64 xo) ∧ U.cell? ⟨D, 0, none⟩ = some (.int .i64 yk) ∧ U.cell? ⟨D, 1, none⟩ = some (.int .i64 yc) ∧ U.cell? ⟨D, 2, none⟩ = some (.int .i64 yp) ∧ U.cell? ⟨D, 3, none⟩ = some (.int .i64 yd) ∧ U.cell? ⟨D, 4, none⟩ = some (.int .i64 ys) ∧ U.cell? ⟨D, 5, none⟩ = some (.int .i64 yx) ∧ U.cell? ⟨D, 6, none⟩ = some (.bool yr) ∧ Below V.heap.size V U))
          have hS0 := HSS.out V.drew (Below.refl _ _).drew
          obtain ⟨z3, u0, u1, u2', u3, u4', u5', u6', hbV⟩ := hS0
          have hS0 := HSS.out V.drew (Below.refl _ _).drew
          generalize holdB ⟨yk, yc, yp, yd, ys, yx, yr⟩ i = hh at *
          by_cases hz : xo = (p : Int) + 1
          · have hz1 : (xo == (p : Int) + 1) = true := by simpa using hz
            have hz2 : decide (xo = (p : Int) + 1) = true := decide_eq_true hz
            have HZ := Lib.hid hz
            clear hz
            cases hh with
            | true =>
              have HC5 := Lib.hid (fun V => (HHO.out V).mono fun e w' h => h.yes rfl)
              clear HHO
              go_region_held3 (fun U => U.cell? ⟨C, 3, none⟩ = some (.int .i64 xo) ∧ U.cell? ⟨D, 0, none⟩ = some (.int .i64 yk) ∧ U.cell? ⟨D, 1, none⟩ = some (.int .i64 yc) ∧ U.cell? ⟨D, 2, none⟩ = some (.int .i64 yp) ∧ U.cell? ⟨D, 3, none⟩ = some (.int .i64 yd) ∧ U.cell? ⟨D, 4, none⟩ = some (.int .i64 ys) ∧ U.cell? ⟨D, 5, none⟩ = some (.int .i64 yx) ∧ U.cell? ⟨D, 6, none⟩ = some (.bool yr) ∧ Below V.heap.size V U) (first | with_reducible exact hS7 | with_reducible exact hS0) ((go_at_call 113; refine (HC5.out _).mono ?_; rintro e w7 ⟨rfl, hb7⟩; have hS7 := HSS.out _ (hbV.trans (hb7.mono hbV.size))))
              have HB7 := Lib.hid hS7.2.2.2.2.2.2.2.2
              clear hS7 hb7 HC5
              have HX7 := Lib.hid (HX2.out.below HB7.out)
              have HXC7 := Lib.hid (HXC2.out.below HB7.out)
              have HBW7 := Lib.hid (HB2.out.trans (HB7.out.mono (by omega)))
              have hS7 : B + 1 ≤ w7.heap.size := Nat.le_trans hS2 HB7.out.size
              have hC7 : C < w7.heap.size := Nat.lt_of_lt_of_le hC2 HB7.out.size
              have HOK := Lib.hid (HNP.out (HLP.out.2 ⟨fun _ => (by first | rfl | trivial), fun _ => HZ.out⟩))
              go_wp2_with fail
              exact ⟨⟨p + 1, by go_num, hlp, HX7.out, HXC7.out, HBW7.out, hS7, hC7, HOK⟩, by simp [intOf]; omega⟩
            | false =>
              have HC5 := Lib.hid (fun V => (HHO.out V).mono fun e w' h => h.no Bool.false_ne_true)
              clear HHO
              go_region_held3 (fun U => U.cell? ⟨C, 3, none⟩ = some (.int .i64 xo) ∧ U.cell? ⟨D, 0, none⟩ = some (.int .i64 yk) ∧ U.cell? ⟨D, 1, none⟩ = some (.int .i64 yc) ∧ U.cell? ⟨D, 2, none⟩ = some (.int .i64 yp) ∧ U.cell? ⟨D, 3, none⟩ = some (.int .i64 yd) ∧ U.cell? ⟨D, 4, none⟩ = some (.int .i64 ys) ∧ U.cell? ⟨D, 5, none⟩ = some (.int .i64 yx) ∧ U.cell? ⟨D, 6, none⟩ = some (.bool yr) ∧ Below V.heap.size V U) (first | with_reducible exact hS7 | with_reducible exact hS0) ((go_at_call 113; refine (HC5.out _).mono ?_; rintro e w7 ⟨rfl, hb7⟩; have hS7 := HSS.out _ (hbV.trans (hb7.mono hbV.size))))
              have HB7 := Lib.hid hS7.2.2.2.2.2.2.2.2
              clear hS7 hb7 HC5
              have HX7 := Lib.hid (HX2.out.below HB7.out)
              have HXC7 := Lib.hid (HXC2.out.below HB7.out)
              have HBW7 := Lib.hid (HB2.out.trans (HB7.out.mono (by omega)))
              have hS7 : B + 1 ≤ w7.heap.size := Nat.le_trans hS2 HB7.out.size
              have hC7 : C < w7.heap.size := Nat.lt_of_lt_of_le hC2 HB7.out.size
              have HNO := Lib.hid (HBP.out fun q => Bool.noConfusion ((HLP.out.1 q).1 HZ.out))
              go_wp2_with fail
              go_ret
              exact ⟨false, rfl, ⟨fun h => Bool.noConfusion h, fun h => (HNO.out h).elim⟩, by rw [← HBB.out]; exact HBW7.out⟩
          · have hz1 : (xo == (p : Int) + 1) = false := by simpa using hz
            have hz2 : decide (xo = (p : Int) + 1) = false := decide_eq_false hz
            have HZ := Lib.hid hz
            clear hz
            cases hh with
            | true =>
              have HC5 := Lib.hid (fun V => (HHO.out V).mono fun e w' h => h.yes rfl)
              clear HHO
              go_region_held3 (fun U => U.cell? ⟨C, 3, none⟩ = some (.int .i64 xo) ∧ U.cell? ⟨D, 0, none⟩ = some (.int .i64 yk) ∧ U.cell? ⟨D, 1, none⟩ = some (.int .i64 yc) ∧ U.cell? ⟨D, 2, none⟩ = some (.int .i64 yp) ∧ U.cell? ⟨D, 3, none⟩ = some (.int .i64 yd) ∧ U.cell? ⟨D, 4, none⟩ = some (.int .i64 ys) ∧ U.cell? ⟨D, 5, none⟩ = some (.int .i64 yx) ∧ U.cell? ⟨D, 6, none⟩ = some (.bool yr) ∧ Below V.heap.size V U) (first | with_reducible exact hS7 | with_reducible exact hS0) ((go_at_call 113; refine (HC5.out _).mono ?_; rintro e w7 ⟨rfl, hb7⟩; have hS7 := HSS.out _ (hbV.trans (hb7.mono hbV.size))))
              have HB7 := Lib.hid hS7.2.2.2.2.2.2.2.2
              clear hS7 hb7 HC5
              have HX7 := Lib.hid (HX2.out.below HB7.out)
              have HXC7 := Lib.hid (HXC2.out.below HB7.out)
              have HBW7 := Lib.hid (HB2.out.trans (HB7.out.mono (by omega)))
              have hS7 : B + 1 ≤ w7.heap.size := Nat.le_trans hS2 HB7.out.size
              have hC7 : C < w7.heap.size := Nat.lt_of_lt_of_le hC2 HB7.out.size
              have HNO := Lib.hid (HBP.out fun q => HZ.out ((HLP.out.1 q).2 (by first | rfl | trivial)))
              go_wp2_with fail
              go_ret
              exact ⟨false, rfl, ⟨fun h => Bool.noConfusion h, fun h => (HNO.out h).elim⟩, by rw [← HBB.out]; exact HBW7.out⟩
            | false =>
              have HC5 := Lib.hid (fun V => (HHO.out V).mono fun e w' h => h.no Bool.false_ne_true)
              clear HHO
              go_region_held3 (fun U => U.cell? ⟨C, 3, none⟩ = some (.int .i64 xo) ∧ U.cell? ⟨D, 0, none⟩ = some (.int .i64 yk) ∧ U.cell? ⟨D, 1, none⟩ = some (.int .i64 yc) ∧ U.cell? ⟨D, 2, none⟩ = some (.int .i64 yp) ∧ U.cell? ⟨D, 3, none⟩ = some (.int .i64 yd) ∧ U.cell? ⟨D, 4, none⟩ = some (.int .i64 ys) ∧ U.cell? ⟨D, 5, none⟩ = some (.int .i64 yx) ∧ U.cell? ⟨D, 6, none⟩ = some (.bool yr) ∧ Below V.heap.size V U) (first | with_reducible exact hS7 | with_reducible exact hS0) ((go_at_call 113; refine (HC5.out _).mono ?_; rintro e w7 ⟨rfl, hb7⟩; have hS7 := HSS.out _ (hbV.trans (hb7.mono hbV.size))))
              have HB7 := Lib.hid hS7.2.2.2.2.2.2.2.2
              clear hS7 hb7 HC5
              have HX7 := Lib.hid (HX2.out.below HB7.out)
              have HXC7 := Lib.hid (HXC2.out.below HB7.out)
              have HBW7 := Lib.hid (HB2.out.trans (HB7.out.mono (by omega)))
              have hS7 : B + 1 ≤ w7.heap.size := Nat.le_trans hS2 HB7.out.size
              have hC7 : C < w7.heap.size := Nat.lt_of_lt_of_le hC2 HB7.out.size
              have HOK := Lib.hid (HNP.out (HLP.out.2 ⟨fun q => absurd q HZ.out, fun q => Bool.noConfusion q⟩))
              go_wp2_with fail
              exact ⟨⟨p + 1, by go_num, hlp, HX7.out, HXC7.out, HBW7.out, hS7, hC7, HOK⟩, by simp [intOf]; omega⟩
        · have HS2 := Lib.hid (HNX.out fun p hp => HS.out p (by omega))
          have x0 := HX.out.cell 0
          clear hB
          go_wp2_with fail
          exact ⟨⟨i + 1, by go_num, hlt, HX.out, HB.out, hSz2, HS2⟩, by simp [intOf]; omega⟩
    · have HS2 := Lib.hid (show ∀ i, i < l.cs.length → ∀ p, p < l.ps.length → lhOk l i p from fun j hj => HS.out j (by have := HN.out; omega))
      clear hB
      go_wp2_with fail
      go_ret
      exact ⟨true, rfl, ⟨fun _ => HS2.out, fun _ => rfl⟩, by rw [← HBB.out]; exact HB.out⟩
theorem chn_one {l : Ls} : ∀ {f a : Nat} {ch : List Nat}, chnV l f a = some ch → 1 ∈ ch
  | 0, _, _, h => by cases h
  | f + 1, a, ch, h => by
    unfold chnV at h
    split at h
    · injection h with h
      rw [← h]; simp
    · split at h
      · cases hc : chnV l f (l.at_ a).right.toNat with
        | none => rw [hc] at h; cases h
        | some r =>
          rw [hc] at h
          injection h with h
          have h : a :: r = ch := h
          rw [← h]
          exact List.mem_cons_of_mem _ (chn_one hc)
      · cases h
theorem chn_ends {l : Ls} {f : Nat} {ch : List Nat} (h : chnV l f 0 = some ch) : 0 ∈ ch ∧ 1 ∈ ch := by
  obtain ⟨r, e⟩ := chn_head h
  exact ⟨by rw [e]; exact List.mem_cons_self, chn_one h⟩
theorem chn_lt {l : Ls} (v : Vld l) : ∀ {f a : Nat} {ch : List Nat}, a < l.cs.length → chnV l f a = some ch → ∀ i ∈ ch, i < l.cs.length
  | 0, _, _, _, h => by cases h
  | f + 1, a, ch, ha, h => by
    unfold chnV at h
    split at h
    · injection h with h
      rw [← h]
      intro i hi
      rw [List.mem_singleton] at hi
      have := v.n2
      omega
    · split at h
      · cases hc : chnV l f (l.at_ a).right.toNat with
        | none => rw [hc] at h; cases h
        | some r =>
          rw [hc] at h
          injection h with h
          have h : a :: r = ch := h
          rw [← h]
          intro i hi
          rcases List.mem_cons.1 hi with rfl | hi
          · exact ha
          · have := v.rg a ha
            exact chn_lt v (by omega) hc i hi
      · cases h
theorem chk_iff (l : Ls) : chkB l = true ↔ Vld l ∧ ∃ ch, chnV l l.cs.length 0 = some ch ∧ (∀ i, i < l.cs.length → mlOk l ch i) ∧ (∀ i, i < l.cs.length → ∀ p, p < l.ps.length → lhOk l i p) ∧ ((∃ x ∈ l.cs, x.lock ≠ 0) ∨ bckB l ch = true) := by
  by_cases v : Vld l
  · have e := vldB_yes v
    have n2 := v.n2
    unfold chkB
    rw [e]
    simp only [Bool.true_and]
    cases hc : chnV l l.cs.length 0 with
    | none =>
      simp only [Bool.and_false, Bool.false_eq_true, false_iff]
      rintro ⟨-, ch, h, -⟩
      cases h
    | some ch =>
      have h01 : 0 ∈ ch ∧ 1 ∈ ch := chn_ends hc
      simp only [Bool.and_eq_true, Bool.not_eq_true', List.all_eq_true, List.mem_range, Bool.or_eq_true, beq_iff_eq]
      constructor
      · rintro ⟨⟨g0, g1⟩, hA, hL⟩
        refine ⟨v, ch, rfl, fun i hi => ?_, fun i hi p hp => ?_, ?_⟩
        · have := (hA i hi).1
          refine ⟨fun h2 => ?_, fun _ h3 h4 => ?_, fun _ h3 => ?_⟩
          · have : i = 0 ∨ i = 1 := by omega
            rcases this with rfl | rfl
            · exact g0
            · exact g1
          · rw [h3, if_pos rfl] at this
            simpa [h4] using this
          · rw [h3, if_neg Bool.false_ne_true] at this
            simpa using this
        · have := (hA i hi).2 p hp
          unfold lhOk
          rw [this, decide_eq_true_iff]
        · rcases hL with hL | hL
          · left
            rw [← Bool.not_eq_true, List.all_eq_true] at hL
            refine Classical.byContradiction fun q => hL fun x hx => ?_
            exact decide_eq_true (Classical.byContradiction fun q2 => q ⟨x, hx, q2⟩)
          · exact .inr hL
      · rintro ⟨-, ch', h, hA, hP, hL⟩
        obtain rfl := Option.some.inj h
        refine ⟨⟨(hA 0 (by omega)).1 (by omega), (hA 1 (by omega)).1 (by omega)⟩, fun i hi => ⟨?_, fun p hp => ?_⟩, ?_⟩
        · obtain ⟨q1, q2, q3⟩ := hA i hi
          by_cases h2 : i < 2
          · have hm : i ∈ ch := by
              have : i = 0 ∨ i = 1 := by omega
              rcases this with rfl | rfl
              · exact h01.1
              · exact h01.2
            rw [q1 h2, if_neg Bool.false_ne_true]
            simpa using hm
          · cases hg : (l.at_ i).gone with
            | true =>
              rw [if_pos rfl]
              by_cases hm : i ∈ ch
              · simp [hm, q2 (by omega) hg hm]
              · simp [hm]
            | false =>
              rw [if_neg Bool.false_ne_true]
              simpa using q3 (by omega) hg
        · have := hP i hi p hp
          unfold lhOk at this
          cases h : holdB (l.pr p) i with
          | true => rw [decide_eq_true (this.2 h)]
          | false => rw [decide_eq_false (fun q => by rw [this.1 q] at h; cases h)]
        · rcases hL with ⟨x, hx, q⟩ | hL
          · left
            rw [← Bool.not_eq_true, List.all_eq_true]
            exact fun q2 => q (of_decide_eq_true (q2 x hx))
          · exact .inr hL
  · have e := vldB_no v
    unfold chkB
    rw [e]
    simp [v]
set_option maxRecDepth 100000 in
set_option maxHeartbeats 6400000 in
theorem check_any (A1 A2 : Option Addr) (l : Ls) (n m c1 c2 : Nat) (w : World) (hn : l.cs.length = n) (hm : l.ps.length = m) (h : RdL w 0 A1 A2 l) :
    Calls Tryz.prog 22 #[.agg #[.slice A1 n c1, .slice A2 m c2]] w (BoolI (chkB l = true) w) := by
  have hb := (Below.refl w.heap.size w).alloc (Nat.le_refl _) (.cells #[.slice A1 n c1, .slice A2 m c2] 28)
  have HB := Lib.hid hb
  have HX := Lib.hid (Has.new w 28 #[.slice A1 n c1, .slice A2 m c2])
  have HL := Lib.hid (h.below hb)
  have HN := Lib.hid hn
  have HM := Lib.hid hm
  have HCI := Lib.hid (chk_iff l)
  have x0 := HX.out.cell 0
  have x1 := HX.out.cell 1
  clear hb h hn hm
  go_enter Tryz.func22, Tryz.ntmps22
  go_upto_region 1 with fail
  generalize w.alloc (.cells #[.slice A1 n c1, .slice A2 m c2] 28) = W at *
  obtain ⟨B, hB⟩ : ∃ B, B = w.heap.size := ⟨_, rfl⟩
  have HBB := Lib.hid hB
  rw [← hB] at HB HX x0 x1 ⊢
  clear hB
  have HVA := Lib.hid (valid_any A1 A2 l n m c1 c2 W HN.out HM.out HL.out)
  by_cases v : Vld l
  · have n66 : n ≤ 66 := by rw [← HN.out]; exact v.n66
    have n2 := v.n2
    have m8 : m ≤ 8 := by rw [← HM.out]; exact v.m8
    have HV := Lib.hid v
    have H1 := Lib.hid (HVA.out.mono fun e w' h => h.yes v)
    have HCH := Lib.hid (fun (V : World) (k : Below W.heap.size W V) => chain_any A1 l n c1 V HN.out (RdR.below HL.out.cs k) v)
    clear HVA v
    go_wp2_with fail
    refine (H1.out).mono ?_
    rintro e w2 ⟨rfl, hb2⟩
    have HB2 := Lib.hid hb2
    have HX2 := Lib.hid (HX.out.below hb2)
    have HCH2 := Lib.hid (HCH.out w2 hb2)
    clear hb2 x0 x1 HCH
    have x0 := HX2.out.cell 0
    have x1 := HX2.out.cell 1
    go_wp2_with fail
    refine (HCH2.out).mono ?_
    rintro e w3 (⟨hcn, rfl, hb3⟩ | ⟨ch, A3, k, c3, hcn, rfl, hk, hkn, hkc, hrd, hb3⟩)
    · have HNO : Hid (¬ chkB l = true) := Lib.hid fun q => by
        obtain ⟨-, ch, e, -⟩ := HCI.out.1 q
        rw [hcn] at e
        cases e
      have HB3 := Lib.hid (HB.out.trans ((HB2.out.trans (hb3.mono HB2.out.size)).mono (HBB.out ▸ HB.out.size)))
      clear hb3 x0 x1 hcn
      go_wp2_with fail
      go_ret
      exact ⟨false, rfl, ⟨fun h => Bool.noConfusion h, fun h => (HNO.out h).elim⟩, by rw [← HBB.out]; exact HB3.out⟩
    · have HB3 := Lib.hid (HB2.out.trans (hb3.mono HB2.out.size))
      have HX3 := Lib.hid (HX2.out.below hb3)
      have HCN := Lib.hid hcn
      have HK := Lib.hid hk
      have HRD := Lib.hid (RdR.low hrd (Nat.zero_le _))
      have hkn' : k ≤ n := by rw [← HN.out]; exact hkn
      have k66 : k ≤ 66 := by omega
      have k0 : 0 < k := by
        obtain ⟨r, e⟩ := chn_head hcn
        rw [← hk, e]
        exact Nat.succ_pos _
      have HLT := Lib.hid (chn_lt HV.out (by omega) hcn)
      have HC2 : Hid (chkB l = true ↔ (∀ i, i < l.cs.length → mlOk l ch i) ∧ (∀ i, i < l.cs.length → ∀ p, p < l.ps.length → lhOk l i p) ∧ ((∃ x ∈ l.cs, x.lock ≠ 0) ∨ bckB l ch = true)) := Lib.hid (by
        rw [HCI.out]
        constructor
        · rintro ⟨-, ch', e, h⟩
          rw [hcn] at e
          obtain rfl := Option.some.inj e
          exact h
        · exact fun h => ⟨HV.out, ch, hcn, h⟩)
      have HW := Lib.hid (fun (V : World) (q : Below w3.heap.size w3 V) => HB3.out.trans (q.mono HB3.out.size))
      have HXB := Lib.hid (fun (V : World) (q : Below w3.heap.size w3 V) => HX3.out.below q)
      have HML := Lib.hid (membersLinked_any A1 A2 A3 l ch n m k c1 c2 c3 w3 HN.out HM.out hk (HL.out.below HB3.out) HRD.out n66 m8 k66)
      have HLH := Lib.hid (fun (V : World) (q : Below w3.heap.size w3 V) => locksHeld_any A1 A2 l n m c1 c2 V HN.out HM.out (HL.out.below (HW.out V q)) n66 m8)
      have HAL := Lib.hid (fun (V : World) (q : Below w3.heap.size w3 V) => anyLocked_any A1 l.cs n c1 V HN.out (RdR.below HL.out.cs (HW.out V q)) (by unfold maxLen; omega))
      have HLB := Lib.hid (fun (V : World) (q : Below w3.heap.size w3 V) => linkedBack_any A1 A3 l ch n k c1 c3 V HN.out hk (RdR.below HL.out.cs (HW.out V q)) (RdR.below HRD.out q) k0 k66 hkc (by rw [← HN.out]; exact HLT.out))
      have hsB : B ≤ W.heap.size := HBB.out ▸ HB.out.size
      have HFN := Lib.hid (fun (V : World) (q : Below w3.heap.size w3 V) => (by rw [← HBB.out]; exact HB.out.trans ((HW.out V q).mono hsB) : Below w.heap.size w V))
      clear hb3 x0 x1 hcn hrd hk HCH2 H1 HB2
      have x0 := HX3.out.cell 0
      have x1 := HX3.out.cell 1
      go_upto_region 4 with fail
      by_cases q1 : ∀ i, i < l.cs.length → mlOk l ch i
      · have H1 := Lib.hid (HML.out.mono fun e w' h => h.yes q1)
        by_cases q2 : ∀ i, i < l.cs.length → ∀ p, p < l.ps.length → lhOk l i p
        · have H2 := Lib.hid (fun V q => (HLH.out V q).mono fun e w' h => h.yes q2)
          by_cases q3 : ∃ x ∈ l.cs, x.lock ≠ 0
          · have H3 := Lib.hid (fun V q => (HAL.out V q).mono fun e w' h => h.yes q3)
            have HYES : Hid (chkB l = true) := Lib.hid (HC2.out.2 ⟨q1, q2, .inl q3⟩)
            clear q1 q2 q3 HML HLH HAL HC2
            go_wp2_with (first | (go_at_call 62; with_reducible refine (H1.out).mono ?_; rintro e w4 ⟨rfl, hb4⟩; have x0 := (HXB.out w4 hb4).cell 0; have x1 := (HXB.out w4 hb4).cell 1) | (go_at_call 63; with_reducible refine (H2.out w4 hb4).mono ?_; rintro e w5 ⟨rfl, hb5⟩; have hb5 := hb4.trans (hb5.mono hb4.size); have x0 := (HXB.out w5 hb5).cell 0; have x1 := (HXB.out w5 hb5).cell 1) | (go_at_call 64; with_reducible refine (H3.out w5 hb5).mono ?_; rintro e w6 ⟨rfl, hb6⟩; have HF := Lib.hid (HFN.out w6 (hb5.trans (hb6.mono hb5.size))); clear hb4 hb5 hb6))
            go_ret
            exact ⟨true, rfl, ⟨fun _ => HYES.out, fun _ => rfl⟩, HF.out⟩
          · have H3 := Lib.hid (fun V q => (HAL.out V q).mono fun e w' h => h.no q3)
            have HFI : Hid (chkB l = true ↔ bckB l ch = true) := Lib.hid ⟨fun q => ((HC2.out.1 q).2.2).resolve_left q3, fun q => HC2.out.2 ⟨q1, q2, .inr q⟩⟩
            clear q1 q2 q3 HML HLH HAL HC2
            go_wp2_with (first | (go_at_call 62; with_reducible refine (H1.out).mono ?_; rintro e w4 ⟨rfl, hb4⟩; have x0 := (HXB.out w4 hb4).cell 0; have x1 := (HXB.out w4 hb4).cell 1) | (go_at_call 63; with_reducible refine (H2.out w4 hb4).mono ?_; rintro e w5 ⟨rfl, hb5⟩; have hb5 := hb4.trans (hb5.mono hb4.size); have x0 := (HXB.out w5 hb5).cell 0; have x1 := (HXB.out w5 hb5).cell 1) | (go_at_call 64; with_reducible refine (H3.out w5 hb5).mono ?_; rintro e w6 ⟨rfl, hb6⟩; have hb6 := hb5.trans (hb6.mono hb5.size); have x0 := (HXB.out w6 hb6).cell 0; have x1 := (HXB.out w6 hb6).cell 1))
            refine (HLB.out w6 hb6).mono ?_
            rintro e w7 ⟨bb, rfl, hbb, hb7⟩
            have HBQ := Lib.hid hbb
            have HF := Lib.hid (HFN.out w7 (hb6.trans (hb7.mono hb6.size)))
            clear hb4 hb5 hb6 hb7 x0 x1
            go_wp2_with fail
            go_ret
            exact ⟨bb, rfl, HBQ.out.trans HFI.out.symm, HF.out⟩
        · have H2 := Lib.hid (fun V q => (HLH.out V q).mono fun e w' h => h.no q2)
          have HNO : Hid (¬ chkB l = true) := Lib.hid fun q => q2 (HC2.out.1 q).2.1
          clear q1 q2 HML HLH HAL HC2
          go_wp2_with (first | (go_at_call 62; with_reducible refine (H1.out).mono ?_; rintro e w4 ⟨rfl, hb4⟩; have x0 := (HXB.out w4 hb4).cell 0; have x1 := (HXB.out w4 hb4).cell 1) | (go_at_call 63; with_reducible refine (H2.out w4 hb4).mono ?_; rintro e w5 ⟨rfl, hb5⟩; have HF := Lib.hid (HFN.out w5 (hb4.trans (hb5.mono hb4.size))); clear hb4 hb5))
          go_ret
          exact ⟨false, rfl, ⟨fun h => Bool.noConfusion h, fun h => (HNO.out h).elim⟩, HF.out⟩
      · have H1 := Lib.hid (HML.out.mono fun e w' h => h.no q1)
        have HNO : Hid (¬ chkB l = true) := Lib.hid fun q => q1 (HC2.out.1 q).1
        clear q1 HML HLH HAL HC2
        go_wp2_with (go_at_call 62; with_reducible refine (H1.out).mono ?_; rintro e w4 ⟨rfl, hb4⟩; have HF := Lib.hid (HFN.out w4 hb4); clear hb4)
        go_ret
        exact ⟨false, rfl, ⟨fun h => Bool.noConfusion h, fun h => (HNO.out h).elim⟩, HF.out⟩
  · have H1 := Lib.hid (HVA.out.mono fun e w' h => h.no v)
    have HNO : Hid (¬ chkB l = true) := Lib.hid fun q => v (HCI.out.1 q).1
    clear HVA v
    go_wp2_with fail
    refine (H1.out).mono ?_
    rintro e w2 ⟨rfl, hb2⟩
    have HF : Hid (Below w.heap.size w w2) := Lib.hid (by rw [← HBB.out]; exact HB.out.trans (hb2.mono (HBB.out ▸ HB.out.size)))
    clear hb2
    go_wp2_with fail
    go_ret
    exact ⟨false, rfl, ⟨fun h => Bool.noConfusion h, fun h => (HNO.out h).elim⟩, HF.out⟩
end Lk
end
end Go.Proofs.YtmhbloefmknikaaGreatDoor
