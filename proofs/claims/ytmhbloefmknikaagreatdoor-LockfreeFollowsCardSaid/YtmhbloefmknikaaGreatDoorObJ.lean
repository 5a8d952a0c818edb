/-
  chainFrom of package lockfree. Conditions: what is read can be read; the list is valid.
  inserted, isInserted, accounted, leadBack and Check of package lockfree. Conditions: the list can be read; no list is long.
  Check, Bound and Members of package lockfree. Conditions: the list can be read, it has processes; no list is long.
  Lists without locks: Bound, one process after another, the example of chapter 12: plain. No condition.
-/
import Derived.Test.YtmhbloefmknikaaGreatDoorObF
import Derived.Test.YtmhbloefmknikaaGreatDoorLzQ
import Derived.Laws.MakeOwn
import Derived.Test.YtmhbloefmknikaaGreatDoorOaA
namespace Go.Proofs.YtmhbloefmknikaaGreatDoor
section
open Go.RowKit Go.Maps
namespace Lf
open Lk
/-- Where the walk along the links from a cell stands. -/
structure ChnS (l : Ls) (s0 : Nat) (pre : List Nat) (at' : Nat) : Prop where
  lt : at' < l.cs.length
  rk : pre.length ≤ rnk l at'
  is : chnV l l.cs.length s0 = (chnV l (l.cs.length - pre.length) at').map (pre ++ ·)
section
variable {l : Ls} {s0 : Nat} {pre : List Nat}
theorem ChnS.zero (h : s0 < l.cs.length) : ChnS l s0 [] s0 := ⟨h, Nat.zero_le _, by simp⟩
theorem ChnS.fuel {a : Nat} (h : ChnS l s0 pre a) : ∃ f, l.cs.length - pre.length = f + 1 := ⟨l.cs.length - pre.length - 1, by have := rnk_n h.lt; have := h.rk; omega⟩
theorem ChnS.done (h : ChnS l s0 pre 1) : chnV l l.cs.length s0 = some (pre ++ [1]) := by
  obtain ⟨f, hf⟩ := h.fuel
  rw [h.is, hf]
  unfold chnV
  rw [if_pos rfl]
  rfl
theorem ChnS.stop {a : Nat} (h : ChnS l s0 pre a) (h1 : a ≠ 1) (h2 : blw l a (l.at_ a).right.toNat = false) : chnV l l.cs.length s0 = none := by
  obtain ⟨f, hf⟩ := h.fuel
  rw [h.is, hf]
  unfold chnV
  rw [if_neg h1, if_neg (by rw [h2]; exact Bool.false_ne_true)]
  rfl
theorem ChnS.next (v : Vlf l) {a : Nat} (h : ChnS l s0 pre a) (h1 : a ≠ 1) (h2 : blw l a (l.at_ a).right.toNat = true) : ChnS l s0 (pre ++ [a]) (l.at_ a).right.toNat := by
  obtain ⟨f, hf⟩ := h.fuel
  have hr := v.rg a h.lt
  have hlt : (l.at_ a).right.toNat < l.cs.length := by omega
  have hk := (v.iff h.lt hlt).1 h2
  have h3 := h.rk
  refine ⟨hlt, by rw [List.length_append]; simp only [List.length_cons, List.length_nil]; omega, ?_⟩
  rw [h.is, hf]
  conv => lhs; unfold chnV
  rw [if_neg h1, if_pos h2, List.length_append]
  simp only [List.length_cons, List.length_nil]
  rw [show l.cs.length - (pre.length + (0 + 1)) = f by omega, Option.map_map]
  congr 1
  funext r
  simp
theorem ChnS.small {a : Nat} (h : ChnS l s0 pre a) : pre.length < l.cs.length := by have := rnk_n h.lt; have := h.rk; omega
end
def ChnP (l : Ls) (s0 : Nat) (w : World) (e : Ending) (w' : World) : Prop :=
  (chnV l l.cs.length s0 = none ∧ e = .returned (.tuple #[.slice none 0 0, .bool false]) ∧ Below w.heap.size w w') ∨
  ∃ ch A n c, chnV l l.cs.length s0 = some ch ∧ e = .returned (.tuple #[.slice A n c, .bool true]) ∧ ch.length = n ∧ n ≤ l.cs.length ∧ n ≤ c ∧ RdR nrow 1 w' w.heap.size A (nat2 ch) ∧ Below w.heap.size w w'
set_option maxRecDepth 100000 in
set_option maxHeartbeats 3200000 in
theorem chainFrom_any (A : Option Addr) (l : Ls) (n c s0 : Nat) (w : World) (hn : l.cs.length = n) (h : Ces w 0 A l.cs) (v : Vlf l) (hs : s0 < n) :
    Calls Tryz.prog 81 #[.slice A n c, .int .i64 (s0 : Int)] w (ChnP l s0 w) := by
  have HN := Lib.hid hn
  have HL := Lib.hid h
  have HV := Lib.hid v
  have n66 : n ≤ 66 := by rw [← hn]; exact v.n66
  have HO0 : Hid (OwnR nrow 1 3 (w.alloc (.cells #[.int .i64 (s0 : Int)] 3)) w.heap.size (.slice (some ⟨w.heap.size, 0, none⟩) 1 1) (nat2 ([] ++ [s0]))) := Lib.hid ⟨rfl, .inr ⟨w.heap.size, 1, _, rfl, Nat.le_refl _, Has.new w _ _, Nat.le_refl _, by unfold maxLen; omega, rfl, rfl⟩⟩
  have HB0 := Lib.hid ((Below.refl w.heap.size w).alloc (Nat.le_refl _) (.cells #[.int .i64 (s0 : Int)] 3))
  have HS0 := Lib.hid (ChnS.zero (l := l) (s0 := s0) (by rw [hn]; exact hs))
  clear h hn v
  go_enter Tryz.func81, Tryz.ntmps81
  go_wp2_with fail
  generalize w.alloc (.cells #[.int .i64 (s0 : Int)] 3) = W0 at *
  go_loopw [6, 7, 8] (fun vo va vx wr => ∃ (a : Nat) (pre : List Nat) (v1 : Value), va = .int .i64 (a : Int) ∧ v1 = vo ∧ vx = vx ∧ Hid (ChnS l s0 pre a) ∧ OwnR nrow 1 3 wr w.heap.size v1 (nat2 (pre ++ [a])) ∧ Below w.heap.size w wr) (fun _ va _ _ => n - rnk l (intOf va).toNat)
  case atStart => exact ⟨s0, [], _, rfl, rfl, rfl, HS0.out, HO0.out, HB0.out⟩
  case round =>
    clear HO0 HB0 HS0
    obtain ⟨a, pre, v1, rfl, rfl, -, HS, hO, hB⟩ := hrel
    have HB := Lib.hid hB
    obtain ⟨A3, n3, q3, hv3⟩ := own_sh hO
    subst hv3
    have HO := Lib.hid hO
    clear hO
    by_cases h1 : a = 1
    · subst h1
      have HD := Lib.hid HS.out.done
      have HR : Hid (∃ A c, Value.slice A3 n3 q3 = .slice A (nat2 (pre ++ [1])).length c ∧ (nat2 (pre ++ [1])).length ≤ c ∧ c ≤ maxLen ∧ RdR nrow 1 wr w.heap.size A (nat2 (pre ++ [1]))) := Lib.hid (HO.out.read (fun _ => rfl))
      have HSM := Lib.hid HS.out.small
      clear hB
      go_wp2_with fail
      go_ret2
      obtain ⟨A, c, e, h3, -, h4⟩ := HR.out
      injection e with e1 e2 e3
      subst e1 e3
      have h5 := HSM.out
      rw [nat2_len] at e2 h3
      refine .inr ⟨pre ++ [1], A3, n3, q3, HD.out, rfl, e2.symm, ?_, by omega, h4, HB.out⟩
      rw [e2, List.length_append]
      simp only [List.length_cons, List.length_nil]
      omega
    · have hlt := HS.out.lt
      obtain ⟨b, o, e, -, hb, f0, f1, f2, -⟩ := Ces.at_ HL.out hlt
      subst e
      replace f2 := (hB.cell (p := ⟨b, o + a * 5 + 2, none⟩) hb).trans f2
      rw [l.at_lt hlt] at f2
      obtain ⟨r, hr, hrn⟩ := nat_of (HV.out.rg a hlt)
      have HRT : Hid ((l.at_ a).right.toNat = r) := Lib.hid (by rw [hr]; rfl)
      rw [hr] at f2
      rw [HN.out] at hlt hrn
      have i0 : (0 : Int) ≤ (a : Int) := by omega
      have i1 : (a : Int) < (n : Int) := by omega
      have h1d : ((a : Int) != 1) = true := by simp; omega
      have HCM := Lib.hid (less_any (some ⟨b, o, none⟩) l n c a r 0 wr HN.out (RdR.below HL.out hB) hlt hrn)
      cases hbl : blw l a r with
      | false =>
        rw [hbl] at HCM
        have HD := Lib.hid (HS.out.stop h1 (by rw [HRT.out]; exact hbl))
        clear hbl h1 hB
        go_wp2_with fail
        refine (HCM.out).mono ?_
        rintro e w2 ⟨rfl, hb2⟩
        have HB2 := Lib.hid (HB.out.trans (hb2.mono HB.out.size))
        clear hb2
        go_wp2_with fail
        go_ret2
        exact .inl ⟨HD.out, rfl, HB2.out⟩
      | true =>
        rw [hbl] at HCM
        have HD := Lib.hid (HS.out.next HV.out h1 (by rw [HRT.out]; exact hbl))
        rw [HRT.out] at HD
        have HRK := Lib.hid (⟨(HV.out.iff HS.out.lt (by rw [HN.out]; exact hrn)).1 hbl, by have := rnk_n (l := l) (a := r) (by rw [HN.out]; exact hrn); have := HN.out; omega⟩ : rnk l a < rnk l r ∧ rnk l r < n)
        have HSM := Lib.hid HS.out.small
        clear hbl h1 hB
        go_wp2_with fail
        refine (HCM.out).mono ?_
        rintro e w2 ⟨rfl, hb2⟩
        have HB2 := Lib.hid (HB.out.trans (hb2.mono HB.out.size))
        have HO2 := Lib.hid (HO.out.below hb2)
        have hsz := HB2.out.size
        clear hb2
        go_wp2_with (at_builtin; refine wpList_pushR RowT.nu rfl (.tmp 24) (.tmp 26) rfl w.heap.size (.slice A3 n3 q3) (nat2 (pre ++ [a])) w2 (r : Int) _ rfl (by simp [Act.eval]) HO2.out (by simp [Act.eval]) (by have := HSM.out; have := HN.out; rw [nat2_len, List.length_append]; simp only [List.length_cons, List.length_nil]; omega) hsz ?_; intro v5 w5 ho5 hg5 hat5; obtain ⟨A5, n5, q5, hv5⟩ := own_sh ho5; subst hv5; have HO5 := Lib.hid ho5; have HG5 := Lib.hid (HB2.out.trans (grown_below hg5 hsz (fun j e => (HO2.out.lt j e).1))); clear ho5 hg5 hat5)
        refine ⟨⟨r, pre ++ [a], _, rfl, rfl, (by first | rfl | trivial), HD, ?_, HG5.out⟩, ?_⟩
        · have := HO5.out
          rwa [show nat2 (pre ++ [a]) ++ [(r : Int)] = nat2 (pre ++ [a] ++ [r]) by simp [nat2]] at this
        · have := HRK.out
          simp only [intOf, Int.toNat_natCast]
          omega
end Lf
end
section
open Go.RowKit Go.Maps
namespace Lf
open Lk
theorem chn_lt {l : Ls} (v : Vlf l) : ∀ {f a : Nat} {ch : List Nat}, a < l.cs.length → chnV l f a = some ch → ∀ i, i ∈ ch → i < l.cs.length
  | 0, _, _, _, h, _, _ => by cases h
  | f + 1, a, ch, ha, h, i, hi => by
    unfold chnV at h
    split at h
    · injection h with h
      rw [← h] at hi
      have := v.n2
      obtain rfl : i = 1 := by simpa using hi
      omega
    · split at h
      · cases hc : chnV l f (l.at_ a).right.toNat with
        | none => rw [hc] at h; cases h
        | some r =>
          rw [hc] at h
          injection h with h
          have h : a :: r = ch := h
          rw [← h] at hi
          have hr := v.rg a ha
          rcases List.mem_cons.1 hi with e | e
          · rw [e]; exact ha
          · exact chn_lt v (by omega) hc i e
      · cases h
theorem inserted1_any (A : Option Addr) (l : Ls) (n c x g lo : Nat) (w : World) (hn : l.cs.length = n) (h : Ces w lo A l.cs) (hx : x < n) (hg : w.cell? ⟨g, 0, none⟩ = some (.slice A n c)) :
    Calls Tryz.prog 126 #[.int .i64 (x : Int), .pointer (some ⟨g, 0, none⟩)] w (BoolI ((l.at_ x).lock = 0) w) := by
  obtain ⟨b, o, e, -, hb, f0, f1, f2, f3, f4⟩ := h.at_ (i := x) (by rw [hn]; exact hx)
  rw [l.at_lt (by rw [hn]; exact hx)] at f3
  subst e
  have HB : Hid (Below w.heap.size w w) := Lib.hid (Below.refl _ _)
  have i0 : (0 : Int) ≤ (x : Int) := by omega
  have i1 : (x : Int) < (n : Int) := by omega
  by_cases q : (l.at_ x).lock = 0
  · rw [q] at f3
    have HQ := Lib.hid q
    clear q
    go_enter Tryz.func126, Tryz.ntmps126
    go_wp2_with fail
    go_ret
    exact ⟨true, rfl, ⟨fun _ => HQ.out, fun _ => rfl⟩, HB.out⟩
  · have d1 : ((l.at_ x).lock == 0) = false := by simpa using q
    have d2 : decide ((l.at_ x).lock = 0) = false := decide_eq_false q
    have HQ := Lib.hid q
    clear q
    go_enter Tryz.func126, Tryz.ntmps126
    go_wp2_with fail
    go_ret
    first
      | exact ⟨false, rfl, ⟨fun q => Bool.noConfusion q, fun q => absurd q HQ.out⟩, HB.out⟩
      | exact ⟨_, rfl, by simp, HB.out⟩
set_option maxRecDepth 100000 in
set_option maxHeartbeats 1600000 in
theorem iindex_any (A1 A : Option Addr) (l : Ls) (ch : List Nat) (n c1 k0 c g : Nat) (w : World) (hn : l.cs.length = n) (h : Ces w 0 A1 l.cs) (hk : ch.length = k0) (hc : RdR nrow 1 w 0 A (nat2 ch)) (hm : k0 ≤ maxLen) (hlt : ∀ i, i ∈ ch → i < n) (hg : w.cell? ⟨g, 0, none⟩ = some (.slice A1 n c1)) :
    Calls Tryz.prog 145 #[.slice A k0 c, .func (.func 126) #[] #[.pointer (some ⟨g, 0, none⟩)]] w fun e w' => ∃ R : Int, e = .returned (.int .i64 R) ∧ (R ≥ 0 ↔ ∃ x ∈ ch, (l.at_ x).lock = 0) ∧ Below w.heap.size w w' := by
  have hml : maxLen ≤ 9223372036854775807 := by decide
  have HN := Lib.hid hk
  have HR := Lib.hid hc
  have HCL := Lib.hid (fun (x : Nat) (hx : x < n) (W : World) (k : Below w.heap.size w W) => inserted1_any A1 l n c1 x g 0 W hn (RdR.below h k) hx ((k.cell (p := ⟨g, 0, none⟩) (World.block_lt_of_cell? w _ hg)).trans hg))
  have HLT := Lib.hid hlt
  clear h hn hk hc hlt hg
  go_enter Tryz.func145, Tryz.ntmps145
  go_wp2_with fail
  go_loopw [8] (fun vk wr => ∃ k : Nat, vk = .int .i64 (k : Int) ∧ k ≤ k0 ∧ Below w.heap.size w wr ∧ Hid (∀ j (h : j < k) (h2 : j < ch.length), ¬ (l.at_ ch[j]).lock = 0)) (fun vk _ => k0 - (intOf vk).toNat)
  case atStart => exact ⟨0, rfl, by omega, Below.refl _ _, Lib.hid fun j h => by omega⟩
  case round =>
    obtain ⟨k, rfl, hk, hB, HS⟩ := hrel
    by_cases hlt : k < k0
    · have k1 : k < ch.length := by rw [HN.out]; exact hlt
      obtain ⟨b, o, e, -, hb, f0⟩ := num_at HR.out (i := k) (by rw [nat2_len]; exact k1)
      subst e
      replace f0 := (hB.cell (p := ⟨b, o + k, none⟩) hb).trans f0
      rw [nat2_at ch (by rw [nat2_len]; exact k1)] at f0
      have i0 : (0 : Int) ≤ (k : Int) := by omega
      have i1 : (k : Int) < (k0 : Int) := by omega
      have HM := Lib.hid (List.getElem_mem k1)
      have HNX := Lib.hid (fun (h1 : ¬ (l.at_ ch[k]).lock = 0) (j : Nat) (h : j < k + 1) (h2 : j < ch.length) => (show ¬ (l.at_ ch[j]).lock = 0 from by
        rcases Nat.lt_or_ge j k with h3 | h3
        · exact HS.out j h3 h2
        · obtain rfl : j = k := by omega
          exact h1))
      generalize ch[k] = y at *
      have HC2 := Lib.hid (HCL.out y (HLT.out y HM.out) wr hB)
      have HB := Lib.hid hB
      clear k1 HS hB hb
      by_cases he : (l.at_ y).lock = 0
      · have HC3 := Lib.hid (HC2.out.mono fun e w' h => h.yes he)
        have HE := Lib.hid he
        clear he HNX HC2
        go_wp2_with fail
        refine (HC3.out).mono ?_
        rintro e w' ⟨rfl, hb5⟩
        have HB5 := Lib.hid (HB.out.trans (hb5.mono HB.out.size))
        clear hb5
        go_wp2_with fail
        go_ret
        exact ⟨_, rfl, ⟨fun _ => ⟨_, HM.out, HE.out⟩, fun _ => by omega⟩, HB5.out⟩
      · have HC3 := Lib.hid (HC2.out.mono fun e w' h => h.no he)
        have HE := Lib.hid (HNX.out he)
        clear he HNX HC2 HM
        go_wp2_with fail
        refine (HC3.out).mono ?_
        rintro e w' ⟨rfl, hb5⟩
        have HB5 := Lib.hid (HB.out.trans (hb5.mono HB.out.size))
        clear hb5
        go_wp2_with fail
        exact ⟨⟨k + 1, by go_num, hlt, HB5.out, Lib.hid HE.out⟩, by simp [intOf]; omega⟩
    · have HB := Lib.hid hB
      clear hB
      go_wp2_with fail
      go_ret
      refine ⟨-1, rfl, ⟨fun q => by omega, fun q => ?_⟩, HB.out⟩
      obtain ⟨x, hx, q⟩ := q
      obtain ⟨j, hj, rfl⟩ := List.mem_iff_getElem.1 hx
      exact absurd q (HS.out j (by have := HN.out; omega) hj)
theorem icontains_any (A1 A : Option Addr) (l : Ls) (ch : List Nat) (n c1 k0 c g : Nat) (w : World) (hn : l.cs.length = n) (h : Ces w 0 A1 l.cs) (hk : ch.length = k0) (hc : RdR nrow 1 w 0 A (nat2 ch)) (hm : k0 ≤ maxLen) (hlt : ∀ i, i ∈ ch → i < n) (hg : w.cell? ⟨g, 0, none⟩ = some (.slice A1 n c1)) :
    Calls Tryz.prog 125 #[.slice A k0 c, .func (.func 126) #[] #[.pointer (some ⟨g, 0, none⟩)]] w (BoolI (∃ x ∈ ch, (l.at_ x).lock = 0) w) := by
  have HI := Lib.hid (iindex_any A1 A l ch n c1 k0 c g w hn h hk hc hm hlt hg)
  clear h hn hk hc hlt hg
  go_enter Tryz.func125, Tryz.ntmps125
  go_wp2_with fail
  refine (HI.out).mono ?_
  rintro e w1 ⟨R, rfl, hr, hb1⟩
  have HR := Lib.hid hr
  have HB := Lib.hid hb1
  clear hr hb1
  go_wp2_with fail
  go_ret
  refine ⟨decide (R ≥ 0), rfl, ?_, HB.out⟩
  rw [decide_eq_true_iff]
  exact HR.out
theorem inserted_any (A1 A : Option Addr) (l : Ls) (ch : List Nat) (n c1 k0 c : Nat) (w : World) (hn : l.cs.length = n) (h : Ces w 0 A1 l.cs) (hk : ch.length = k0) (hc : RdR nrow 1 w 0 A (nat2 ch)) (hm : k0 ≤ maxLen) (hlt : ∀ i, i ∈ ch → i < n) :
    Calls Tryz.prog 82 #[.slice A1 n c1, .slice A k0 c] w (BoolI (∀ x, x ∈ ch → (l.at_ x).lock ≠ 0) w) := by
  have HB := Lib.hid ((Below.refl w.heap.size w).alloc (Nat.le_refl _) (.cells #[.slice A1 n c1] 25))
  have HI := Lib.hid (icontains_any A1 A l ch n c1 k0 c w.heap.size _ hn (RdR.below h HB.out) hk (RdR.below hc HB.out) hm hlt ((Has.new w 25 #[.slice A1 n c1]).cell 0))
  clear h hn hk hc hlt
  go_enter Tryz.func82, Tryz.ntmps82
  go_wp2_with fail
  refine (HI.out).mono ?_
  rintro e w1 ⟨b, rfl, hb, hb1⟩
  have HR := Lib.hid hb
  have HB1 := Lib.hid (HB.out.trans (hb1.mono HB.out.size))
  clear hb hb1
  go_wp2_with fail
  go_ret
  refine ⟨!b, rfl, ?_, HB1.out⟩
  have h2 := HR.out
  cases b with
  | true =>
    obtain ⟨x, hx, q⟩ := h2.1 rfl
    exact ⟨fun q => Bool.noConfusion q, fun f => absurd q (f x hx)⟩
  | false =>
    exact ⟨fun _ x hx q => Bool.noConfusion (h2.2 ⟨x, hx, q⟩), fun _ => rfl⟩
/-- A process that inserts a cell. -/
def InsP (x : Po) (i : Int) : Prop := x.cell = i ∧ x.kind = 1 ∧ (x.phase ≠ 0 ∧ x.phase ≠ 18)
set_option maxRecDepth 100000 in
theorem isIns1_any (x : Po) (g : Nat) (i : Int) (w : World) (hg : w.cell? ⟨g, 0, none⟩ = some (.int .i64 i)) :
    Calls Tryz.prog 146 #[x.val, .pointer (some ⟨g, 0, none⟩)] w (BoolI (InsP x i) w) := by
  obtain ⟨k, c, ph, pd, sc, nx, rs⟩ := x
  have HX := Lib.hid (Has.new w 63 #[.int .i64 k, .int .i64 c, .int .i64 ph, .int .i64 pd, .int .i64 sc, .int .i64 nx, .bool rs])
  have HB := Lib.hid ((Below.refl w.heap.size w).alloc (Nat.le_refl _) (.cells #[.int .i64 k, .int .i64 c, .int .i64 ph, .int .i64 pd, .int .i64 sc, .int .i64 nx, .bool rs] 63))
  have x0 := HX.out.cell 0
  have x1 := HX.out.cell 1
  have x2 := HX.out.cell 2
  have x3 := HX.out.cell 3
  have x4 := HX.out.cell 4
  have x5 := HX.out.cell 5
  have x6 := HX.out.cell 6
  have hg2 := (HB.out.cell (p := ⟨g, 0, none⟩) (World.block_lt_of_cell? w _ hg)).trans hg
  have hgz : ¬ w.heap.size = g := fun e => by have := World.block_lt_of_cell? w _ hg; simp only at this; omega
  by_cases h1 : c = i
  · subst h1
    by_cases h2 : k = 1
    · subst h2
      have HU := Lib.hid (underWay_any ⟨1, c, ph, pd, sc, nx, rs⟩ (w.alloc (.cells #[.int .i64 1, .int .i64 c, .int .i64 ph, .int .i64 pd, .int .i64 sc, .int .i64 nx, .bool rs] 63)))
      go_enter Tryz.func146, Tryz.ntmps146
      go_wp2_with fail
      refine (HU.out).mono ?_
      rintro e w1 ⟨b, rfl, hb, hb1⟩
      have HR := Lib.hid hb
      have HB1 := Lib.hid (HB.out.trans (hb1.mono HB.out.size))
      clear hb hb1
      go_wp2_with fail
      go_ret
      refine ⟨b, rfl, ?_, HB1.out⟩
      unfold InsP
      rw [HR.out]
      simp
    · have e2 : (k == 1) = false := by simpa using h2
      have e3 : decide (k = 1) = false := decide_eq_false h2
      have HN := Lib.hid h2
      clear h2
      go_enter Tryz.func146, Tryz.ntmps146
      go_wp2_with fail
      go_ret
      exact ⟨false, rfl, ⟨fun q => Bool.noConfusion q, fun q => absurd q.2.1 HN.out⟩, HB.out⟩
  · have e1 : (c == i) = false := by simpa using h1
    have e2 : decide (c = i) = false := decide_eq_false h1
    have HN := Lib.hid h1
    clear h1
    go_enter Tryz.func146, Tryz.ntmps146
    go_wp2_with fail
    go_ret
    exact ⟨false, rfl, ⟨fun q => Bool.noConfusion q, fun q => absurd q.1 HN.out⟩, HB.out⟩
set_option maxRecDepth 100000 in
set_option maxHeartbeats 1600000 in
theorem pindex_any (A : Option Addr) (l : List Po) (n c lo : Nat) (g : Nat) (i : Int) (w : World) (hn : l.length = n) (h : RdR Po.row 7 w lo A l) (hm : n ≤ maxLen) (hg : w.cell? ⟨g, 0, none⟩ = some (.int .i64 i)) :
    Calls Tryz.prog 160 #[.slice A n c, .func (.func 146) #[] #[.pointer (some ⟨g, 0, none⟩)]] w fun e w' => ∃ R : Int, e = .returned (.int .i64 R) ∧ (R ≥ 0 ↔ ∃ x ∈ l, InsP x i) ∧ Below w.heap.size w w' := by
  have hml : maxLen ≤ 9223372036854775807 := by decide
  have HN := Lib.hid hn
  have HR := Lib.hid h
  have HCL := Lib.hid (fun (x : Po) (W : World) (k : Below w.heap.size w W) => (isIns1_any x g i W ((k.cell (p := ⟨g, 0, none⟩) (World.block_lt_of_cell? w _ hg)).trans hg) : Calls Tryz.prog 146 #[x.val, .pointer (some ⟨g, 0, none⟩)] W (BoolI (InsP x i) W)))
  clear h hn
  go_enter Tryz.func160, Tryz.ntmps160
  go_wp2_with fail
  go_loopw [8] (fun vk wr => ∃ k : Nat, vk = .int .i64 (k : Int) ∧ k ≤ n ∧ Below w.heap.size w wr ∧ Hid (∀ j (h : j < k) (h2 : j < l.length), ¬ (fun x : Po => InsP x i) l[j])) (fun vk _ => n - (intOf vk).toNat)
  case atStart => exact ⟨0, rfl, by omega, Below.refl _ _, Lib.hid fun j h => by omega⟩
  case round =>
    obtain ⟨k, rfl, hk, hB, HS⟩ := hrel
    by_cases hlt : k < n
    · have k1 : k < l.length := by rw [HN.out]; exact hlt
      obtain ⟨b, o, e, -, hb, fF⟩ := Pos.at_ HR.out k1
      subst e
      obtain ⟨f0, f1, f2, f3, f4, f5, f6⟩ := fF
      replace f0 := (hB.cell (p := ⟨b, o + k * 7, none⟩) hb).trans f0
      replace f1 := (hB.cell (p := ⟨b, o + k * 7 + 1, none⟩) hb).trans f1
      replace f2 := (hB.cell (p := ⟨b, o + k * 7 + 2, none⟩) hb).trans f2
      replace f3 := (hB.cell (p := ⟨b, o + k * 7 + 3, none⟩) hb).trans f3
      replace f4 := (hB.cell (p := ⟨b, o + k * 7 + 4, none⟩) hb).trans f4
      replace f5 := (hB.cell (p := ⟨b, o + k * 7 + 5, none⟩) hb).trans f5
      replace f6 := (hB.cell (p := ⟨b, o + k * 7 + 6, none⟩) hb).trans f6
      have i0 : (0 : Int) ≤ (k : Int) := by omega
      have i1 : (k : Int) < (n : Int) := by omega
      have HM := Lib.hid (List.getElem_mem k1)
      have HNX := Lib.hid (fun (h1 : ¬ (fun x : Po => InsP x i) l[k]) (j : Nat) (h : j < k + 1) (h2 : j < l.length) => (show ¬ (fun x : Po => InsP x i) l[j] from by
        rcases Nat.lt_or_ge j k with h3 | h3
        · exact HS.out j h3 h2
        · obtain rfl : j = k := by omega
          exact h1))
      generalize l[k] = y at *
      have HC2 := Lib.hid (HCL.out y wr hB)
      have HB := Lib.hid hB
      clear k1 HS hB hb
      obtain ⟨xk, xc, xp, xd, xs, xx, xr⟩ := y
      simp only at f0 f1 f2 f3 f4 f5 f6
      by_cases he : (fun x : Po => InsP x i) ⟨xk, xc, xp, xd, xs, xx, xr⟩
      · have HC3 := Lib.hid (HC2.out.mono fun e w' h => h.yes he)
        have HE := Lib.hid he
        clear he HNX HC2
        go_wp2_with fail
        refine (HC3.out).mono ?_
        rintro e w' ⟨rfl, hb5⟩
        have HB5 := Lib.hid (HB.out.trans (hb5.mono HB.out.size))
        clear hb5
        go_wp2_with fail
        go_ret
        exact ⟨_, rfl, ⟨fun _ => ⟨_, HM.out, HE.out⟩, fun _ => by omega⟩, HB5.out⟩
      · have HC3 := Lib.hid (HC2.out.mono fun e w' h => h.no he)
        have HE := Lib.hid (HNX.out he)
        clear he HNX HC2 HM
        go_wp2_with fail
        refine (HC3.out).mono ?_
        rintro e w' ⟨rfl, hb5⟩
        have HB5 := Lib.hid (HB.out.trans (hb5.mono HB.out.size))
        clear hb5
        go_wp2_with fail
        exact ⟨⟨k + 1, by go_num, hlt, HB5.out, Lib.hid HE.out⟩, by simp [intOf]; omega⟩
    · have HB := Lib.hid hB
      clear hB
      go_wp2_with fail
      go_ret
      refine ⟨-1, rfl, ⟨fun q => by omega, fun q => ?_⟩, HB.out⟩
      obtain ⟨x, hx, q⟩ := q
      obtain ⟨j, hj, rfl⟩ := List.mem_iff_getElem.1 hx
      exact absurd q (HS.out j (by have := HN.out; omega) hj)
theorem pcontains_any (A : Option Addr) (l : List Po) (n c lo : Nat) (g : Nat) (i : Int) (w : World) (hn : l.length = n) (h : RdR Po.row 7 w lo A l) (hm : n ≤ maxLen) (hg : w.cell? ⟨g, 0, none⟩ = some (.int .i64 i)) :
    Calls Tryz.prog 141 #[.slice A n c, .func (.func 146) #[] #[.pointer (some ⟨g, 0, none⟩)]] w (BoolI (∃ x ∈ l, InsP x i) w) := by
  have HI := Lib.hid (pindex_any A l n c lo g i w hn h hm hg)
  clear h hn
  go_enter Tryz.func141, Tryz.ntmps141
  go_wp2_with fail
  refine (HI.out).mono ?_
  rintro e w1 ⟨R, rfl, hr, hb1⟩
  have HR := Lib.hid hr
  have HB := Lib.hid hb1
  clear hr hb1
  go_wp2_with fail
  go_ret
  refine ⟨decide (R ≥ 0), rfl, ?_, HB.out⟩
  rw [decide_eq_true_iff]
  exact HR.out
theorem isInserted_any (A : Option Addr) (l : List Po) (n c : Nat) (i : Nat) (w : World) (hn : l.length = n) (h : Pos w 0 A l) (hm : n ≤ maxLen) :
    Calls Tryz.prog 127 #[.slice A n c, .int .i64 (i : Int)] w (BoolI (∃ x ∈ l, InsP x (i : Int)) w) := by
  have HB := Lib.hid ((Below.refl w.heap.size w).alloc (Nat.le_refl _) (.cells #[.int .i64 (i : Int)] 3))
  have HI := Lib.hid (pcontains_any A l n c 0 w.heap.size (i : Int) _ hn (RdR.below h HB.out) hm ((Has.new w 3 #[.int .i64 (i : Int)]).cell 0))
  clear h hn
  go_enter Tryz.func127, Tryz.ntmps127
  go_wp2_with fail
  refine (HI.out).mono ?_
  rintro e w1 ⟨b, rfl, hb, hb1⟩
  have HR := Lib.hid hb
  have HB1 := Lib.hid (HB.out.trans (hb1.mono HB.out.size))
  clear hb hb1
  go_wp2_with fail
  go_ret
  exact ⟨b, rfl, HR.out, HB1.out⟩
theorem insB_iff (l : Ls) (i : Nat) : insB l i = true ↔ ∃ x ∈ l.ps, InsP x (i : Int) := by
  unfold insB InsP
  rw [List.any_eq_true]
  simp only [Bool.and_eq_true, decide_eq_true_eq]
set_option maxRecDepth 100000 in
set_option maxHeartbeats 6400000 in
theorem accounted_any (A1 A2 A : Option Addr) (l : Ls) (ch : List Nat) (n m c1 c2 k0 c : Nat) (w : World) (hn : l.cs.length = n) (hm : l.ps.length = m) (h : RdL w 0 A1 A2 l) (hk : ch.length = k0) (hc : RdR nrow 1 w 0 A (nat2 ch)) (hm1 : k0 ≤ maxLen) (hm2 : m ≤ maxLen) (hm3 : n ≤ 1000000) :
    Calls Tryz.prog 83 #[.agg #[.slice A1 n c1, .slice A2 m c2], .slice A k0 c] w (BoolI (∀ i, i < l.cs.length → accB l ch i = true) w) := by
  have HB0 := Lib.hid ((Below.refl w.heap.size w).alloc (Nat.le_refl _) (.cells #[.slice A1 n c1, .slice A2 m c2] 28))
  have HX0 := Lib.hid (Has.new w 28 #[.slice A1 n c1, .slice A2 m c2])
  have HN := Lib.hid hn
  have HM := Lib.hid hm
  have HL := Lib.hid h
  obtain ⟨B, hB⟩ : ∃ B, B = w.heap.size := ⟨_, rfl⟩
  have HBB := Lib.hid hB
  have HSZ : Hid ((w.alloc (.cells #[.slice A1 n c1, .slice A2 m c2] 28)).heap.size = B + 1) := Lib.hid (by rw [World.size_alloc, hB])
  have HCO := Lib.hid (fun (i : Nat) (V : World) (k : Below w.heap.size w V) => contains_any A (nat2 ch) k0 c 0 (i : Int) V (by rw [nat2_len]; exact hk) (RdR.below hc k) hm1)
  have HII := Lib.hid (fun (i : Nat) (V : World) (k : Below w.heap.size w V) => isInserted_any A2 l.ps m c2 i V hm (RdR.below h.ps k) hm2)
  have x0 := HX0.out.cell 0
  have x1 := HX0.out.cell 1
  rw [← hB] at HB0 HX0 x0 x1 HCO HII
  clear h hn hm hk hc
  go_enter Tryz.func83, Tryz.ntmps83
  go_upto_region 1 with fail
  rw [← hB]
  generalize w.alloc (.cells #[.slice A1 n c1, .slice A2 m c2] 28) = W0 at *
  clear hB
  go_wp2_with fail
  go_loopw [10] (fun vi wr => ∃ (i : Nat), vi = .int .i64 (i : Int) ∧ i ≤ n ∧ Has wr B 28 #[.slice A1 n c1, .slice A2 m c2] ∧ Below B w wr ∧ B + 1 ≤ wr.heap.size ∧ Hid (∀ j, j < i → accB l ch j = true)) (fun vi _ => n - (intOf vi).toNat)
  case atStart => exact ⟨0, rfl, by omega, HX0.out, HB0.out, by rw [HSZ.out]; omega, Lib.hid fun j h => by omega⟩
  case round =>
    obtain ⟨i, rfl, hi, hX, hB, hSz, HS⟩ := hrel
    clear HB0 HX0 HSZ x0 x1
    have HX := Lib.hid hX
    have HB := Lib.hid hB
    have x0 := hX.cell 0
    have x1 := hX.cell 1
    clear hX
    by_cases hlt : i < n
    · have i2 : i < l.cs.length := by rw [HN.out]; exact hlt
      obtain ⟨b, o, e, -, hb, f0, f1, f2, f3, f4⟩ := HL.out.cell i2
      subst e
      rw [← HBB.out] at hb
      replace f0 := (hB.cell (p := ⟨b, o + i * 5, none⟩) hb).trans f0
      replace f1 := (hB.cell (p := ⟨b, o + i * 5 + 1, none⟩) hb).trans f1
      replace f2 := (hB.cell (p := ⟨b, o + i * 5 + 2, none⟩) hb).trans f2
      replace f3 := (hB.cell (p := ⟨b, o + i * 5 + 3, none⟩) hb).trans f3
      replace f4 := (hB.cell (p := ⟨b, o + i * 5 + 4, none⟩) hb).trans f4
      have i0 : (0 : Int) ≤ (i : Int) := by omega
      have i1 : (i : Int) < (n : Int) := by omega
      have HAC : Hid (accB l ch i = (!(decide ((l.at_ i).lock = 0) && (l.at_ i).gone) && !(decide ((l.at_ i).lock = 1) && !(l.at_ i).gone && !ch.contains i && !insB l i))) := Lib.hid rfl
      have HBAD : Hid (accB l ch i = false → ¬ ∀ i, i < l.cs.length → accB l ch i = true) := Lib.hid fun h1 h2 => by
        rw [h2 i i2] at h1; cases h1
      have HNX : Hid (accB l ch i = true → ∀ j, j < i + 1 → accB l ch j = true) := Lib.hid fun h1 j h2 => by
        rcases Nat.lt_or_ge j i with h3 | h3
        · exact HS.out j h3
        · obtain rfl : j = i := by omega
          exact h1
      generalize l.at_ i = x at *
      obtain ⟨xk, xl, xr, xo, xg⟩ := x
      simp only at f0 f1 f2 f3 f4 HAC
      have HXN := Lib.hid (Has.new wr 66 #[.string xk, .int .i64 xl, .int .i64 xr, .int .i64 xo, .bool xg])
      have hbn := (Below.refl wr.heap.size wr).alloc (Nat.le_refl _) (.cells #[.string xk, .int .i64 xl, .int .i64 xr, .int .i64 xo, .bool xg] 66)
      have HX2 := Lib.hid (HX.out.below hbn)
      have HB2 := Lib.hid (HB.out.trans (hbn.mono (by omega)))
      have hS2 : B + 1 ≤ (wr.alloc (.cells #[.string xk, .int .i64 xl, .int .i64 xr, .int .i64 xo, .bool xg] 66)).heap.size := by rw [World.size_alloc]; omega
      clear hbn HX HB hB HS i2 hb
      go_upto_region 4 with fail
      clear f0 f1 f2 f3 f4 x0 x1
      obtain ⟨C, hC⟩ : ∃ C, C = wr.heap.size := ⟨_, rfl⟩
      generalize hW : wr.alloc (.cells #[.string xk, .int .i64 xl, .int .i64 xr, .int .i64 xo, .bool xg] 66) = W at *
      rw [← hC] at HXN ⊢
      clear hC hW
      have x0 := HX2.out.cell 0
      have x1 := HX2.out.cell 1
      have y3 := HXN.out.cell 3
      have y4 := HXN.out.cell 4
      have good : Hid (accB l ch i = true → Below B w W → ((∃ i', Value.int .i64 ((i : Int) + 1) = .int .i64 (i' : Int)) ∨ True)) := Lib.hid (fun _ _ => .inr trivial)
      clear good
      by_cases q0 : xo = 0
      · subst q0
        cases xg with
        | true =>
          have HG := Lib.hid (HBAD.out (by rw [HAC.out]; simp))
          go_wp2_with fail
          go_ret
          exact ⟨false, rfl, ⟨fun q => Bool.noConfusion q, fun q => absurd q HG.out⟩, by rw [← HBB.out]; exact HB2.out⟩
        | false =>
          have HG := Lib.hid (HNX.out (by rw [HAC.out]; simp))
          go_wp2_with fail
          exact ⟨⟨i + 1, by go_num, hlt, HX2.out, HB2.out, hS2, HG⟩, by simp [intOf]; omega⟩
      · have d0 : (xo == 0) = false := by simpa using q0
        have d0' : decide (xo = 0) = false := decide_eq_false q0
        by_cases q1 : xo = 1
        · subst q1
          cases xg with
          | true =>
            have HG := Lib.hid (HNX.out (by rw [HAC.out]; simp))
            go_wp2_with fail
            exact ⟨⟨i + 1, by go_num, hlt, HX2.out, HB2.out, hS2, HG⟩, by simp [intOf]; omega⟩
          | false =>
            have HC2 := Lib.hid (HCO.out i W HB2.out)
            cases hco : ch.contains i with
            | true =>
              have HC3 := Lib.hid (HC2.out.mono fun e w' h => h.yes ((nat2_mem ch i).2 (by rw [← List.contains_iff_mem]; exact hco)))
              have HG := Lib.hid (HNX.out (by rw [HAC.out, hco]; simp))
              clear HC2 hco
              go_wp2_with fail
              refine (HC3.out).mono ?_
              rintro e w5 ⟨rfl, rfl⟩
              go_wp2_with fail
              exact ⟨⟨i + 1, by go_num, hlt, HX2.out, HB2.out, hS2, HG⟩, by simp [intOf]; omega⟩
            | false =>
              have HC3 := Lib.hid (HC2.out.mono fun e w' h => h.no (fun q => by
                have := (nat2_mem ch i).1 q
                rw [← List.contains_iff_mem, hco] at this
                cases this))
              have HI2 := Lib.hid (HII.out i W HB2.out)
              cases hin : insB l i with
              | true =>
                have HI3 := Lib.hid (HI2.out.mono fun e w' h => h.yes ((insB_iff l i).1 hin))
                have HG := Lib.hid (HNX.out (by rw [HAC.out, hco, hin]; simp))
                clear HC2 HI2 hco hin
                go_wp2_with (go_at_call 111; with_reducible refine (HC3.out).mono ?_; rintro e w5 ⟨rfl, rfl⟩)
                refine (HI3.out).mono ?_
                rintro e w5 ⟨rfl, hb5⟩
                have HX5 := Lib.hid (HX2.out.below hb5)
                have HB5 := Lib.hid (HB2.out.trans (hb5.mono (by omega)))
                have hs5 : B + 1 ≤ w5.heap.size := by have := hb5.size; omega
                clear hb5
                go_wp2_with fail
                exact ⟨⟨i + 1, by go_num, hlt, HX5.out, HB5.out, hs5, HG⟩, by simp [intOf]; omega⟩
              | false =>
                have HI3 := Lib.hid (HI2.out.mono fun e w' h => h.no (fun q => by
                  have := (insB_iff l i).2 q
                  rw [hin] at this; cases this))
                have HG := Lib.hid (HBAD.out (by rw [HAC.out, hco, hin]; simp))
                clear HC2 HI2 hco hin
                go_wp2_with (go_at_call 111; with_reducible refine (HC3.out).mono ?_; rintro e w5 ⟨rfl, rfl⟩)
                refine (HI3.out).mono ?_
                rintro e w5 ⟨rfl, hb5⟩
                have HB5 := Lib.hid (HB2.out.trans (hb5.mono (by omega)))
                clear hb5
                go_wp2_with fail
                go_ret
                exact ⟨false, rfl, ⟨fun q => Bool.noConfusion q, fun q => absurd q HG.out⟩, by rw [← HBB.out]; exact HB5.out⟩
        · have d1 : (xo == 1) = false := by simpa using q1
          have d1' : decide (xo = 1) = false := decide_eq_false q1
          have HG := Lib.hid (HNX.out (by rw [HAC.out]; simp [q0, q1]))
          go_wp2_with fail
          exact ⟨⟨i + 1, by go_num, hlt, HX2.out, HB2.out, hS2, HG⟩, by simp [intOf]; omega⟩
    · have HS2 := Lib.hid (show ∀ i, i < l.cs.length → accB l ch i = true from fun j hj => HS.out j (by have := HN.out; omega))
      clear hB
      go_wp2_with fail
      go_ret
      exact ⟨true, rfl, ⟨fun _ => HS2.out, fun _ => rfl⟩, by rw [← HBB.out]; exact HB.out⟩
set_option maxRecDepth 100000 in
set_option maxHeartbeats 6400000 in
theorem leadBack_any (A : Option Addr) (l : Ls) (n c : Nat) (w : World) (hn : l.cs.length = n) (h : Ces w 0 A l.cs) (v : Vlf l) :
    Calls Tryz.prog 84 #[.slice A n c] w (BoolI (∀ i, i < l.cs.length → (l.at_ i).gone = true → (chnV l l.cs.length i).isSome = true) w) := by
  have HN := Lib.hid hn
  have HL := Lib.hid h
  have n66 : n ≤ 66 := by rw [← hn]; exact v.n66
  have HCH := Lib.hid (fun (i : Nat) (hi : i < n) (V : World) (k : Below w.heap.size w V) => chainFrom_any A l n c i V hn (RdR.below h k) v hi)
  have HB0 : Hid (Below w.heap.size w w) := Lib.hid (Below.refl _ _)
  clear h hn v
  go_enter Tryz.func84, Tryz.ntmps84
  go_wp2_with fail
  go_loopw [9] (fun vi wr => ∃ (i : Nat), vi = .int .i64 (i : Int) ∧ i ≤ n ∧ Below w.heap.size w wr ∧ Hid (∀ j, j < i → (l.at_ j).gone = true → (chnV l l.cs.length j).isSome = true)) (fun vi _ => n - (intOf vi).toNat)
  case atStart => exact ⟨0, rfl, by omega, HB0.out, Lib.hid fun j h => by omega⟩
  case round =>
    obtain ⟨i, rfl, hi, hB, HS⟩ := hrel
    have HB := Lib.hid hB
    by_cases hlt : i < n
    · have i2 : i < l.cs.length := by rw [HN.out]; exact hlt
      obtain ⟨b, o, e, -, hb, f0, f1, f2, f3, f4⟩ := Ces.at_ HL.out i2
      rw [l.at_lt i2] at f0 f1 f2 f3 f4
      subst e
      replace f0 := (hB.cell (p := ⟨b, o + i * 5, none⟩) hb).trans f0
      replace f1 := (hB.cell (p := ⟨b, o + i * 5 + 1, none⟩) hb).trans f1
      replace f2 := (hB.cell (p := ⟨b, o + i * 5 + 2, none⟩) hb).trans f2
      replace f3 := (hB.cell (p := ⟨b, o + i * 5 + 3, none⟩) hb).trans f3
      replace f4 := (hB.cell (p := ⟨b, o + i * 5 + 4, none⟩) hb).trans f4
      have i0 : (0 : Int) ≤ (i : Int) := by omega
      have i1 : (i : Int) < (n : Int) := by omega
      have HBAD : Hid ((l.at_ i).gone = true → chnV l l.cs.length i = none → ¬ ∀ i, i < l.cs.length → (l.at_ i).gone = true → (chnV l l.cs.length i).isSome = true) := Lib.hid fun h1 h2 h3 => by
        have := h3 i i2 h1; rw [h2] at this; cases this
      have HNX : Hid (((l.at_ i).gone = true → (chnV l l.cs.length i).isSome = true) → ∀ j, j < i + 1 → (l.at_ j).gone = true → (chnV l l.cs.length j).isSome = true) := Lib.hid fun h1 j h2 => by
        rcases Nat.lt_or_ge j i with h3 | h3
        · exact HS.out j h3
        · obtain rfl : j = i := by omega
          exact h1
      obtain ⟨g, hg⟩ : ∃ g, g = (l.at_ i).gone := ⟨_, rfl⟩
      have HGE := Lib.hid hg
      rw [← hg] at f4
      clear hg
      obtain ⟨x, hx⟩ : ∃ x, x = l.at_ i := ⟨_, rfl⟩
      rw [← hx] at f0 f1 f2 f3
      clear hx
      obtain ⟨xk, xl, xr, xo, xg⟩ := x
      simp only at f0 f1 f2 f3
      have HXN := Lib.hid (Has.new wr 66 #[.string xk, .int .i64 xl, .int .i64 xr, .int .i64 xo, .bool g])
      have hbn := (Below.refl wr.heap.size wr).alloc (Nat.le_refl _) (.cells #[.string xk, .int .i64 xl, .int .i64 xr, .int .i64 xo, .bool g] 66)
      have HB2 := Lib.hid (HB.out.trans (hbn.mono HB.out.size))
      clear hbn HB hB HS i2 hb
      go_upto_region 4 with fail
      clear f0 f1 f2 f3 f4
      generalize wr.alloc (.cells #[.string xk, .int .i64 xl, .int .i64 xr, .int .i64 xo, .bool g] 66) = W at *
      have y4 := HXN.out.cell 4
      cases g with
      | false =>
        have HG := Lib.hid (HNX.out (fun q => by rw [← HGE.out] at q; cases q))
        go_wp2_with fail
        exact ⟨⟨i + 1, by go_num, hlt, HB2.out, HG⟩, by simp [intOf]; omega⟩
      | true =>
        have HC2 := Lib.hid (HCH.out i hlt W HB2.out)
        go_wp2_with fail
        refine (HC2.out).mono ?_
        intro e w5 h5
        rcases h5 with ⟨h0, rfl, hb5⟩ | ⟨ch, A5, n5, c5, h0, rfl, -, -, -, -, hb5⟩
        · have HG := Lib.hid (HBAD.out HGE.out.symm h0)
          have HB5 := Lib.hid (HB2.out.trans (hb5.mono HB2.out.size))
          clear h0 hb5 HC2
          go_wp2_with fail
          go_ret
          exact ⟨false, rfl, ⟨fun q => Bool.noConfusion q, fun q => absurd q HG.out⟩, HB5.out⟩
        · have HG := Lib.hid (HNX.out (fun _ => by rw [h0]; rfl))
          have HB5 := Lib.hid (HB2.out.trans (hb5.mono HB2.out.size))
          clear h0 hb5 HC2
          go_wp2_with fail
          exact ⟨⟨i + 1, by go_num, hlt, HB5.out, HG⟩, by simp [intOf]; omega⟩
    · have HS2 := Lib.hid (show ∀ i, i < l.cs.length → (l.at_ i).gone = true → (chnV l l.cs.length i).isSome = true from fun j hj => HS.out j (by have := HN.out; omega))
      clear hB
      go_wp2_with fail
      go_ret
      exact ⟨true, rfl, ⟨fun _ => HS2.out, fun _ => rfl⟩, HB.out⟩
end Lf
end
section
open Go.RowKit Go.Maps
namespace Lf
open Lk
theorem chk_iff {l : Ls} (v : Vlf l) : chkB l = true ↔ (l.at_ 0).gone = false ∧ (l.at_ 1).gone = false ∧ ∃ ch, chnV l l.cs.length 0 = some ch ∧ (∀ x, x ∈ ch → (l.at_ x).lock ≠ 0) ∧ (∀ i, i < l.cs.length → accB l ch i = true) ∧ (∀ i, i < l.cs.length → (l.at_ i).gone = true → (chnV l l.cs.length i).isSome = true) := by
  unfold chkB
  rw [vldB_yes v, Bool.true_and]
  cases (l.at_ 0).gone with
  | true => simp
  | false =>
    cases (l.at_ 1).gone with
    | true => simp
    | false =>
      cases hc : chnV l l.cs.length 0 with
      | none => simp
      | some ch =>
        simp only [Bool.not_false, Bool.true_and]
        show ((_ && _ && _) = true) ↔ _
        rw [Bool.and_eq_true, Bool.and_eq_true, List.all_eq_true, List.all_eq_true, List.all_eq_true]
        constructor
        · rintro ⟨⟨a, b⟩, c⟩
          refine ⟨(by first | rfl | trivial), (by first | rfl | trivial), ch, rfl, fun x hx => of_decide_eq_true (a x hx), fun i hi => b i (List.mem_range.2 hi), fun i hi hg => ?_⟩
          have := c i (List.mem_range.2 hi)
          rw [hg] at this
          simpa using this
        · rintro ⟨-, -, ch', e, a, b, c⟩
          injection e with e
          subst e
          refine ⟨⟨fun x hx => decide_eq_true (a x hx), fun i hi => b i (List.mem_range.1 hi)⟩, fun i hi => ?_⟩
          cases hg : (l.at_ i).gone with
          | false => rfl
          | true => rw [c i (List.mem_range.1 hi) hg]; rfl
set_option maxRecDepth 100000 in
set_option maxHeartbeats 6400000 in
theorem check_any (A1 : Option Addr) (A2 : Addr) (l : Ls) (n m c1 c2 : Nat) (w : World) (hn : l.cs.length = n) (hm : l.ps.length = m) (h : RdL w 0 A1 (some A2) l) (m0 : 0 < m) (m1 : m ≤ 1000000) (n1 : n ≤ 1000000) :
    Calls Tryz.prog 37 #[.agg #[.slice A1 n c1, .slice (some A2) m c2]] w (BoolI (chkB l = true) w) := by
  have hb := (Below.refl w.heap.size w).alloc (Nat.le_refl _) (.cells #[.slice A1 n c1, .slice (some A2) m c2] 28)
  have HB := Lib.hid hb
  have HX := Lib.hid (Has.new w 28 #[.slice A1 n c1, .slice (some A2) m c2])
  have HL := Lib.hid (h.below hb)
  have HVA := Lib.hid (valid_any A1 A2 l n m c1 c2 _ hn hm HL.out m0 m1 n1)
  by_cases v : Vlf l
  · have H1 := Lib.hid (HVA.out.mono fun e w' h => h.yes v)
    have HN := Lib.hid hn
    have HM := Lib.hid hm
    have HV := Lib.hid v
    have HCI := Lib.hid (chk_iff v)
    have n66 : n ≤ 66 := by rw [← hn]; exact v.n66
    have m8 : m ≤ 8 := by rw [← hm]; exact v.m8
    have n2 : 2 ≤ n := by rw [← hn]; exact v.n2
    clear hb h hn hm v HVA
    go_enter Tryz.func37, Tryz.ntmps37
    go_upto_region 1 with fail
    generalize w.alloc (.cells #[.slice A1 n c1, .slice (some A2) m c2] 28) = W at *
    have x0 := HX.out.cell 0
    have x1 := HX.out.cell 1
    have HXB := Lib.hid (fun (V : World) (k : Below W.heap.size W V) => HX.out.below k)
    obtain ⟨b, o, e, -, hbz, -, -, -, -, f4⟩ := HL.out.cell (i := 0) (by rw [HN.out]; omega)
    obtain ⟨b', o', e', -, hbz', -, -, -, -, g4⟩ := HL.out.cell (i := 1) (by rw [HN.out]; omega)
    rw [e] at e'
    injection e' with e'
    injection e' with e1 e2
    subst e1 e2
    subst e
    have HF4 := Lib.hid (fun (V : World) (k : Below W.heap.size W V) => (k.cell (p := ⟨b, o + 0 * 5 + 4, none⟩) hbz).trans f4)
    have HG4 := Lib.hid (fun (V : World) (k : Below W.heap.size W V) => (k.cell (p := ⟨b, o + 1 * 5 + 4, none⟩) hbz').trans g4)
    clear f4 g4
    have i0 : (0 : Int) < (n : Int) := by omega
    have i1 : (1 : Int) < (n : Int) := by omega
    cases hg0 : (l.at_ 0).gone with
    | true =>
      rw [hg0] at HF4
      have HR : Hid (¬ chkB l = true) := Lib.hid (fun q => by have := (HCI.out.1 q).1; rw [hg0] at this; cases this)
      clear hg0
      go_wp2_with (go_at_call 74; with_reducible refine (H1.out).mono ?_; rintro e w2 ⟨rfl, hb2⟩; have x0 := (HXB.out w2 hb2).cell 0; have x1 := (HXB.out w2 hb2).cell 1; have f4 := HF4.out w2 hb2; have HB2 := Lib.hid (HB.out.trans (hb2.mono HB.out.size)))
      go_ret
      exact ⟨false, rfl, ⟨fun q => Bool.noConfusion q, fun q => absurd q HR.out⟩, HB2.out⟩
    | false =>
      rw [hg0] at HF4
      cases hg1 : (l.at_ 1).gone with
      | true =>
        rw [hg1] at HG4
        have HR : Hid (¬ chkB l = true) := Lib.hid (fun q => by have := (HCI.out.1 q).2.1; rw [hg1] at this; cases this)
        clear hg0 hg1
        go_wp2_with (go_at_call 74; with_reducible refine (H1.out).mono ?_; rintro e w2 ⟨rfl, hb2⟩; have x0 := (HXB.out w2 hb2).cell 0; have x1 := (HXB.out w2 hb2).cell 1; have f4 := HF4.out w2 hb2; have g4 := HG4.out w2 hb2; have HB2 := Lib.hid (HB.out.trans (hb2.mono HB.out.size)))
        go_ret
        exact ⟨false, rfl, ⟨fun q => Bool.noConfusion q, fun q => absurd q HR.out⟩, HB2.out⟩
      | false =>
        rw [hg1] at HG4
        rw [hg0, hg1] at HCI
        have HL2 := Lib.hid (fun (V : World) (k : Below W.heap.size W V) => HL.out.below k)
        clear hg0 hg1
        go_wp2_with (go_at_call 74; with_reducible refine (H1.out).mono ?_; rintro e w2 ⟨rfl, hb2⟩; have x0 := (HXB.out w2 hb2).cell 0; have x1 := (HXB.out w2 hb2).cell 1; have f4 := HF4.out w2 hb2; have g4 := HG4.out w2 hb2)
        have HBW := Lib.hid hb2
        refine (chainFrom_any (some ⟨b, o, none⟩) l n c1 0 w2 HN.out (HL2.out w2 hb2).cs HV.out (by omega)).mono ?_
        intro e w3 h3
        clear x0 x1 f4 g4 HF4 HG4 hb2
        rcases h3 with ⟨h0, rfl, hb3⟩ | ⟨ch, A, k0, c, h0, rfl, hk, hkn, hkc, hr, hb3⟩
        · have HB3 := Lib.hid (HB.out.trans ((HBW.out.trans (hb3.mono HBW.out.size)).mono HB.out.size))
          have HR : Hid (¬ chkB l = true) := Lib.hid (fun q => by
            obtain ⟨-, -, ch, e, -⟩ := HCI.out.1 q
            rw [h0] at e; cases e)
          clear h0 hb3
          go_wp2_with fail
          go_ret
          exact ⟨false, rfl, ⟨fun q => Bool.noConfusion q, fun q => absurd q HR.out⟩, HB3.out⟩
        · have HBW3 := Lib.hid (HBW.out.trans (hb3.mono HBW.out.size))
          have HCI2 : Hid (chkB l = true ↔ (∀ x, x ∈ ch → (l.at_ x).lock ≠ 0) ∧ (∀ i, i < l.cs.length → accB l ch i = true) ∧ (∀ i, i < l.cs.length → (l.at_ i).gone = true → (chnV l l.cs.length i).isSome = true)) := Lib.hid (by
            rw [HCI.out]
            constructor
            · rintro ⟨-, -, ch', e, q⟩
              rw [h0] at e
              injection e with e
              subst e
              exact q
            · intro q
              exact ⟨(by first | rfl | trivial), (by first | rfl | trivial), ch, h0, q⟩)
          have kml : k0 ≤ maxLen := by unfold maxLen; have := HN.out; omega
          have mml : m ≤ maxLen := by unfold maxLen; omega
          have HLT : Hid (∀ i, i ∈ ch → i < n) := Lib.hid (fun i hi => by rw [← HN.out]; exact chn_lt HV.out (by rw [HN.out]; omega) h0 i hi)
          have HRR := Lib.hid (hr.low (Nat.zero_le _))
          have HINS := Lib.hid (fun (V : World) (q : Below w3.heap.size w3 V) => inserted_any (some ⟨b, o, none⟩) A l ch n c1 k0 c V HN.out (HL2.out V (HBW3.out.trans (q.mono HBW3.out.size))).cs hk (RdR.below HRR.out q) kml HLT.out)
          have HACC := Lib.hid (fun (V : World) (q : Below w3.heap.size w3 V) => accounted_any (some ⟨b, o, none⟩) (some A2) A l ch n m c1 c2 k0 c V HN.out HM.out (HL2.out V (HBW3.out.trans (q.mono HBW3.out.size))) hk (RdR.below HRR.out q) kml mml (by omega))
          have HLB := Lib.hid (fun (V : World) (q : Below w3.heap.size w3 V) => leadBack_any (some ⟨b, o, none⟩) l n c1 V HN.out (HL2.out V (HBW3.out.trans (q.mono HBW3.out.size))).cs HV.out)
          have HX3 := Lib.hid (fun (V : World) (q : Below w3.heap.size w3 V) => HXB.out V (HBW3.out.trans (q.mono HBW3.out.size)))
          have HB3 := Lib.hid (HB.out.trans (HBW3.out.mono HB.out.size))
          have x0 := (HX3.out w3 (Below.refl _ _)).cell 0
          have x1 := (HX3.out w3 (Below.refl _ _)).cell 1
          clear h0 hb3 hk hr HCI HL2 HXB
          have HI0 := Lib.hid (HINS.out w3 (Below.refl _ _))
          by_cases p1 : ∀ x, x ∈ ch → (l.at_ x).lock ≠ 0
          · have HI1 := Lib.hid (HI0.out.mono fun e w' h => h.yes p1)
            by_cases p2 : ∀ i, i < l.cs.length → accB l ch i = true
            · have HA1 := Lib.hid (fun V q => (HACC.out V q).mono fun e w' h => h.yes p2)
              have HF : Hid (chkB l = true ↔ ∀ i, i < l.cs.length → (l.at_ i).gone = true → (chnV l l.cs.length i).isSome = true) := Lib.hid (by rw [HCI2.out]; exact ⟨fun q => q.2.2, fun q => ⟨p1, p2, q⟩⟩)
              clear p1 p2
              go_wp2_with (first | (go_at_call 82; with_reducible refine (HI1.out).mono ?_; rintro e w4 ⟨rfl, hb4⟩; have x0 := (HX3.out w4 hb4).cell 0; have x1 := (HX3.out w4 hb4).cell 1) | (go_at_call 83; with_reducible refine (HA1.out w4 hb4).mono ?_; rintro e w5 ⟨rfl, hb5⟩; have x0 := (HX3.out w5 (hb4.trans (hb5.mono hb4.size))).cell 0; have x1 := (HX3.out w5 (hb4.trans (hb5.mono hb4.size))).cell 1))
              refine (HLB.out w5 (hb4.trans (hb5.mono hb4.size))).mono ?_
              rintro e w6 ⟨bb, rfl, hbb, hb6⟩
              have HBB := Lib.hid hbb
              have HB6 := Lib.hid (HB3.out.trans (((hb4.trans (hb5.mono hb4.size)).trans (hb6.mono (hb4.trans (hb5.mono hb4.size)).size)).mono HB3.out.size))
              clear hbb hb4 hb5 hb6 x0 x1
              go_wp2_with fail
              go_ret
              exact ⟨bb, rfl, HBB.out.trans HF.out.symm, HB6.out⟩
            · have HA1 := Lib.hid (fun V q => (HACC.out V q).mono fun e w' h => h.no p2)
              have HF : Hid (¬ chkB l = true) := Lib.hid (fun q => p2 (HCI2.out.1 q).2.1)
              clear p1 p2
              go_wp2_with (first | (go_at_call 82; with_reducible refine (HI1.out).mono ?_; rintro e w4 ⟨rfl, hb4⟩; have x0 := (HX3.out w4 hb4).cell 0; have x1 := (HX3.out w4 hb4).cell 1) | (go_at_call 83; with_reducible refine (HA1.out w4 hb4).mono ?_; rintro e w5 ⟨rfl, hb5⟩; have x0 := (HX3.out w5 (hb4.trans (hb5.mono hb4.size))).cell 0; have x1 := (HX3.out w5 (hb4.trans (hb5.mono hb4.size))).cell 1))
              go_ret
              exact ⟨false, rfl, ⟨fun q => Bool.noConfusion q, fun q => absurd q HF.out⟩, HB3.out.trans ((hb4.trans (hb5.mono hb4.size)).mono HB3.out.size)⟩
          · have HI1 := Lib.hid (HI0.out.mono fun e w' h => h.no p1)
            have HF : Hid (¬ chkB l = true) := Lib.hid (fun q => p1 (HCI2.out.1 q).1)
            clear p1
            go_wp2_with (go_at_call 82; with_reducible refine (HI1.out).mono ?_; rintro e w4 ⟨rfl, hb4⟩; have x0 := (HX3.out w4 hb4).cell 0; have x1 := (HX3.out w4 hb4).cell 1)
            go_ret
            exact ⟨false, rfl, ⟨fun q => Bool.noConfusion q, fun q => absurd q HF.out⟩, HB3.out.trans (hb4.mono HB3.out.size)⟩
  · have H1 := Lib.hid (HVA.out.mono fun e w' h => h.no v)
    have HR : Hid (¬ chkB l = true) := Lib.hid (fun q => by unfold chkB at q; rw [vldB_no v] at q; simp at q)
    have x0 := HX.out.cell 0
    have x1 := HX.out.cell 1
    clear hb h hn hm v HVA
    go_enter Tryz.func37, Tryz.ntmps37
    go_upto_region 1 with fail
    generalize w.alloc (.cells #[.slice A1 n c1, .slice (some A2) m c2] 28) = W at *
    go_wp2_with (go_at_call 74; with_reducible refine (H1.out).mono ?_; rintro e w2 ⟨rfl, hb2⟩; have HB2 := Lib.hid (HB.out.trans (hb2.mono HB.out.size)))
    go_ret
    exact ⟨false, rfl, ⟨fun q => Bool.noConfusion q, fun q => absurd q HR.out⟩, HB2.out⟩
/-- How many of the first processes are under way, how many of the first cells are gone; Bound of a valid list. -/
def busT (l : Ls) (k : Nat) : Nat := sm (fun q => if act ((toSt l).p q) = true then 1 else 0) k
def gonT (l : Ls) (k : Nat) : Nat := sm (fun i => if ((toSt l).c i).gone = true then 1 else 0) k
def busV (l : Ls) : Nat := bz l.ps.length (toSt l)
def gonV (l : Ls) : Nat := gz l.cs.length (toSt l)
def bndV (l : Ls) : Nat := busV l * (2 * busV l + gonV l + 2) * (l.cs.length + (2 * busV l + gonV l) + 3)
theorem busT_next {l : Ls} (v : Vlf l) {k : Nat} (hk : k < l.ps.length) : busT l (k + 1) = if (l.pr k).phase ≠ 0 ∧ (l.pr k).phase ≠ 18 then busT l k + 1 else busT l k := by
  unfold busT
  rw [sm]
  by_cases h : act ((toSt l).p k) = true
  · rw [if_pos h, if_pos ((act_ph v hk).1 h)]
  · rw [if_neg h, if_neg (fun q => h ((act_ph v hk).2 q))]; rfl
theorem busT_le (l : Ls) : ∀ k, busT l k ≤ k
  | 0 => Nat.le_refl _
  | k + 1 => by
    have := busT_le l k
    unfold busT at this ⊢
    rw [sm]
    split <;> omega
theorem gonT_next (l : Ls) (k : Nat) : gonT l (k + 1) = if (l.at_ k).gone = true then gonT l k + 1 else gonT l k := by
  unfold gonT
  rw [sm]
  show _ + (if (l.at_ k).gone = true then 1 else 0) = _
  split <;> rfl
theorem gonT_le (l : Ls) : ∀ k, gonT l k ≤ k
  | 0 => Nat.le_refl _
  | k + 1 => by
    have := gonT_le l k
    rw [gonT_next]
    split <;> omega
set_option maxRecDepth 100000 in
set_option maxHeartbeats 6400000 in
theorem bound_any (A1 : Option Addr) (A2 : Addr) (l : Ls) (n m c1 c2 : Nat) (w : World) (hn : l.cs.length = n) (hm : l.ps.length = m) (h : RdL w 0 A1 (some A2) l) (m0 : 0 < m) (m1 : m ≤ 1000000) (n1 : n ≤ 1000000) :
    Calls Tryz.prog 39 #[.agg #[.slice A1 n c1, .slice (some A2) m c2]] w (Quiet (.int .i64 (if vldB l then (bndV l : Int) else 0)) w) := by
  have hb := (Below.refl w.heap.size w).alloc (Nat.le_refl _) (.cells #[.slice A1 n c1, .slice (some A2) m c2] 28)
  have HB := Lib.hid hb
  have HX := Lib.hid (Has.new w 28 #[.slice A1 n c1, .slice (some A2) m c2])
  have HL := Lib.hid (h.below hb)
  have HVA := Lib.hid (valid_any A1 A2 l n m c1 c2 _ hn hm HL.out m0 m1 n1)
  have x0 := HX.out.cell 0
  have x1 := HX.out.cell 1
  by_cases v : Vlf l
  · have H1 := Lib.hid (HVA.out.mono fun e w' h => h.yes v)
    have HN := Lib.hid hn
    have HM := Lib.hid hm
    have HV := Lib.hid v
    have m8 : m ≤ 8 := by rw [← hm]; exact v.m8
    have n66 : n ≤ 66 := by rw [← hn]; exact v.n66
    have HR : Hid ((if vldB l then (bndV l : Int) else 0) = (busT l m : Int) * (2 * (busT l m : Int) + (gonT l n : Int) + 2) * ((n : Int) + (2 * (busT l m : Int) + (gonT l n : Int)) + 3)) := Lib.hid (by
      rw [vldB_yes v, if_pos rfl, ← hm, ← hn]
      show ((busV l * (2 * busV l + gonV l + 2) * (l.cs.length + (2 * busV l + gonV l) + 3) : Nat) : Int) = _
      rw [show busV l = busT l l.ps.length from rfl, show gonV l = gonT l l.cs.length from rfl]
      push_cast
      rfl)
    have HBL := Lib.hid (busT_le l m)
    have HGL := Lib.hid (gonT_le l n)
    generalize (if vldB l then (bndV l : Int) else 0) = R at *
    clear hb h hn hm v HVA
    go_enter Tryz.func39, Tryz.ntmps39
    go_upto_region 1 with fail
    have hW : (w.alloc (.cells #[.slice A1 n c1, .slice (some A2) m c2] 28)).heap.size = w.heap.size + 1 := World.size_alloc _ _
    generalize w.alloc (.cells #[.slice A1 n c1, .slice (some A2) m c2] 28) = W at *
    go_wp2_with fail
    refine (H1.out).mono ?_
    rintro e w2 ⟨rfl, hb2⟩
    have HX2 := Lib.hid (HX.out.below hb2)
    have HB2 := Lib.hid hb2
    clear x0 x1 hb2 H1
    have x0 := HX2.out.cell 0
    have x1 := HX2.out.cell 1
    go_wp2_with fail
    go_loopw [3, 16] (fun vc vi wr => ∃ i : Nat, vi = .int .i64 (i : Int) ∧ vc = .int .i64 (busT l i : Int) ∧ i ≤ m ∧ Below W.heap.size W wr) (fun _ vi _ => m - (intOf vi).toNat)
    case atStart => exact ⟨0, rfl, rfl, by omega, HB2.out⟩
    case round =>
      obtain ⟨i, rfl, rfl, hi, hB⟩ := hrel
      have HBW := Lib.hid hB
      have HXW := Lib.hid (HX.out.below hB)
      clear x0 x1
      have x0 := HXW.out.cell 0
      have x1 := HXW.out.cell 1
      by_cases hlt : i < m
      · have i2 : i < l.ps.length := by rw [HM.out]; exact hlt
        obtain ⟨b, o, e, -, hb, f0, f1, f2, f3, f4, f5, f6⟩ := HL.out.proc i2
        injection e with e
        subst e
        replace f0 := (hB.cell (p := ⟨b, o + i * 7, none⟩) hb).trans f0
        replace f1 := (hB.cell (p := ⟨b, o + i * 7 + 1, none⟩) hb).trans f1
        replace f2 := (hB.cell (p := ⟨b, o + i * 7 + 2, none⟩) hb).trans f2
        replace f3 := (hB.cell (p := ⟨b, o + i * 7 + 3, none⟩) hb).trans f3
        replace f4 := (hB.cell (p := ⟨b, o + i * 7 + 4, none⟩) hb).trans f4
        replace f5 := (hB.cell (p := ⟨b, o + i * 7 + 5, none⟩) hb).trans f5
        replace f6 := (hB.cell (p := ⟨b, o + i * 7 + 6, none⟩) hb).trans f6
        have i0 : (0 : Int) ≤ (i : Int) := by omega
        have i1 : (i : Int) < (m : Int) := by omega
        have HNX := Lib.hid (busT_next HV.out i2)
        have HUW := Lib.hid (fun V => underWay_any (l.pr i) V)
        have hbl := busT_le l i
        have hbw : IntKind.i64.wrap ((busT l i : Int) + 1) = (busT l i : Int) + 1 := IntWalk.i64_in _ (by omega)
        have HTC : Hid (((busT l i + 1 : Nat) : Int) = (busT l i : Int) + 1) := Lib.hid (by omega)
        generalize l.pr i = x at *
        obtain ⟨xk, xc, xp, xd, xs, xx, xr⟩ := x
        simp only at f0 f1 f2 f3 f4 f5 f6 HNX
        have HXN := Has.new wr 63 #[.int .i64 xk, .int .i64 xc, .int .i64 xp, .int .i64 xd, .int .i64 xs, .int .i64 xx, .bool xr]
        have HBN := Lib.hid (HBW.out.trans (((Below.refl wr.heap.size wr).alloc (Nat.le_refl _) (.cells #[.int .i64 xk, .int .i64 xc, .int .i64 xp, .int .i64 xd, .int .i64 xs, .int .i64 xx, .bool xr] 63)).mono HBW.out.size))
        have y0 := HXN.cell 0
        have y1 := HXN.cell 1
        have y2 := HXN.cell 2
        have y3 := HXN.cell 3
        have y4 := HXN.cell 4
        have y5 := HXN.cell 5
        have y6 := HXN.cell 6
        clear HXN hB i2 hb
        by_cases hu : xp ≠ 0 ∧ xp ≠ 18
        · have HU := Lib.hid (fun V => (HUW.out V).mono fun e w' h => h.yes hu)
          rw [if_pos hu] at HNX
          clear HUW hu
          go_wp2_with fail
          refine (HU.out _).mono ?_
          rintro e w5 ⟨rfl, hb5⟩
          have HB5 := Lib.hid (HBN.out.trans (hb5.mono HBN.out.size))
          clear hb5 y0 y1 y2 y3 y4 y5 y6 f0 f1 f2 f3 f4 f5 f6
          go_wp2_with fail
          exact ⟨⟨i + 1, by go_num, by rw [HNX.out, HTC.out], hlt, HB5.out⟩, by simp [intOf]; omega⟩
        · have HU := Lib.hid (fun V => (HUW.out V).mono fun e w' h => h.no hu)
          rw [if_neg hu] at HNX
          clear HUW hu
          go_wp2_with fail
          refine (HU.out _).mono ?_
          rintro e w5 ⟨rfl, hb5⟩
          have HB5 := Lib.hid (HBN.out.trans (hb5.mono HBN.out.size))
          clear hb5 y0 y1 y2 y3 y4 y5 y6 f0 f1 f2 f3 f4 f5 f6
          go_wp2_with fail
          exact ⟨⟨i + 1, by go_num, by rw [HNX.out], hlt, HB5.out⟩, by simp [intOf]; omega⟩
      · obtain rfl : m = i := by omega
        have HB3 := HBW
        clear hB
        go_wp2_with fail
        go_loopw [4, 28] (fun vc vi wq => ∃ i : Nat, vi = .int .i64 (i : Int) ∧ vc = .int .i64 (gonT l i : Int) ∧ i ≤ n ∧ Below W.heap.size W wq) (fun _ vi _ => n - (intOf vi).toNat)
        case atStart => exact ⟨0, rfl, rfl, by omega, HB3.out⟩
        case round =>
          obtain ⟨i, rfl, rfl, hi, hB⟩ := hrel
          have HBQ := Lib.hid hB
          have HXQ := Lib.hid (HX.out.below hB)
          clear x0 x1
          have x0 := HXQ.out.cell 0
          have x1 := HXQ.out.cell 1
          by_cases hlt : i < n
          · have i2 : i < l.cs.length := by rw [HN.out]; exact hlt
            obtain ⟨b, o, e, -, hb, f0, f1, f2, f3, f4⟩ := HL.out.cell i2
            subst e
            replace f0 := (hB.cell (p := ⟨b, o + i * 5, none⟩) hb).trans f0
            replace f1 := (hB.cell (p := ⟨b, o + i * 5 + 1, none⟩) hb).trans f1
            replace f2 := (hB.cell (p := ⟨b, o + i * 5 + 2, none⟩) hb).trans f2
            replace f3 := (hB.cell (p := ⟨b, o + i * 5 + 3, none⟩) hb).trans f3
            replace f4 := (hB.cell (p := ⟨b, o + i * 5 + 4, none⟩) hb).trans f4
            have i0 : (0 : Int) ≤ (i : Int) := by omega
            have i1 : (i : Int) < (n : Int) := by omega
            have HNX := Lib.hid (gonT_next l i)
            have hbl := gonT_le l i
            have hbw : IntKind.i64.wrap ((gonT l i : Int) + 1) = (gonT l i : Int) + 1 := IntWalk.i64_in _ (by omega)
            have HTC : Hid (((gonT l i + 1 : Nat) : Int) = (gonT l i : Int) + 1) := Lib.hid (by omega)
            generalize l.at_ i = x at *
            obtain ⟨xk, xl, xr, xo, xg⟩ := x
            simp only at f0 f1 f2 f3 f4 HNX
            have HXN := Has.new wr 66 #[.string xk, .int .i64 xl, .int .i64 xr, .int .i64 xo, .bool xg]
            have HBN := Lib.hid (HBQ.out.trans (((Below.refl wr.heap.size wr).alloc (Nat.le_refl _) (.cells #[.string xk, .int .i64 xl, .int .i64 xr, .int .i64 xo, .bool xg] 66)).mono HBQ.out.size))
            have y4 := HXN.cell 4
            clear HXN hB i2 hb
            cases xg with
            | true =>
              rw [if_pos rfl] at HNX
              go_wp2_with fail
              exact ⟨⟨i + 1, by go_num, by rw [HNX.out, HTC.out], hlt, HBN.out⟩, by simp [intOf]; omega⟩
            | false =>
              rw [if_neg Bool.false_ne_true] at HNX
              go_wp2_with fail
              exact ⟨⟨i + 1, by go_num, by rw [HNX.out], hlt, HBN.out⟩, by simp [intOf]; omega⟩
          · obtain rfl : n = i := by omega
            obtain ⟨bs, hbs⟩ : ∃ bs, bs = busT l m := ⟨_, rfl⟩
            obtain ⟨gs, hgs⟩ : ∃ gs, gs = gonT l n := ⟨_, rfl⟩
            rw [← hbs] at HR HBL ⊢
            rw [← hgs] at HR HGL ⊢
            have hb8 : bs ≤ 8 := Nat.le_trans HBL.out m8
            have hg66 : gs ≤ 66 := Nat.le_trans HGL.out n66
            have HBX := Lib.hid hB
            clear hB hbs hgs
            have w1 : IntKind.i64.wrap (2 * (bs : Int)) = 2 * (bs : Int) := IntWalk.i64_in _ (by omega)
            have w2' : IntKind.i64.wrap (2 * (bs : Int) + (gs : Int)) = 2 * (bs : Int) + (gs : Int) := IntWalk.i64_in _ (by omega)
            have w3 : IntKind.i64.wrap (2 * (bs : Int) + (gs : Int) + 2) = 2 * (bs : Int) + (gs : Int) + 2 := IntWalk.i64_in _ (by omega)
            have hz1 : 0 ≤ (bs : Int) * (2 * (bs : Int) + (gs : Int) + 2) ∧ (bs : Int) * (2 * (bs : Int) + (gs : Int) + 2) ≤ 8 * 84 := ⟨Int.mul_nonneg (by omega) (by omega), Int.mul_le_mul (by omega) (by omega) (by omega) (by omega)⟩
            obtain ⟨z, hz⟩ : ∃ z, z = (bs : Int) * (2 * (bs : Int) + (gs : Int) + 2) := ⟨_, rfl⟩
            have w4 : IntKind.i64.wrap ((bs : Int) * (2 * (bs : Int) + (gs : Int) + 2)) = z := by rw [← hz] at hz1 ⊢; exact IntWalk.i64_in _ (by omega)
            have w5 : IntKind.i64.wrap ((n : Int) + (2 * (bs : Int) + (gs : Int))) = (n : Int) + (2 * (bs : Int) + (gs : Int)) := IntWalk.i64_in _ (by omega)
            have w6 : IntKind.i64.wrap ((n : Int) + (2 * (bs : Int) + (gs : Int)) + 3) = (n : Int) + (2 * (bs : Int) + (gs : Int)) + 3 := IntWalk.i64_in _ (by omega)
            have hz2 : 0 ≤ z * ((n : Int) + (2 * (bs : Int) + (gs : Int)) + 3) ∧ z * ((n : Int) + (2 * (bs : Int) + (gs : Int)) + 3) ≤ 672 * 151 := ⟨Int.mul_nonneg (by rw [← hz] at hz1; omega) (by omega), Int.mul_le_mul (by rw [← hz] at hz1; omega) (by omega) (by omega) (by omega)⟩
            obtain ⟨y, hy⟩ : ∃ y, y = z * ((n : Int) + (2 * (bs : Int) + (gs : Int)) + 3) := ⟨_, rfl⟩
            have w7 : IntKind.i64.wrap (z * ((n : Int) + (2 * (bs : Int) + (gs : Int)) + 3)) = y := by rw [← hy] at hz2 ⊢; exact IntWalk.i64_in _ (by omega)
            have HY : Hid (R = y) := Lib.hid (by rw [HR.out, hy, hz])
            clear hz1 hz2 hz hy HR
            go_wp2_with fail
            go_ret
            exact ⟨by rw [HY.out]; rfl, HB.out.trans (HBX.out.mono (by omega))⟩
  · have H1 := Lib.hid (HVA.out.mono fun e w' h => h.no v)
    rw [vldB_no v, if_neg Bool.false_ne_true]
    clear hb h hn hm v HVA
    go_enter Tryz.func39, Tryz.ntmps39
    go_upto_region 1 with fail
    generalize w.alloc (.cells #[.slice A1 n c1, .slice (some A2) m c2] 28) = W at *
    go_wp2_with fail
    refine (H1.out).mono ?_
    rintro e w2 ⟨rfl, hb2⟩
    have HB2 := Lib.hid (HB.out.trans (hb2.mono HB.out.size))
    clear hb2
    go_wp2_with fail
    go_ret
    exact ⟨rfl, HB2.out⟩
theorem made_bools : ∀ n, madeCells #[.bool false] n = ((List.replicate n false).flatMap brow).toArray := fun n => by
  unfold madeCells
  apply Array.ext
  · rw [Array.size_map, Array.size_range, List.size_toArray, flat_size (k := 1) (fun _ => rfl)]
    simp
  · intro i h1 h2
    have hi : i < n := by simpa using h1
    have e : ((List.replicate n false).flatMap brow)[i]? = some (.bool false) := by
      have := flat_row (enc := brow) (k := 1) (fun _ => rfl) (List.replicate n false) i (by simpa using hi) 0 (by omega)
      rw [Nat.mul_one, Nat.add_zero] at this
      rw [this]
      simp [brow]
    have e2 : ((List.replicate n false).flatMap brow)[i]'(by simpa using h2) = .bool false := by
      have := List.getElem?_eq_getElem (l := (List.replicate n false).flatMap brow) (i := i) (by simpa using h2)
      rw [e] at this
      injection this with this
      exact this.symm
    have e3 : (((List.replicate n false).flatMap brow).toArray)[i]'h2 = .bool false := by
      rw [List.getElem_toArray]; exact e2
    rw [e3, Array.getElem_map]
    simp [Nat.mod_one]
theorem make_boolsN (W : World) (n : Nat) (hn : n ≤ 1000000) : (Instr.makeSlice 55 (.int .i64 (n : Int)) (.int .i64 (n : Int))).run Tryz.prog W = .ok (.slice (some ⟨W.heap.size, 0, none⟩) n n) (W.alloc (.cells (((List.replicate n false).flatMap brow).toArray) 4)) := by
  obtain ⟨i, hi, hz, hs, hb⟩ : ∃ i, Tryz.prog.info? 4 = some i ∧ i.zero = some (.bool false) ∧ i.size = 1 ∧ i.bytes = 1 := by
    have h := infoBo
    cases hi : Tryz.prog.info? 4 with
    | none => rw [hi] at h; cases h
    | some i =>
      rw [hi] at h
      simp at h
      exact ⟨i, rfl, h.1, h.2.1, h.2.2⟩
  have h := run_make (P := Tryz.prog) W 55 4 i (.bool false) Tryz.underlying55 hi hz .i64 .i64 (n : Int) (n : Int) (by omega) (by omega) (by rw [hb]; omega) (by omega)
  rw [Int.toNat_natCast, hs, Nat.mul_one] at h
  rw [h, ← made_bools]
  rfl
theorem bools_mutN (W : World) (n : Nat) (hn : n ≤ 1000000) : MutR brow 1 4 (W.alloc (.cells (((List.replicate n false).flatMap brow).toArray) 4)) W.heap.size n (List.replicate n false) := by
  refine ⟨by simp, by unfold maxLen; omega, _, Has.new W _ _, ?_, fun i hi j u hu => ?_⟩
  · rw [List.size_toArray, flat_size (k := 1) (fun _ => rfl)]
    simp
  · rw [List.getElem?_toArray]
    have hj : j < 1 := by
      rw [show 1 = (brow ((List.replicate n false)[i])).length from rfl]
      exact (List.getElem?_eq_some_iff.1 hu).1
    rw [flat_row (k := 1) (fun _ => rfl) _ i hi j hj]
    exact hu
theorem putBN {t : TypeId} {w : World} {G c : Nat} {D : List Bool} (h : MutR brow 1 t w G c D) {q : Nat} (hq : q < D.length) (b : Bool) : MutR brow 1 t (w.setCell ⟨G, q, none⟩ (.bool b)) G c (D.set q b) := by
  have := MutR.put (enc := brow) (k := 1) (fun _ => rfl) h hq (j := 0) (by decide) (.bool b) b rfl
  simpa using this
theorem cellBN {t : TypeId} {w : World} {G c : Nat} {D : List Bool} (h : MutR brow 1 t w G c D) {q : Nat} (hq : q < D.length) : w.cell? ⟨G, q, none⟩ = some (.bool (D.getD q false)) := by
  have := MutR.cell h hq (j := 0) rfl
  rw [Nat.mul_one, Nat.add_zero] at this
  rw [this, List.getD_eq_getElem?_getD, List.getElem?_eq_getElem hq]
  rfl
theorem cnt_set : ∀ (D : List Bool) (a : Nat), a < D.length → D.getD a false = false → (D.set a true).count false + 1 = D.count false
  | [], a, h, _ => by cases h
  | x :: D, 0, _, h => by
    have h : x = false := h
    subst h
    simp
  | x :: D, a + 1, h, k => by
    have ih := cnt_set D a (by simpa using h) k
    cases x <;> simp [ih]
theorem cnt_all (n : Nat) : (List.replicate n false).count false = n := by simp
/-- How many of the first truths of a block are false. -/
noncomputable def cntW (w : World) (G n : Nat) : Nat := ((List.range n).filter (fun i => @decide (w.cell? ⟨G, i, none⟩ = some (.bool false)) (Classical.propDecidable _))).length
theorem cntW_is {t : TypeId} {w : World} {G c n : Nat} {D : List Bool} (h : MutR brow 1 t w G c D) (hn : D.length = n) : cntW w G n = D.count false := by
  have e : D = (List.range n).map (fun i => D.getD i false) := by
    refine List.ext_getElem (by simp [hn]) fun i h1 h2 => ?_
    rw [List.getElem_map, List.getElem_range, List.getD_eq_getElem?_getD, List.getElem?_eq_getElem h1]
    rfl
  conv => rhs; rw [e, List.count_eq_countP, List.countP_map, List.countP_eq_length_filter]
  unfold cntW
  congr 1
  refine List.filter_congr fun i hi => ?_
  have hi := List.mem_range.1 hi
  have hc := cellBN h (q := i) (by omega)
  rw [hc]
  show _ = (D.getD i false == false)
  generalize D.getD i false = b
  cases b <;> simp
/-- Where the walk of Members stands. -/
structure TrvS (l : Ls) (D : List Bool) (seen acc : List Nat) (a : Nat) : Prop where
  lt : a < l.cs.length
  dl : D.length = l.cs.length
  ds : ∀ i, i < l.cs.length → (D.getD i false = true ↔ i ∈ seen)
  al : acc.length + D.count false ≤ l.cs.length
  is : memV l = acc ++ trv l (D.count false) seen a
section
variable {l : Ls} {D : List Bool} {seen acc : List Nat} {a : Nat}
theorem TrvS.zero (v : Vlf l) : TrvS l (List.replicate l.cs.length false) [] [] 0 := ⟨by have := v.n2; omega, by simp, fun i hi => by simp [List.getD_eq_getElem?_getD, hi], by rw [cnt_all]; simp, by rw [cnt_all]; rfl⟩
theorem TrvS.stop (h : TrvS l D seen acc a) (h1 : a = 1 ∨ D.getD a false = true) : memV l = acc := by
  rw [h.is]
  have : trv l (D.count false) seen a = [] := by
    cases D.count false with
    | zero => rfl
    | succ f =>
      unfold trv
      rw [if_pos (h1.imp id (fun q => (h.ds a h.lt).1 q))]
  rw [this, List.append_nil]
theorem TrvS.next (v : Vlf l) (h : TrvS l D seen acc a) (h1 : a ≠ 1) (h2 : D.getD a false = false) : TrvS l (D.set a true) (a :: seen) (if 2 ≤ a ∧ (l.at_ a).gone = false then acc ++ [a] else acc) (l.at_ a).right.toNat := by
  have hc := cnt_set D a (by rw [h.dl]; exact h.lt) h2
  have hr := v.rg a h.lt
  have hns : a ∉ seen := fun q => by
    have := (h.ds a h.lt).2 q
    rw [h2] at this; cases this
  refine ⟨by omega, by rw [List.length_set]; exact h.dl, fun i hi => ?_, ?_, ?_⟩
  · rw [getD_set _ _ _ _ _ (by rw [h.dl]; exact h.lt), List.mem_cons]
    by_cases e : i = a
    · simp [e]
    · rw [if_neg e, h.ds i hi]
      simp [e]
  · have := h.al
    split
    · rw [List.length_append]; simp only [List.length_singleton]; omega
    · omega
  · rw [h.is, ← hc]
    conv => lhs; unfold trv
    rw [if_neg (by rintro (q | q); exact h1 q; exact hns q)]
    split
    · rw [List.append_assoc]; rfl
    · rfl
end
set_option maxRecDepth 100000 in
set_option maxHeartbeats 6400000 in
theorem Members_any (A1 : Option Addr) (A2 : Addr) (l : Ls) (n m c1 c2 : Nat) (w : World) (hn : l.cs.length = n) (hm : l.ps.length = m) (h : RdL w 0 A1 (some A2) l) (m0 : 0 < m) (m1 : m ≤ 1000000) (n1 : n ≤ 1000000) :
    Calls Tryz.prog 35 #[.agg #[.slice A1 n c1, .slice (some A2) m c2]] w (NumP (if vldB l then nat2 (memV l) else []) w) := by
  have hb := (Below.refl w.heap.size w).alloc (Nat.le_refl _) (.cells #[.slice A1 n c1, .slice (some A2) m c2] 28)
  have HB := Lib.hid hb
  have HX := Lib.hid (Has.new w 28 #[.slice A1 n c1, .slice (some A2) m c2])
  have HL := Lib.hid (h.below hb)
  have HVA := Lib.hid (valid_any A1 A2 l n m c1 c2 _ hn hm HL.out m0 m1 n1)
  have x0 := HX.out.cell 0
  have x1 := HX.out.cell 1
  by_cases v : Vlf l
  · have H1 := Lib.hid (HVA.out.mono fun e w' h => h.yes v)
    have HN := Lib.hid hn
    have HV := Lib.hid v
    have n66 : n ≤ 66 := by rw [← hn]; exact v.n66
    have n2 : 2 ≤ n := by rw [← hn]; exact v.n2
    rw [vldB_yes v, if_pos rfl]
    have hmb := fun V => make_boolsN V n n1
    have HS0 : Hid (TrvS l (List.replicate n false) [] [] 0) := Lib.hid (by rw [← hn]; exact TrvS.zero v)
    clear hb h hn hm v HVA
    go_enter Tryz.func35, Tryz.ntmps35
    go_upto_region 1 with fail
    have hW : (w.alloc (.cells #[.slice A1 n c1, .slice (some A2) m c2] 28)).heap.size = w.heap.size + 1 := World.size_alloc _ _
    generalize w.alloc (.cells #[.slice A1 n c1, .slice (some A2) m c2] 28) = W at *
    obtain ⟨B, hBe⟩ : ∃ B, B = w.heap.size := ⟨_, rfl⟩
    have HBB := Lib.hid hBe
    rw [← hBe] at HB HX hW x0 x1 ⊢
    clear hBe
    go_wp2_with fail
    refine (H1.out).mono ?_
    rintro e w2 ⟨rfl, hb2⟩
    have hbn := (Below.refl w2.heap.size w2).alloc (Nat.le_refl _) (.cells (((List.replicate n false).flatMap brow).toArray) 4)
    have HM2 := Lib.hid (bools_mutN w2 n n1)
    have HB2 := Lib.hid (hb2.trans (hbn.mono hb2.size))
    have hs2 := hb2.size
    have x0 := (HX.out.below hb2).cell 0
    have x1 := (HX.out.below hb2).cell 1
    have hsz : (w2.alloc (.cells (((List.replicate n false).flatMap brow).toArray) 4)).heap.size = w2.heap.size + 1 := World.size_alloc _ _
    clear hb2 hbn H1
    go_wp2_with fail
    generalize w2.alloc (.cells (((List.replicate n false).flatMap brow).toArray) 4) = W3 at *
    obtain ⟨G, hG⟩ : ∃ G, G = w2.heap.size := ⟨_, rfl⟩
    rw [← hG] at HM2 hs2 hsz ⊢
    clear hG x0 x1
    go_loopw [3, 5] (fun vo va wr => ∃ (a : Nat) (D : List Bool) (seen acc : List Nat) (v1 : Value), va = .int .i64 (a : Int) ∧ v1 = vo ∧ Hid (TrvS l D seen acc a) ∧ MutR brow 1 4 wr G n D ∧ OwnR nrow 1 3 wr (G + 1) v1 (nat2 acc) ∧ Below W.heap.size W wr ∧ G + 1 ≤ wr.heap.size) (fun _ _ wr => cntW wr G n)
    case atStart => exact ⟨0, _, [], [], _, rfl, rfl, HS0, HM2.out, OwnR.nil, HB2.out, by omega⟩
    case round =>
      obtain ⟨a, D, seen, acc, v1, rfl, rfl, HS, hM, hO, hB, hsz2⟩ := hrel
      have HBW := Lib.hid hB
      have HXW := Lib.hid (HX.out.below hB)
      have x0 := HXW.out.cell 0
      have x1 := HXW.out.cell 1
      obtain ⟨A3, n3, q3, hv3⟩ := own_sh hO
      subst hv3
      have HO := Lib.hid hO
      have HM := Lib.hid hM
      have hD : D.length = n := HS.out.dl.trans HN.out
      have HCW := Lib.hid (cntW_is hM hD)
      have han : a < n := by have := HS.out.lt; rw [HN.out] at this; exact this
      have hz := hM.frozen
      have hcell := cellBN hM (q := a) (by rw [hD]; exact han)
      have a0 : (0 : Int) ≤ (a : Int) := by omega
      have a1 : (a : Int) < (n : Int) := by omega
      clear hO
      by_cases h1 : a = 1
      · subst h1
        have HE := Lib.hid (HS.out.stop (.inl rfl))
        clear hB hM
        go_wp2_with fail
        go_ret
        obtain ⟨A, c, e, p1, p2, p3⟩ := HO.out.read (fun _ => rfl)
        injection e with e1 e2 e3
        subst e1 e3
        rw [HE.out]
        refine ⟨A3, n3, _, rfl, e2.symm, by omega, (HO.out).low (by rw [← HBB.out]; omega), p3.low (by rw [← HBB.out]; omega), ?_⟩
        rw [← HBB.out]
        exact HB.out.trans (HBW.out.mono (by omega))
      · have d1 : ((a : Int) != 1) = true := by simp; omega
        cases hd : D.getD a false with
        | true =>
          have HE := Lib.hid (HS.out.stop (.inr hd))
          rw [hd] at hcell
          clear hB hM hd
          go_wp2_with fail
          go_ret
          obtain ⟨A, c, e, p1, p2, p3⟩ := HO.out.read (fun _ => rfl)
          injection e with e1 e2 e3
          subst e1 e3
          rw [HE.out]
          refine ⟨A3, n3, _, rfl, e2.symm, by omega, (HO.out).low (by rw [← HBB.out]; omega), p3.low (by rw [← HBB.out]; omega), ?_⟩
          rw [← HBB.out]
          exact HB.out.trans (HBW.out.mono (by omega))
        | false =>
          rw [hd] at hcell
          have HNX := Lib.hid (HS.out.next HV.out h1 hd)
          have HCS := Lib.hid (cnt_set D a (by rw [hD]; exact han) hd)
          obtain ⟨b, o, e, -, hb, -, -, f2, -, f4⟩ := HL.out.cell (i := a) (by rw [HN.out]; exact han)
          subst e
          have hbW : b < W.heap.size := hb
          replace f2 := (hB.cell (p := ⟨b, o + a * 5 + 2, none⟩) hb).trans f2
          replace f4 := (hB.cell (p := ⟨b, o + a * 5 + 4, none⟩) hb).trans f4
          obtain ⟨r, hr, hrn⟩ := nat_of (HV.out.rg a HS.out.lt)
          have HRT : Hid ((l.at_ a).right.toNat = r) := Lib.hid (by rw [hr]; rfl)
          rw [hr] at f2
          have HM4 := Lib.hid (putBN hM (q := a) (by rw [hD]; exact han) true)
          have HO4 : Hid (OwnR nrow 1 3 (wr.setCell ⟨G, a, none⟩ (.bool true)) (G + 1) (.slice A3 n3 q3) (nat2 acc)) := Lib.hid (HO.out.blk fun i h3 _ _ => Below.heap_setCell wr ⟨G, a, none⟩ _ i (by simp only; omega))
          have HB4 := Lib.hid (HBW.out.setCell (p := ⟨G, a, none⟩) hs2 (.bool true))
          have f2' := (Below.cell (B := W.heap.size) ((Below.refl W.heap.size wr).setCell (p := ⟨G, a, none⟩) hs2 (.bool true)) (p := ⟨b, o + a * 5 + 2, none⟩) hbW).trans f2
          have f4' := (Below.cell (B := W.heap.size) ((Below.refl W.heap.size wr).setCell (p := ⟨G, a, none⟩) hs2 (.bool true)) (p := ⟨b, o + a * 5 + 4, none⟩) hbW).trans f4
          have HXR := Lib.hid (HX.out.below HB4.out)
          have x0' := HXR.out.cell 0
          have x1' := HXR.out.cell 1
          have hsz4 : G + 1 ≤ (wr.setCell ⟨G, a, none⟩ (.bool true)).heap.size := by simpa [World.setCell] using hsz2
          have HAL := Lib.hid HS.out.al
          rw [HRT.out] at HNX
          clear hB hM hd f2 f4 hb hr
          by_cases h2 : 2 ≤ a
          · have d2 : decide ((a : Int) ≥ 2) = true := by simp; omega
            have d2' : (2 : Int) ≤ (a : Int) := by omega
            cases hg : (l.at_ a).gone with
            | false =>
              rw [hg] at f4'
              rw [if_pos ⟨h2, hg⟩] at HNX
              clear hg
              go_upto_region 9 with fail
              generalize wr.setCell ⟨G, a, none⟩ (.bool true) = V at *
              go_wp2_with (at_builtin; refine wpList_pushR RowT.nu rfl (.tmp 42) (.tmp 44) rfl (G + 1) (.slice A3 n3 q3) (nat2 acc) V (a : Int) _ rfl (by simp [Act.eval]) HO4.out (by simp [Act.eval]) (by have := HAL.out; rw [nat2_len]; have := HN.out; omega) hsz4 ?_; intro v5 w5 ho5 hg5 hat5; obtain ⟨A5, n5, q5, hv5⟩ := own_sh ho5; subst hv5; have HO5 := Lib.hid ho5; have hgb := grown_below hg5 hsz4 (fun j e => (HO4.out.lt j e).1); have HGB := Lib.hid hgb; have f2 := (hgb.cell (p := ⟨b, o + a * 5 + 2, none⟩) (show b < G + 1 by omega)).trans f2'; have x0 := (hgb.cell (p := ⟨B, 0, none⟩) (show B < G + 1 by omega)).trans x0'; have x1 := (hgb.cell (p := ⟨B, 1, none⟩) (show B < G + 1 by omega)).trans x1'; clear ho5 hg5 hat5 hgb)
              have HMV := Lib.hid (HM4.out.keep (HGB.out.block G (by omega)))
              refine ⟨⟨r, _, _, _, _, rfl, rfl, HNX, HMV.out, ?_, HB4.out.trans (HGB.out.mono (by omega)), Nat.le_trans hsz4 HGB.out.size⟩, ?_⟩
              · have := HO5.out
                rwa [show nat2 acc ++ [(a : Int)] = nat2 (acc ++ [a]) by simp [nat2]] at this
              · rw [cntW_is HMV.out (by rw [List.length_set]; exact hD), HCW.out, ← HCS.out]
                omega
            | true =>
              rw [hg] at f4'
              rw [if_neg (fun q => by rw [hg] at q; cases q.2)] at HNX
              clear hg
              go_wp2_with fail
              refine ⟨⟨r, _, _, _, _, rfl, rfl, HNX, HM4.out, HO4.out, HB4.out, hsz4⟩, ?_⟩
              rw [cntW_is HM4.out (by rw [List.length_set]; exact hD), HCW.out, ← HCS.out]
              omega
          · have d2 : decide ((a : Int) ≥ 2) = false := by simp; omega
            have d2' : ¬ (2 : Int) ≤ (a : Int) := by omega
            rw [if_neg (fun q => h2 q.1)] at HNX
            go_wp2_with fail
            refine ⟨⟨r, _, _, _, _, rfl, rfl, HNX, HM4.out, HO4.out, HB4.out, hsz4⟩, ?_⟩
            rw [cntW_is HM4.out (by rw [List.length_set]; exact hD), HCW.out, ← HCS.out]
            omega
  · have H1 := Lib.hid (HVA.out.mono fun e w' h => h.no v)
    rw [vldB_no v, if_neg Bool.false_ne_true]
    clear hb h hn hm v HVA
    go_enter Tryz.func35, Tryz.ntmps35
    go_upto_region 1 with fail
    generalize w.alloc (.cells #[.slice A1 n c1, .slice (some A2) m c2] 28) = W at *
    go_wp2_with fail
    refine (H1.out).mono ?_
    rintro e w2 ⟨rfl, hb2⟩
    have HB2 := Lib.hid (HB.out.trans (hb2.mono HB.out.size))
    clear hb2
    go_wp2_with fail
    go_ret
    exact ⟨none, 0, 0, rfl, rfl, Nat.le_refl _, OwnR.nil, RdR.nil, HB2.out⟩
end Lf
end
section
set_option linter.unusedSimpArgs false
set_option linter.unusedVariables false
open Go.RowKit Go.Maps
namespace Lf
open Lk
/-- The example of the chapter: an insertion into an empty list takes three steps. -/
def yC (r0 : Int) (r2 k2 : Int) (x : Po) : Ls := ⟨[⟨⟨#[]⟩, 0, r0, 1, false⟩, ⟨⟨#[]⟩, 0, 0, 1, false⟩, ⟨kb11, 0, r2, k2, false⟩], [x]⟩
def yl0 : Ls := yC 1 0 0 Po.zero
def yl1 : Ls := yC 1 0 1 ⟨1, 2, 1, 0, 1, 0, false⟩
def yl2 : Ls := yC 1 0 1 ⟨1, 2, 6, 0, 1, 0, false⟩
def yl3 : Ls := yC 1 1 1 ⟨1, 2, 15, 0, 1, 0, false⟩
def yl4 : Ls := yC 2 1 1 ⟨1, 2, 18, 0, 1, 0, true⟩
theorem y_new : newV [kb11] 1 (fun _ => false) = yl0 := by
  unfold newV nfC ordV
  rw [x_mem]
  rfl
theorem y_beg : begV yl0 0 1 2 = yl1 := rfl
theorem y_s1 : stepV yl1 0 = some yl2 := rfl
theorem y_s2 : stepV yl2 0 = some yl3 := rfl
theorem y_s3 : stepV yl3 0 = some yl4 := rfl
theorem y_led0 : Led yl0 := by rw [← y_new]; exact led_new x_ok _
theorem y_led1 : Led yl1 := by
  rw [← y_beg]
  exact led_beg y_led0 (by decide) (by decide) (by decide) (.inl rfl) (fun _ => by decide)
theorem y_led4 : Led yl4 := led_step (led_step (led_step y_led1 (by decide) y_s1) (by decide) y_s2) (by decide) y_s3
theorem y_mem4 : memV yl4 = [2] := rfl
theorem y_chk4 : chkB yl4 = true := led_chk y_led4
end Lf
end
end Go.Proofs.YtmhbloefmknikaaGreatDoor
