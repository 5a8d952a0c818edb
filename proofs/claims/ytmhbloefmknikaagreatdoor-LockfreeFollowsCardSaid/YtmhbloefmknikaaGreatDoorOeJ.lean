/-
  Chain of the reference of chapter 11, from any cell of a list without locks. Conditions: the list can be read and is valid.
-/
import Derived.Test.YtmhbloefmknikaaGreatDoorOeA
import Derived.Test.YtmhbloefmknikaaGreatDoorObJ
import Derived.Test.YtmhbloefmknikaaGreatDoorMaA
namespace Go.Proofs.YtmhbloefmknikaaGreatDoor
open Go.RowKit Go.Maps
namespace Lf
open Lk
def RcnF (l : Ls) (s0 : Nat) (w : World) (e : Ending) (w' : World) : Prop :=
  (chnV l l.cs.length s0 = none ∧ (∃ v, e = .returned (.tuple #[v, .bool false])) ∧ Below w.heap.size w w') ∨
  ∃ ch A n c, chnV l l.cs.length s0 = some ch ∧ e = .returned (.tuple #[.slice A n c, .bool true]) ∧ ch.length = n ∧ n ≤ l.cs.length ∧ n ≤ c ∧ RdR nrow 1 w' w.heap.size A (nat2 ch) ∧ Below w.heap.size w w'
set_option maxRecDepth 100000 in
set_option maxHeartbeats 3200000 in
theorem rchainF_any (A1 A2 : Option Addr) (l : Ls) (n m c1 c2 lo s0 : Nat) (w : World) (hn : l.cs.length = n) (h : RdL w lo A1 A2 l) (v : Vlf l) (hs : s0 < n) :
    Calls Tryz.prog 66 #[.agg #[.slice A1 n c1, .slice A2 m c2], .int .i64 (s0 : Int)] w (RcnF l s0 w) := by
  have hb := (Below.refl w.heap.size w).alloc (Nat.le_refl _) (.cells #[.slice A1 n c1, .slice A2 m c2] 28)
  have HB := Lib.hid hb
  have HX := Lib.hid (Has.new w 28 #[.slice A1 n c1, .slice A2 m c2])
  have HL := Lib.hid (h.below hb)
  have hW : (w.alloc (.cells #[.slice A1 n c1, .slice A2 m c2] 28)).heap.size = w.heap.size + 1 := World.size_alloc _ _
  have HN := Lib.hid hn
  have HV := Lib.hid v
  have n66 : n ≤ 66 := by rw [← hn]; exact v.n66
  have HO0 : Hid (OwnR nrow 1 3 ((w.alloc (.cells #[.slice A1 n c1, .slice A2 m c2] 28)).alloc (.cells #[.int .i64 (s0 : Int)] 3)) (w.alloc (.cells #[.slice A1 n c1, .slice A2 m c2] 28)).heap.size (.slice (some ⟨(w.alloc (.cells #[.slice A1 n c1, .slice A2 m c2] 28)).heap.size, 0, none⟩) 1 1) (nat2 ([] ++ [s0]))) := Lib.hid ⟨rfl, .inr ⟨(w.alloc (.cells #[.slice A1 n c1, .slice A2 m c2] 28)).heap.size, 1, _, rfl, Nat.le_refl _, Has.new (w.alloc (.cells #[.slice A1 n c1, .slice A2 m c2] 28)) _ _, Nat.le_refl _, by unfold maxLen; omega, rfl, rfl⟩⟩
  have HB0 := Lib.hid ((Below.refl (w.alloc (.cells #[.slice A1 n c1, .slice A2 m c2] 28)).heap.size (w.alloc (.cells #[.slice A1 n c1, .slice A2 m c2] 28))).alloc (Nat.le_refl _) (.cells #[.int .i64 (s0 : Int)] 3))
  have HS0 := Lib.hid (ChnS.zero (l := l) (s0 := s0) (by rw [hn]; exact hs))
  clear h hn v hb
  go_enter Tryz.func66, Tryz.ntmps66
  go_upto_region 1 with fail
  generalize w.alloc (.cells #[.slice A1 n c1, .slice A2 m c2] 28) = W at *
  obtain ⟨B, hB⟩ : ∃ B, B = w.heap.size := ⟨_, rfl⟩
  have HBB := Lib.hid hB
  rw [← hB] at HB HX hW ⊢
  clear hB
  go_wp2_with fail
  generalize W.alloc (.cells #[.int .i64 (s0 : Int)] 3) = W0 at *
  go_loopw [6, 7] (fun vo va wr => ∃ (a : Nat) (pre : List Nat) (v1 : Value), va = .int .i64 (a : Int) ∧ v1 = vo ∧ Hid (ChnS l s0 pre a) ∧ OwnR nrow 1 3 wr W.heap.size v1 (nat2 (pre ++ [a])) ∧ Below W.heap.size W wr) (fun _ va _ => n - rnk l (intOf va).toNat)
  case atStart => exact ⟨s0, [], _, rfl, rfl, HS0.out, by have h9 := HO0.out; rw [hW] at h9 ⊢; exact h9, HB0.out⟩
  case round =>
    clear HO0 HB0 HS0
    obtain ⟨a, pre, v1, rfl, rfl, HS, hO, hB⟩ := hrel
    have HBW := Lib.hid hB
    have HXW := Lib.hid (HX.out.below hB)
    have x0 := HXW.out.cell 0
    have x1 := HXW.out.cell 1
    obtain ⟨A3, n3, q3, hv3⟩ := own_sh hO
    subst hv3
    have HO := Lib.hid hO
    clear hO
    by_cases h1 : a = 1
    · subst h1
      have HD := Lib.hid HS.out.done
      have HR : Hid (∃ A c, Value.slice A3 n3 q3 = .slice A (nat2 (pre ++ [1])).length c ∧ (nat2 (pre ++ [1])).length ≤ c ∧ c ≤ maxLen ∧ RdR nrow 1 wr W.heap.size A (nat2 (pre ++ [1]))) := Lib.hid (HO.out.read (fun _ => rfl))
      have HSM := Lib.hid HS.out.small
      clear hB
      go_wp2_with fail
      go_ret2
      obtain ⟨A, c, e, h3, -, h4⟩ := HR.out
      injection e with e1 e2 e3
      subst e1 e3
      have h5 := HSM.out
      rw [nat2_len] at e2 h3
      refine .inr ⟨pre ++ [1], A3, n3, q3, HD.out, rfl, e2.symm, ?_, by omega, h4.low (by rw [← HBB.out]; omega), by rw [← HBB.out]; exact HB.out.trans (HBW.out.mono (by omega))⟩
      rw [e2, List.length_append]
      simp only [List.length_cons, List.length_nil]
      omega
    · have hlt := HS.out.lt
      obtain ⟨b, o, e, -, hb, f0, f1, f2, -⟩ := HL.out.cell hlt
      subst e
      replace f2 := (hB.cell (p := ⟨b, o + a * 5 + 2, none⟩) hb).trans f2
      obtain ⟨r, hr, hrn⟩ := nat_of (HV.out.rg a hlt)
      have HRT : Hid ((l.at_ a).right.toNat = r) := Lib.hid (by rw [hr]; rfl)
      rw [hr] at f2
      rw [HN.out] at hlt hrn
      have i0 : (0 : Int) ≤ (a : Int) := by omega
      have i1 : (a : Int) < (n : Int) := by omega
      have h1d : ((a : Int) != 1) = true := by simp; omega
      have HCM := Lib.hid (rblw_any (some ⟨b, o, none⟩) A2 l n m c1 c2 a r lo wr HN.out (RdR.below HL.out.cs hB) hlt hrn)
      cases hbl : blw l a r with
      | false =>
        rw [hbl] at HCM
        have HD := Lib.hid (HS.out.stop h1 (by rw [HRT.out]; exact hbl))
        clear hbl h1 hB
        go_wp2_with fail
        refine (HCM.out).mono ?_
        rintro e w2 ⟨rfl, hb2⟩
        have HB2 := Lib.hid (HBW.out.trans (hb2.mono HBW.out.size))
        clear hb2
        go_wp2_with fail
        go_ret2
        exact .inl ⟨HD.out, ⟨_, rfl⟩, by rw [← HBB.out]; exact HB.out.trans (HB2.out.mono (by omega))⟩
      | true =>
        rw [hbl] at HCM
        have HD := Lib.hid (HS.out.next HV.out h1 (by rw [HRT.out]; exact hbl))
        rw [HRT.out] at HD
        have HRK := Lib.hid (⟨(HV.out.iff HS.out.lt (by rw [HN.out]; exact hrn)).1 hbl, by have := rnk_n (l := l) (a := r) (by rw [HN.out]; exact hrn); have := HN.out; omega⟩ : rnk l a < rnk l r ∧ rnk l r < n)
        have HSM := Lib.hid HS.out.small
        clear hbl h1 hB
        go_wp2_with fail
        refine (HCM.out).mono ?_
        rintro e w2 ⟨rfl, hb2⟩
        have HB2 := Lib.hid (HBW.out.trans (hb2.mono HBW.out.size))
        have HO2 := Lib.hid (HO.out.below hb2)
        have hsz := HB2.out.size
        clear hb2 x0 x1
        go_wp2_with (at_builtin; refine wpList_pushR RowT.nu rfl (.tmp 26) (.tmp 28) rfl W.heap.size (.slice A3 n3 q3) (nat2 (pre ++ [a])) w2 (r : Int) _ rfl (by simp [Act.eval]) HO2.out (by simp [Act.eval]) (by have := HSM.out; have := HN.out; rw [nat2_len, List.length_append]; simp only [List.length_cons, List.length_nil]; omega) hsz ?_; intro v5 w5 ho5 hg5 hat5; obtain ⟨A5, n5, q5, hv5⟩ := own_sh ho5; subst hv5; have HO5 := Lib.hid ho5; have HG5 := Lib.hid (HB2.out.trans (grown_below hg5 hsz (fun j e => (HO2.out.lt j e).1))); clear ho5 hg5 hat5)
        refine ⟨⟨r, pre ++ [a], _, rfl, rfl, HD, ?_, HG5.out⟩, ?_⟩
        · have := HO5.out
          rwa [show nat2 (pre ++ [a]) ++ [(r : Int)] = nat2 (pre ++ [a] ++ [r]) by simp [nat2]] at this
        · have := HRK.out
          simp only [intOf, Int.toNat_natCast]
          omega
end Lf
end Go.Proofs.YtmhbloefmknikaaGreatDoor
