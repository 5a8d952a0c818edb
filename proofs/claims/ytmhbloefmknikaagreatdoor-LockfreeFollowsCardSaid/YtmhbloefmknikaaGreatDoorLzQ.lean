/-
  slices.Contains at numbers; chain of package locked. Conditions: what is read can be read; the list is valid.
  holds of package locked. No condition.
  isCutOut and anyLocked of package locked. Condition: what is read can be read.
  membersLinked and linkedBack of package locked. Conditions: the list can be read; no list is long.
  locksHeld and Check of package locked. Conditions: the list can be read; no list is long.
-/
import Derived.Test.YtmhbloefmknikaaGreatDoorLzJ
namespace Go.Proofs.YtmhbloefmknikaaGreatDoor
section
open Go.RowKit Go.Maps
namespace Lk

set_option maxRecDepth 100000 in
set_option maxHeartbeats 1600000 in
theorem sindex_any (A : Option Addr) (l : List Int) (n c lo : Nat) (i : Int) (w : World) (hn : l.length = n) (h : RdR nrow 1 w lo A l) (hm : n ≤ maxLen) :
    Calls Tryz.prog 140 #[.slice A n c, .int .i64 i] w fun e w' => ∃ R : Int, e = .returned (.int .i64 R) ∧ (R ≥ 0 ↔ i ∈ l) ∧ w = w' := by
  have hml : maxLen ≤ 9223372036854775807 := by decide
  have HN := Lib.hid hn
  have HR := Lib.hid h
  clear h hn
  go_enter Tryz.func140, Tryz.ntmps140
  go_wp2_with fail
  go_loopw [8] (fun vk wr => ∃ k : Nat, vk = .int .i64 (k : Int) ∧ k ≤ n ∧ w = wr ∧ Hid (∀ j (h : j < k) (h2 : j < l.length), l[j] ≠ i)) (fun vk _ => n - (intOf vk).toNat)
  case atStart => exact ⟨0, rfl, by omega, rfl, Lib.hid fun j h => by omega⟩
  case round =>
    obtain ⟨k, rfl, hk, rfl, HS⟩ := hrel
    by_cases hlt : k < n
    · have k1 : k < l.length := by rw [HN.out]; exact hlt
      obtain ⟨b, o, e, -, hb, f1⟩ := num_at HR.out k1
      subst e
      have i0 : (0 : Int) ≤ (k : Int) := by omega
      have i1 : (k : Int) < (n : Int) := by omega
      have HM := Lib.hid (List.getElem_mem k1)
      have HNX := Lib.hid (fun (h1 : l[k] ≠ i) (j : Nat) (h : j < k + 1) (h2 : j < l.length) => (show l[j] ≠ i from by
        rcases Nat.lt_or_ge j k with h3 | h3
        · exact HS.out j h3 h2
        · obtain rfl : j = k := by omega
          exact h1))
      generalize l[k] = y at *
      clear k1 HS
      by_cases he : y = i
      · subst he
        go_wp2_with fail
        go_ret
        exact ⟨_, rfl, ⟨fun _ => HM.out, fun _ => by omega⟩, rfl⟩
      · have hz : (i == y) = false := by simpa using fun e => he e.symm
        have HR2 := Lib.hid (HNX.out he)
        clear he HNX HM
        go_wp2_with fail
        exact ⟨⟨k + 1, by go_num, hlt, (by first | rfl | trivial), Lib.hid HR2.out⟩, by simp [intOf]; omega⟩
    · go_wp2_with fail
      go_ret
      refine ⟨-1, rfl, ⟨fun q => by omega, fun q => ?_⟩, rfl⟩
      obtain ⟨j, hj, rfl⟩ := List.mem_iff_getElem.1 q
      exact absurd rfl (HS.out j (by have := HN.out; omega) hj)
theorem contains_any (A : Option Addr) (l : List Int) (n c lo : Nat) (i : Int) (w : World) (hn : l.length = n) (h : RdR nrow 1 w lo A l) (hm : n ≤ maxLen) :
    Calls Tryz.prog 111 #[.slice A n c, .int .i64 i] w (BoolQ (i ∈ l) w) := by
  have HI := Lib.hid (sindex_any A l n c lo i w hn h hm)
  clear h hn
  go_enter Tryz.func111, Tryz.ntmps111
  go_wp2_with fail
  refine (HI.out).mono ?_
  rintro e w1 ⟨R, rfl, hr, rfl⟩
  have HR := Lib.hid hr
  clear hr
  go_wp2_with fail
  go_ret
  refine ⟨decide (R ≥ 0), rfl, ?_, rfl⟩
  rw [decide_eq_true_iff]
  exact HR.out
def nat2 (l : List Nat) : List Int := List.map (fun i : Nat => (i : Int)) l
theorem nat2_len (l : List Nat) : (nat2 l).length = l.length := List.length_map _
theorem nat2_mem (l : List Nat) (i : Nat) : (i : Int) ∈ nat2 l ↔ i ∈ l := by
  unfold nat2
  rw [List.mem_map]
  constructor
  · rintro ⟨j, hj, e⟩
    obtain rfl : j = i := by omega
    exact hj
  · exact fun h => ⟨i, h, rfl⟩
theorem nat2_at (l : List Nat) {i : Nat} (h : i < (nat2 l).length) : (nat2 l)[i] = ((l[i]'(by rwa [nat2_len] at h) : Nat) : Int) := by simp [nat2]
/-- Where the walk along the chain stands. -/
structure ChnS (l : Ls) (pre : List Nat) (at' : Nat) : Prop where
  lt : at' < l.cs.length
  rk : pre.length ≤ rnk l at'
  is : chnV l l.cs.length 0 = (chnV l (l.cs.length - pre.length) at').map (pre ++ ·)
theorem ChnS.zero {l : Ls} (v : Vld l) : ChnS l [] 0 := ⟨by have := v.n2; omega, Nat.zero_le _, by simp⟩
theorem ChnS.fuel {l : Ls} {pre : List Nat} {a : Nat} (h : ChnS l pre a) : ∃ f, l.cs.length - pre.length = f + 1 := ⟨l.cs.length - pre.length - 1, by have := rnk_n h.lt; have := h.rk; omega⟩
theorem ChnS.done {l : Ls} {pre : List Nat} (h : ChnS l pre 1) : chnV l l.cs.length 0 = some (pre ++ [1]) := by
  obtain ⟨f, hf⟩ := h.fuel
  rw [h.is, hf]
  unfold chnV
  rw [if_pos rfl]
  rfl
theorem ChnS.stop {l : Ls} {pre : List Nat} {a : Nat} (h : ChnS l pre a) (h1 : a ≠ 1) (h2 : blw l a (l.at_ a).right.toNat = false) : chnV l l.cs.length 0 = none := by
  obtain ⟨f, hf⟩ := h.fuel
  rw [h.is, hf]
  unfold chnV
  rw [if_neg h1, if_neg (by rw [h2]; exact Bool.false_ne_true)]
  rfl
theorem ChnS.next {l : Ls} (v : Vld l) {pre : List Nat} {a : Nat} (h : ChnS l pre a) (h1 : a ≠ 1) (h2 : blw l a (l.at_ a).right.toNat = true) : ChnS l (pre ++ [a]) (l.at_ a).right.toNat := by
  obtain ⟨f, hf⟩ := h.fuel
  have hr := v.rg a h.lt
  have hlt : (l.at_ a).right.toNat < l.cs.length := by omega
  have hk := (rnk_iff v h.lt hlt).1 h2
  have h3 := h.rk
  refine ⟨hlt, by rw [List.length_append]; simp only [List.length_cons, List.length_nil]; omega, ?_⟩
  rw [h.is, hf]
  conv => lhs; unfold chnV
  rw [if_neg h1, if_pos h2, List.length_append]
  simp only [List.length_cons, List.length_nil]
  rw [show l.cs.length - (pre.length + (0 + 1)) = f by omega, Option.map_map]
  congr 1
  funext r
  simp
theorem ChnS.small {l : Ls} {pre : List Nat} {a : Nat} (h : ChnS l pre a) : pre.length < l.cs.length := by have := rnk_n h.lt; have := h.rk; omega
end Lk
end
section
open Go.RowKit Go.Maps
namespace Lk

end Lk
end
section
open Go.RowKit Go.Maps
namespace Lk

end Lk
end
section
open Go.RowKit Go.Maps
namespace Lk

end Lk
end
section
open Go.RowKit Go.Maps
namespace Lk

end Lk
end
end Go.Proofs.YtmhbloefmknikaaGreatDoor
