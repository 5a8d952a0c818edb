/-
  Small functions of package locked, valid keys, different keys. Condition: the keys can be read.
-/
import Derived.Test.YtgmffgdhijcfcaaDoorKzI
import Derived.Test.YtgmffgdhijcfcaaDoorKsC
import Derived.Maps.OwnSet
import Derived.Carry
namespace Go.Proofs.YtgmffgdhijcfcaaDoor
open Go.RowKit Go.Maps
namespace Lk

/-- A truth, told by what it says; nothing but memory is made. -/
def BoolI (p : Prop) (w : World) (e : Ending) (w' : World) : Prop := ∃ b : Bool, e = .returned (.bool b) ∧ (b = true ↔ p) ∧ Below w.heap.size w w'
/-- The same, in the same world. -/
def BoolQ (p : Prop) (w : World) (e : Ending) (w' : World) : Prop := ∃ b : Bool, e = .returned (.bool b) ∧ (b = true ↔ p) ∧ w = w'
theorem BoolQ.yes {p : Prop} {w w' : World} {e : Ending} (h : BoolQ p w e w') (k : p) : e = .returned (.bool true) ∧ w = w' := by
  obtain ⟨b, h1, h2, h3⟩ := h
  rw [h2.2 k] at h1
  exact ⟨h1, h3⟩
theorem BoolQ.no {p : Prop} {w w' : World} {e : Ending} (h : BoolQ p w e w') (k : ¬ p) : e = .returned (.bool false) ∧ w = w' := by
  obtain ⟨b, h1, h2, h3⟩ := h
  cases b with
  | true => exact absurd (h2.1 rfl) k
  | false => exact ⟨h1, h3⟩
theorem BoolI.yes {p : Prop} {w w' : World} {e : Ending} (h : BoolI p w e w') (k : p) : e = .returned (.bool true) ∧ Below w.heap.size w w' := by
  obtain ⟨b, h1, h2, h3⟩ := h
  rw [h2.2 k] at h1
  exact ⟨h1, h3⟩
theorem BoolI.no {p : Prop} {w w' : World} {e : Ending} (h : BoolI p w e w') (k : ¬ p) : e = .returned (.bool false) ∧ Below w.heap.size w w' := by
  obtain ⟨b, h1, h2, h3⟩ := h
  cases b with
  | true => exact absurd (h2.1 rfl) k
  | false => exact ⟨h1, h3⟩
theorem isProcCount_any (m : Int) (w : World) : Calls Tryd.prog 32 #[.int .i64 m] w (BoolQ (1 ≤ m ∧ m ≤ 8) w) := by
  by_cases h1 : 1 ≤ m
  · have h1' : m ≥ 1 := h1
    by_cases h2 : m ≤ 8
    · go_enter Tryd.func32, Tryd.ntmps32
      go_wp2_with fail
      go_ret
      exact ⟨true, rfl, by simp; omega, rfl⟩
    · go_enter Tryd.func32, Tryd.ntmps32
      go_wp2_with fail
      go_ret
      exact ⟨false, rfl, by simp; omega, rfl⟩
  · have h1' : ¬ m ≥ 1 := h1
    go_enter Tryd.func32, Tryd.ntmps32
    go_wp2_with fail
    go_ret
    exact ⟨false, rfl, by simp; omega, rfl⟩
theorem isCellCount_any (m : Int) (w : World) : Calls Tryd.prog 60 #[.int .i64 m] w (BoolQ (2 ≤ m ∧ m ≤ 66) w) := by
  by_cases h1 : 2 ≤ m
  · have h1' : m ≥ 2 := h1
    by_cases h2 : m ≤ 66
    · go_enter Tryd.func60, Tryd.ntmps60
      go_wp2_with fail
      go_ret
      exact ⟨true, rfl, by simp; omega, rfl⟩
    · go_enter Tryd.func60, Tryd.ntmps60
      go_wp2_with fail
      go_ret
      exact ⟨false, rfl, by simp; omega, rfl⟩
  · have h1' : ¬ m ≥ 2 := h1
    go_enter Tryd.func60, Tryd.ntmps60
    go_wp2_with fail
    go_ret
    exact ⟨false, rfl, by simp; omega, rfl⟩
theorem isIndex_any (i n : Int) (w : World) : Calls Tryd.prog 44 #[.int .i64 i, .int .i64 n] w (BoolQ (0 ≤ i ∧ i < n) w) := by
  by_cases h1 : 0 ≤ i
  · have h1' : i ≥ 0 := h1
    by_cases h2 : i < n
    · go_enter Tryd.func44, Tryd.ntmps44
      go_wp2_with fail
      go_ret
      exact ⟨true, rfl, by simp; omega, rfl⟩
    · go_enter Tryd.func44, Tryd.ntmps44
      go_wp2_with fail
      go_ret
      exact ⟨false, rfl, by simp; omega, rfl⟩
  · have h1' : ¬ i ≥ 0 := h1
    go_enter Tryd.func44, Tryd.ntmps44
    go_wp2_with fail
    go_ret
    exact ⟨false, rfl, by simp; omega, rfl⟩
theorem isKind_any (i : Int) (w : World) : Calls Tryd.prog 45 #[.int .i64 i] w (BoolQ (0 ≤ i ∧ i ≤ 3) w) := by
  by_cases h1 : 0 ≤ i
  · have h1' : i ≥ 0 := h1
    by_cases h2 : i ≤ 3
    · go_enter Tryd.func45, Tryd.ntmps45
      go_wp2_with fail
      go_ret
      exact ⟨true, rfl, by simp; omega, rfl⟩
    · go_enter Tryd.func45, Tryd.ntmps45
      go_wp2_with fail
      go_ret
      exact ⟨false, rfl, by simp; omega, rfl⟩
  · have h1' : ¬ i ≥ 0 := h1
    go_enter Tryd.func45, Tryd.ntmps45
    go_wp2_with fail
    go_ret
    exact ⟨false, rfl, by simp; omega, rfl⟩
set_option maxRecDepth 100000 in
set_option maxHeartbeats 1600000 in
theorem isPhase_any (i : Int) (w : World) : Calls Tryd.prog 82 #[.int .i64 i] w (BoolQ (i = 18 ∨ (0 ≤ i ∧ i ≤ 13)) w) := by
  by_cases h14 : i = 14
  · subst h14
    go_enter Tryd.func82, Tryd.ntmps82
    go_wp2_with fail
    go_ret
    exact ⟨false, rfl, by simp, rfl⟩
  by_cases h15 : i = 15
  · subst h15
    go_enter Tryd.func82, Tryd.ntmps82
    go_wp2_with fail
    go_ret
    exact ⟨false, rfl, by simp, rfl⟩
  by_cases h16 : i = 16
  · subst h16
    go_enter Tryd.func82, Tryd.ntmps82
    go_wp2_with fail
    go_ret
    exact ⟨false, rfl, by simp, rfl⟩
  by_cases h17 : i = 17
  · subst h17
    go_enter Tryd.func82, Tryd.ntmps82
    go_wp2_with fail
    go_ret
    exact ⟨false, rfl, by simp, rfl⟩
  by_cases h1 : 0 ≤ i
  · have h1' : i ≥ 0 := h1
    by_cases h2 : i ≤ 18
    · go_enter Tryd.func82, Tryd.ntmps82
      go_wp2_with fail
      go_ret
      exact ⟨true, rfl, by simp; omega, rfl⟩
    · go_enter Tryd.func82, Tryd.ntmps82
      go_wp2_with fail
      go_ret
      exact ⟨false, rfl, by simp; omega, rfl⟩
  · have h1' : ¬ i ≥ 0 := h1
    go_enter Tryd.func82, Tryd.ntmps82
    go_wp2_with fail
    go_ret
    exact ⟨false, rfl, by simp; omega, rfl⟩
theorem underWay_any (x : Po) (w : World) : Calls Tryd.prog 46 #[x.val] w (BoolI (x.phase ≠ 0 ∧ x.phase ≠ 18) w) := by
  obtain ⟨k, c, ph, pd, sc, nx, rs⟩ := x
  have HX := Lib.hid (Has.new w 52 #[.int .i64 k, .int .i64 c, .int .i64 ph, .int .i64 pd, .int .i64 sc, .int .i64 nx, .bool rs])
  have HB := Lib.hid ((Below.refl w.heap.size w).alloc (Nat.le_refl _) (.cells #[.int .i64 k, .int .i64 c, .int .i64 ph, .int .i64 pd, .int .i64 sc, .int .i64 nx, .bool rs] 52))
  have x2 := HX.out.cell 2
  by_cases h0 : ph = 0
  · subst h0
    go_enter Tryd.func46, Tryd.ntmps46
    go_wp2_with fail
    go_ret
    exact ⟨false, rfl, by simp, HB.out⟩
  · by_cases h1 : ph = 18
    · subst h1
      go_enter Tryd.func46, Tryd.ntmps46
      go_wp2_with fail
      go_ret
      exact ⟨false, rfl, by simp, HB.out⟩
    · have e0 : (ph != 0) = true := by simpa using h0
      have e1 : (ph != 18) = true := by simpa using h1
      go_enter Tryd.func46, Tryd.ntmps46
      go_wp2_with fail
      go_ret
      exact ⟨true, rfl, by simp; exact ⟨h0, h1⟩, HB.out⟩
/-- The test of one key, and of all. -/
theorem badKey_any (k : ByteArray) (w : World) : Calls Tryd.prog 53 #[.string k] w fun e w' => e = .returned (.bool (!vk k)) ∧ w = w' := by
  go_enter Tryd.func53, Tryd.ntmps53
  go_wp2_with (go_at_call 54; refine (vk_key _ _).mono ?_; rintro e w' ⟨rfl, rfl⟩)
  go_ret
  exact ⟨rfl, rfl⟩
set_option maxRecDepth 100000 in
set_option maxHeartbeats 1600000 in
theorem kindex_any (A : Option Addr) (ks : List ByteArray) (n c lo : Nat) (w : World) (hn : ks.length = n) (h : RdR trow 1 w lo A ks) (hm : n ≤ maxLen) :
    Calls Tryd.prog 75 #[.slice A n c, .func (.func 53) #[] #[]] w fun e w' => ∃ R : Int, e = .returned (.int .i64 R) ∧ (R < 0 ↔ ∀ k ∈ ks, vk k = true) ∧ w = w' := by
  have hml : maxLen ≤ 9223372036854775807 := by decide
  have HN := Lib.hid hn
  have HR := Lib.hid h
  clear h hn
  go_enter Tryd.func75, Tryd.ntmps75
  go_wp2_with fail
  go_loopw [8] (fun vk' wr => ∃ k : Nat, vk' = .int .i64 (k : Int) ∧ k ≤ n ∧ w = wr ∧ Hid (∀ j (h : j < k) (h2 : j < ks.length), vk ks[j] = true)) (fun vk' _ => n - (intOf vk').toNat)
  case atStart => exact ⟨0, rfl, by omega, rfl, Lib.hid fun j h => by omega⟩
  case round =>
    obtain ⟨k, rfl, hk, rfl, HS⟩ := hrel
    by_cases hlt : k < n
    · have k1 : k < ks.length := by rw [HN.out]; exact hlt
      obtain ⟨b, o, e, -, hb, f1⟩ := text_at HR.out k1
      subst e
      have i0 : (0 : Int) ≤ (k : Int) := by omega
      have i1 : (k : Int) < (n : Int) := by omega
      have HNX := Lib.hid (fun (h1 : vk ks[k] = true) (j : Nat) (h : j < k + 1) (h2 : j < ks.length) => (show vk ks[j] = true from by
        rcases Nat.lt_or_ge j k with h3 | h3
        · exact HS.out j h3 h2
        · obtain rfl : j = k := by omega
          exact h1))
      have HNO := Lib.hid (fun (h1 : vk ks[k] = false) (h2 : ∀ x ∈ ks, vk x = true) => (Bool.noConfusion ((h2 _ (List.getElem_mem k1)).symm.trans h1) : False))
      generalize ks[k] = y at *
      clear k1 HS
      have HB := Lib.hid (badKey_any y w)
      cases hv : vk y with
      | false =>
        rw [hv] at HB HNO
        clear hv
        go_wp2_with fail
        refine (HB.out).mono ?_
        rintro e w' ⟨rfl, rfl⟩
        go_wp2_with fail
        go_ret
        exact ⟨_, rfl, ⟨fun h => by omega, fun h => (HNO.out (by first | rfl | trivial) h).elim⟩, rfl⟩
      | true =>
        rw [hv] at HB HNX
        clear hv
        go_wp2_with fail
        refine (HB.out).mono ?_
        rintro e w' ⟨rfl, rfl⟩
        go_wp2_with fail
        exact ⟨⟨k + 1, by go_num, hlt, (by first | rfl | trivial), Lib.hid (HNX.out (by first | rfl | trivial))⟩, by simp [intOf]; omega⟩
    · go_wp2_with fail
      go_ret
      refine ⟨-1, rfl, ⟨fun _ x hx => ?_, fun _ => by omega⟩, rfl⟩
      obtain ⟨j, hj, rfl⟩ := List.mem_iff_getElem.1 hx
      exact HS.out j (by have := HN.out; omega) hj
theorem kcontains_any (A : Option Addr) (ks : List ByteArray) (n c lo : Nat) (w : World) (hn : ks.length = n) (h : RdR trow 1 w lo A ks) (hm : n ≤ maxLen) :
    Calls Tryd.prog 52 #[.slice A n c, .func (.func 53) #[] #[]] w (BoolQ (¬ ∀ k ∈ ks, vk k = true) w) := by
  have HI := Lib.hid (kindex_any A ks n c lo w hn h hm)
  clear h hn
  go_enter Tryd.func52, Tryd.ntmps52
  go_wp2_with fail
  refine (HI.out).mono ?_
  rintro e w1 ⟨R, rfl, hr, rfl⟩
  have HR := Lib.hid hr
  clear hr
  go_wp2_with fail
  go_ret
  refine ⟨decide (R ≥ 0), rfl, ?_, rfl⟩
  rw [decide_eq_true_iff, ← HR.out]
  omega
/-- All keys are valid. -/
theorem validKeys_any (A : Option Addr) (ks : List ByteArray) (n c lo : Nat) (w : World) (hn : ks.length = n) (h : RdR trow 1 w lo A ks) (hm : n ≤ maxLen) :
    Calls Tryd.prog 33 #[.slice A n c] w (BoolQ (∀ k ∈ ks, vk k = true) w) := by
  have HI := Lib.hid (kcontains_any A ks n c lo w hn h hm)
  clear h hn
  go_enter Tryd.func33, Tryd.ntmps33
  go_wp2_with fail
  refine (HI.out).mono ?_
  rintro e w1 ⟨b, rfl, hr, rfl⟩
  have HR := Lib.hid hr
  clear hr
  go_wp2_with fail
  go_ret
  refine ⟨!b, rfl, ?_, rfl⟩
  cases b with
  | true => exact ⟨fun h => Bool.noConfusion h, fun h => absurd h (HR.out.1 rfl)⟩
  | false => exact ⟨fun _ => Classical.byContradiction fun q => Bool.noConfusion (HR.out.2 q), fun _ => rfl⟩
theorem lawStr : Keyed Tryd.prog 9 := string_keyed Tryd.underlying9
theorem zeroBool (w : World) : (zeroValue 4).run Tryd.prog w = .ok (.bool false) w := by kernel_rfl
def litK (k : ByteArray) : Lit := .string k.data.toList
theorem litK_inj {a b : ByteArray} (h : litK a = litK b) : a = b := by
  unfold litK at h
  injection h with h
  apply toList_inj
  rw [toList_data, toList_data, h]
/-- The keys that a map holds: the first k of a list; how many there are tells whether they are different. -/
def SetK {H : Type} (D : DataW H) (ks : List ByteArray) (k : Nat) : Prop := (∀ x, Maps.has D (litK x) = true ↔ x ∈ ks.take k) ∧ Maps.size D ≤ k ∧ (Maps.size D = k ↔ (ks.take k).Nodup)
theorem SetK.zero {H : Type} (ks : List ByteArray) : SetK (.map [] : DataW H) ks 0 := ⟨fun x => by simp [Maps.has], Nat.le_refl _, by simp [Maps.size]⟩
theorem SetK.next {H : Type} {D : DataW H} {ks : List ByteArray} {k : Nat} (h : SetK D ks k) (t : Tidy D) (hk : k < ks.length) (d : DataW H) : SetK (D.put (litK ks[k]) d) ks (k + 1) := by
  obtain ⟨h1, h2, h3⟩ := h
  have e := List.take_succ_eq_append_getElem hk
  have hs := size_put (k := litK ks[k]) t d
  refine ⟨fun x => ?_, ?_, ?_⟩
  · rw [e, List.mem_append, List.mem_singleton, ← h1]
    by_cases q : x = ks[k]
    · subst q
      rw [has_put_same (k := litK ks[k]) t.isMap trivial]
      simp
    · rw [has_put_other (fun q2 => q (litK_inj q2))]
      simp [q]
  · rw [hs]
    split <;> omega
  · rw [hs, e, List.nodup_append]
    by_cases q : Maps.has D (litK ks[k]) = true
    · rw [if_pos q]
      have hm := (h1 _).1 q
      constructor
      · intro q2; omega
      · rintro ⟨-, -, q3⟩
        exact absurd rfl (q3 _ hm _ List.mem_cons_self)
    · rw [if_neg q]
      have hm : ks[k] ∉ ks.take k := fun q2 => q ((h1 _).2 q2)
      constructor
      · intro q2
        refine ⟨h3.1 (by omega), by simp, fun a ha b hb => ?_⟩
        rw [List.mem_singleton] at hb
        subst hb
        exact fun q3 => hm (q3 ▸ ha)
      · rintro ⟨q2, -, -⟩
        rw [h3.2 q2]
set_option maxRecDepth 100000 in
set_option maxHeartbeats 1600000 in
/-- Keys are different. -/
theorem different_any (A : Option Addr) (ks : List ByteArray) (n c : Nat) (w : World) (hn : ks.length = n) (h : RdR trow 1 w 0 A ks) (hm : n ≤ 1000000) (hv : ∀ k ∈ ks, vk k = true) :
    Calls Tryd.prog 34 #[.slice A n c] w (BoolI ks.Nodup w) := by
  have hmm := @run_makeMap Tryd.prog
  have HN := Lib.hid hn
  have HR := Lib.hid h
  have HV := Lib.hid hv
  have HU0 := Lib.hid (World.ownsMap_made (H := Unit) w Tryd.prog 9 (plainElem Tryd.prog 4))
  have HB0 := Lib.hid ((Below.refl w.heap.size w).alloc (Nat.le_refl _) (.map #[] 0))
  obtain ⟨g, hg⟩ : ∃ g, g = w.heap.size := ⟨_, rfl⟩
  rw [← hg] at HU0
  have HG := Lib.hid hg
  clear h hn hv
  go_enter Tryd.func34, Tryd.ntmps34
  go_wp2_with fail
  rw [← hg]
  clear hg
  go_loopw [9] (fun vi wr => ∃ (k : Nat) (D : DataW Unit), vi = .int .i64 (k : Int) ∧ k ≤ n ∧ wr.ownsMap Tryd.prog 9 (plainElem Tryd.prog 4) g k D ∧ Hid (SetK D ks k) ∧ Below w.heap.size w wr) (fun vi _ => n - (intOf vi).toNat)
  case atStart => exact ⟨0, _, rfl, by omega, HU0.out, Lib.hid (SetK.zero ks), HB0.out⟩
  case round =>
    obtain ⟨k, D, rfl, hk, hU, HS, hB⟩ := hrel
    have HB := Lib.hid hB
    by_cases hlt : k < n
    · have k1 : k < ks.length := by rw [HN.out]; exact hlt
      obtain ⟨b, o, e, -, hb, f1⟩ := text_at HR.out k1
      subst e
      replace f1 := (hB.cell (p := ⟨b, o + k, none⟩) hb).trans f1
      have i0 : (0 : Int) ≤ (k : Int) := by omega
      have i1 : (k : Int) < (n : Int) := by omega
      have hv := HV.out _ (List.getElem_mem k1)
      have hsz : ks[k].size ≤ maxLen := by
        have := of_decide_eq_true hv
        unfold maxLen; omega
      have HNX := Lib.hid (HS.out.next (hU.tidy lawStr) k1 (.lit (.bool true)))
      have HU := Lib.hid hU
      have hkey : keyOf Tryd.prog 9 (.string ks[k]) = some (litK ks[k]) := WideMaps.keyOf_string_mk Tryd.underlying9 hsz
      generalize ks[k] = y at *
      clear hB hU hb hv k1 HS hsz
      go_wp2_with (at_mapUpdate; refine wpList_mapUpdate_own _ rfl _ _ _ 80 rfl 9 4 lawStr Tryd.underlying80 _ g k D rfl HU.out (by unfold maxLen; omega) _ _ _ rfl rfl hkey (.lit (.bool true)) [] (plainElem_bool Tryd.underlying4 _) ?_; intro w1 hm3 hgr3; have HM3 := Lib.hid hm3; have HB3 := Lib.hid (HB.out.grown hgr3 HB.out.size (fun j e => (by have := Option.some.inj e; have := HG.out; omega))); clear hm3 hgr3)
      exact ⟨⟨k + 1, _, by go_num, hlt, HM3.out, Lib.hid HNX.out, HB3.out⟩, by simp [intOf]; omega⟩
    · obtain rfl : k = n := by omega
      have hlen := fun ty => hU.len Tryd.underlying80 ty
      have hS := HS.out
      unfold SetK at hS
      obtain ⟨-, h2, h3⟩ := hS
      have HQ : Hid (Maps.size D = k ↔ ks.Nodup) := Lib.hid (by rw [h3, ← HN.out, List.take_length])
      generalize Maps.size D = S at *
      clear hU HS hB h3
      by_cases hs : S = k
      · subst hs
        go_wp2_with fail
        go_ret
        exact ⟨true, rfl, by simpa using HQ.out.1 (by first | rfl | trivial), HB.out⟩
      · have hs2 : ((S : Int) == (k : Int)) = false := by simp; omega
        have hs3 : decide ((S : Int) = (k : Int)) = false := by simp; omega
        go_wp2_with fail
        go_ret
        exact ⟨false, rfl, ⟨fun h => Bool.noConfusion h, fun h => absurd (HQ.out.2 h) hs⟩, HB.out⟩
end Lk
end Go.Proofs.YtgmffgdhijcfcaaDoor
