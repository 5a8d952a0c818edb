/-
  Small functions of package locked, valid keys, different keys. Condition: the keys can be read.
  Valid of package locked. Conditions: the list can be read; no list is long.
  validProcs of package locked. Conditions: the list can be read; no list is long.
  Valid, Bound and Step of package locked. Conditions: the list can be read; no list is long.
  act, Step and Bound of package locked. Conditions: the list can be read; no list is long.
  Start of package locked. Conditions: the list can be read; no list is long.
-/
import Derived.Test.YtmhbloefmknikaaGreatDoorLzD
import Derived.Test.YtmhbloefmknikaaGreatDoorKsC
import Derived.Maps.OwnSet
import Derived.Carry
namespace Go.Proofs.YtmhbloefmknikaaGreatDoor
section
open Go.RowKit Go.Maps
namespace Lk

/-- A truth, told by what it says; nothing but memory is made. -/
def BoolI (p : Prop) (w : World) (e : Ending) (w' : World) : Prop := ∃ b : Bool, e = .returned (.bool b) ∧ (b = true ↔ p) ∧ Below w.heap.size w w'
/-- The same, in the same world. -/
def BoolQ (p : Prop) (w : World) (e : Ending) (w' : World) : Prop := ∃ b : Bool, e = .returned (.bool b) ∧ (b = true ↔ p) ∧ w = w'
theorem BoolQ.yes {p : Prop} {w w' : World} {e : Ending} (h : BoolQ p w e w') (k : p) : e = .returned (.bool true) ∧ w = w' := by
  obtain ⟨b, h1, h2, h3⟩ := h
  rw [h2.2 k] at h1
  exact ⟨h1, h3⟩
theorem BoolQ.no {p : Prop} {w w' : World} {e : Ending} (h : BoolQ p w e w') (k : ¬ p) : e = .returned (.bool false) ∧ w = w' := by
  obtain ⟨b, h1, h2, h3⟩ := h
  cases b with
  | true => exact absurd (h2.1 rfl) k
  | false => exact ⟨h1, h3⟩
theorem BoolI.yes {p : Prop} {w w' : World} {e : Ending} (h : BoolI p w e w') (k : p) : e = .returned (.bool true) ∧ Below w.heap.size w w' := by
  obtain ⟨b, h1, h2, h3⟩ := h
  rw [h2.2 k] at h1
  exact ⟨h1, h3⟩
theorem BoolI.no {p : Prop} {w w' : World} {e : Ending} (h : BoolI p w e w') (k : ¬ p) : e = .returned (.bool false) ∧ Below w.heap.size w w' := by
  obtain ⟨b, h1, h2, h3⟩ := h
  cases b with
  | true => exact absurd (h2.1 rfl) k
  | false => exact ⟨h1, h3⟩
theorem isProcCount_any (m : Int) (w : World) : Calls Tryz.prog 88 #[.int .i64 m] w (BoolQ (1 ≤ m ∧ m ≤ 8) w) := by
  by_cases h1 : 1 ≤ m
  · have h1' : m ≥ 1 := h1
    by_cases h2 : m ≤ 8
    · go_enter Tryz.func88, Tryz.ntmps88
      go_wp2_with fail
      go_ret
      exact ⟨true, rfl, by simp; omega, rfl⟩
    · go_enter Tryz.func88, Tryz.ntmps88
      go_wp2_with fail
      go_ret
      exact ⟨false, rfl, by simp; omega, rfl⟩
  · have h1' : ¬ m ≥ 1 := h1
    go_enter Tryz.func88, Tryz.ntmps88
    go_wp2_with fail
    go_ret
    exact ⟨false, rfl, by simp; omega, rfl⟩
theorem isCellCount_any (m : Int) (w : World) : Calls Tryz.prog 93 #[.int .i64 m] w (BoolQ (2 ≤ m ∧ m ≤ 66) w) := by
  by_cases h1 : 2 ≤ m
  · have h1' : m ≥ 2 := h1
    by_cases h2 : m ≤ 66
    · go_enter Tryz.func93, Tryz.ntmps93
      go_wp2_with fail
      go_ret
      exact ⟨true, rfl, by simp; omega, rfl⟩
    · go_enter Tryz.func93, Tryz.ntmps93
      go_wp2_with fail
      go_ret
      exact ⟨false, rfl, by simp; omega, rfl⟩
  · have h1' : ¬ m ≥ 2 := h1
    go_enter Tryz.func93, Tryz.ntmps93
    go_wp2_with fail
    go_ret
    exact ⟨false, rfl, by simp; omega, rfl⟩
theorem isIndex_any (i n : Int) (w : World) : Calls Tryz.prog 50 #[.int .i64 i, .int .i64 n] w (BoolQ (0 ≤ i ∧ i < n) w) := by
  by_cases h1 : 0 ≤ i
  · have h1' : i ≥ 0 := h1
    by_cases h2 : i < n
    · go_enter Tryz.func50, Tryz.ntmps50
      go_wp2_with fail
      go_ret
      exact ⟨true, rfl, by simp; omega, rfl⟩
    · go_enter Tryz.func50, Tryz.ntmps50
      go_wp2_with fail
      go_ret
      exact ⟨false, rfl, by simp; omega, rfl⟩
  · have h1' : ¬ i ≥ 0 := h1
    go_enter Tryz.func50, Tryz.ntmps50
    go_wp2_with fail
    go_ret
    exact ⟨false, rfl, by simp; omega, rfl⟩
theorem isKind_any (i : Int) (w : World) : Calls Tryz.prog 51 #[.int .i64 i] w (BoolQ (0 ≤ i ∧ i ≤ 3) w) := by
  by_cases h1 : 0 ≤ i
  · have h1' : i ≥ 0 := h1
    by_cases h2 : i ≤ 3
    · go_enter Tryz.func51, Tryz.ntmps51
      go_wp2_with fail
      go_ret
      exact ⟨true, rfl, by simp; omega, rfl⟩
    · go_enter Tryz.func51, Tryz.ntmps51
      go_wp2_with fail
      go_ret
      exact ⟨false, rfl, by simp; omega, rfl⟩
  · have h1' : ¬ i ≥ 0 := h1
    go_enter Tryz.func51, Tryz.ntmps51
    go_wp2_with fail
    go_ret
    exact ⟨false, rfl, by simp; omega, rfl⟩
set_option maxRecDepth 100000 in
set_option maxHeartbeats 1600000 in
theorem isPhase_any (i : Int) (w : World) : Calls Tryz.prog 132 #[.int .i64 i] w (BoolQ (i = 18 ∨ (0 ≤ i ∧ i ≤ 13)) w) := by
  by_cases h14 : i = 14
  · subst h14
    go_enter Tryz.func132, Tryz.ntmps132
    go_wp2_with fail
    go_ret
    exact ⟨false, rfl, by simp, rfl⟩
  by_cases h15 : i = 15
  · subst h15
    go_enter Tryz.func132, Tryz.ntmps132
    go_wp2_with fail
    go_ret
    exact ⟨false, rfl, by simp, rfl⟩
  by_cases h16 : i = 16
  · subst h16
    go_enter Tryz.func132, Tryz.ntmps132
    go_wp2_with fail
    go_ret
    exact ⟨false, rfl, by simp, rfl⟩
  by_cases h17 : i = 17
  · subst h17
    go_enter Tryz.func132, Tryz.ntmps132
    go_wp2_with fail
    go_ret
    exact ⟨false, rfl, by simp, rfl⟩
  by_cases h1 : 0 ≤ i
  · have h1' : i ≥ 0 := h1
    by_cases h2 : i ≤ 18
    · go_enter Tryz.func132, Tryz.ntmps132
      go_wp2_with fail
      go_ret
      exact ⟨true, rfl, by simp; omega, rfl⟩
    · go_enter Tryz.func132, Tryz.ntmps132
      go_wp2_with fail
      go_ret
      exact ⟨false, rfl, by simp; omega, rfl⟩
  · have h1' : ¬ i ≥ 0 := h1
    go_enter Tryz.func132, Tryz.ntmps132
    go_wp2_with fail
    go_ret
    exact ⟨false, rfl, by simp; omega, rfl⟩
/-- The test of one key, and of all. -/
theorem badKey_any (k : ByteArray) (w : World) : Calls Tryz.prog 129 #[.string k] w fun e w' => e = .returned (.bool (!vk k)) ∧ w = w' := by
  go_enter Tryz.func129, Tryz.ntmps129
  go_wp2_with (go_at_call 130; refine (vk_key _ _).mono ?_; rintro e w' ⟨rfl, rfl⟩)
  go_ret
  exact ⟨rfl, rfl⟩
set_option maxRecDepth 100000 in
set_option maxHeartbeats 1600000 in
theorem kindex_any (A : Option Addr) (ks : List ByteArray) (n c lo : Nat) (w : World) (hn : ks.length = n) (h : RdR trow 1 w lo A ks) (hm : n ≤ maxLen) :
    Calls Tryz.prog 147 #[.slice A n c, .func (.func 129) #[] #[]] w fun e w' => ∃ R : Int, e = .returned (.int .i64 R) ∧ (R < 0 ↔ ∀ k ∈ ks, vk k = true) ∧ w = w' := by
  have hml : maxLen ≤ 9223372036854775807 := by decide
  have HN := Lib.hid hn
  have HR := Lib.hid h
  clear h hn
  go_enter Tryz.func147, Tryz.ntmps147
  go_wp2_with fail
  go_loopw [8] (fun vk' wr => ∃ k : Nat, vk' = .int .i64 (k : Int) ∧ k ≤ n ∧ w = wr ∧ Hid (∀ j (h : j < k) (h2 : j < ks.length), vk ks[j] = true)) (fun vk' _ => n - (intOf vk').toNat)
  case atStart => exact ⟨0, rfl, by omega, rfl, Lib.hid fun j h => by omega⟩
  case round =>
    obtain ⟨k, rfl, hk, rfl, HS⟩ := hrel
    by_cases hlt : k < n
    · have k1 : k < ks.length := by rw [HN.out]; exact hlt
      obtain ⟨b, o, e, -, hb, f1⟩ := text_at HR.out k1
      subst e
      have i0 : (0 : Int) ≤ (k : Int) := by omega
      have i1 : (k : Int) < (n : Int) := by omega
      have HNX := Lib.hid (fun (h1 : vk ks[k] = true) (j : Nat) (h : j < k + 1) (h2 : j < ks.length) => (show vk ks[j] = true from by
        rcases Nat.lt_or_ge j k with h3 | h3
        · exact HS.out j h3 h2
        · obtain rfl : j = k := by omega
          exact h1))
      have HNO := Lib.hid (fun (h1 : vk ks[k] = false) (h2 : ∀ x ∈ ks, vk x = true) => (Bool.noConfusion ((h2 _ (List.getElem_mem k1)).symm.trans h1) : False))
      generalize ks[k] = y at *
      clear k1 HS
      have HB := Lib.hid (badKey_any y w)
      cases hv : vk y with
      | false =>
        rw [hv] at HB HNO
        clear hv
        go_wp2_with fail
        refine (HB.out).mono ?_
        rintro e w' ⟨rfl, rfl⟩
        go_wp2_with fail
        go_ret
        exact ⟨_, rfl, ⟨fun h => by omega, fun h => (HNO.out (by first | rfl | trivial) h).elim⟩, rfl⟩
      | true =>
        rw [hv] at HB HNX
        clear hv
        go_wp2_with fail
        refine (HB.out).mono ?_
        rintro e w' ⟨rfl, rfl⟩
        go_wp2_with fail
        exact ⟨⟨k + 1, by go_num, hlt, (by first | rfl | trivial), Lib.hid (HNX.out (by first | rfl | trivial))⟩, by simp [intOf]; omega⟩
    · go_wp2_with fail
      go_ret
      refine ⟨-1, rfl, ⟨fun _ x hx => ?_, fun _ => by omega⟩, rfl⟩
      obtain ⟨j, hj, rfl⟩ := List.mem_iff_getElem.1 hx
      exact HS.out j (by have := HN.out; omega) hj
theorem kcontains_any (A : Option Addr) (ks : List ByteArray) (n c lo : Nat) (w : World) (hn : ks.length = n) (h : RdR trow 1 w lo A ks) (hm : n ≤ maxLen) :
    Calls Tryz.prog 128 #[.slice A n c, .func (.func 129) #[] #[]] w (BoolQ (¬ ∀ k ∈ ks, vk k = true) w) := by
  have HI := Lib.hid (kindex_any A ks n c lo w hn h hm)
  clear h hn
  go_enter Tryz.func128, Tryz.ntmps128
  go_wp2_with fail
  refine (HI.out).mono ?_
  rintro e w1 ⟨R, rfl, hr, rfl⟩
  have HR := Lib.hid hr
  clear hr
  go_wp2_with fail
  go_ret
  refine ⟨decide (R ≥ 0), rfl, ?_, rfl⟩
  rw [decide_eq_true_iff, ← HR.out]
  omega
/-- All keys are valid. -/
theorem validKeys_any (A : Option Addr) (ks : List ByteArray) (n c lo : Nat) (w : World) (hn : ks.length = n) (h : RdR trow 1 w lo A ks) (hm : n ≤ maxLen) :
    Calls Tryz.prog 89 #[.slice A n c] w (BoolQ (∀ k ∈ ks, vk k = true) w) := by
  have HI := Lib.hid (kcontains_any A ks n c lo w hn h hm)
  clear h hn
  go_enter Tryz.func89, Tryz.ntmps89
  go_wp2_with fail
  refine (HI.out).mono ?_
  rintro e w1 ⟨b, rfl, hr, rfl⟩
  have HR := Lib.hid hr
  clear hr
  go_wp2_with fail
  go_ret
  refine ⟨!b, rfl, ?_, rfl⟩
  cases b with
  | true => exact ⟨fun h => Bool.noConfusion h, fun h => absurd h (HR.out.1 rfl)⟩
  | false => exact ⟨fun _ => Classical.byContradiction fun q => Bool.noConfusion (HR.out.2 q), fun _ => rfl⟩
theorem lawStr : Keyed Tryz.prog 9 := string_keyed Tryz.underlying9
def litK (k : ByteArray) : Lit := .string k.data.toList
theorem litK_inj {a b : ByteArray} (h : litK a = litK b) : a = b := by
  unfold litK at h
  injection h with h
  apply toList_inj
  rw [toList_data, toList_data, h]
/-- The keys that a map holds: the first k of a list; how many there are tells whether they are different. -/
def SetK {H : Type} (D : DataW H) (ks : List ByteArray) (k : Nat) : Prop := (∀ x, Maps.has D (litK x) = true ↔ x ∈ ks.take k) ∧ Maps.size D ≤ k ∧ (Maps.size D = k ↔ (ks.take k).Nodup)
theorem SetK.zero {H : Type} (ks : List ByteArray) : SetK (.map [] : DataW H) ks 0 := ⟨fun x => by simp [Maps.has], Nat.le_refl _, by simp [Maps.size]⟩
theorem SetK.next {H : Type} {D : DataW H} {ks : List ByteArray} {k : Nat} (h : SetK D ks k) (t : Tidy D) (hk : k < ks.length) (d : DataW H) : SetK (D.put (litK ks[k]) d) ks (k + 1) := by
  obtain ⟨h1, h2, h3⟩ := h
  have e := List.take_succ_eq_append_getElem hk
  have hs := size_put (k := litK ks[k]) t d
  refine ⟨fun x => ?_, ?_, ?_⟩
  · rw [e, List.mem_append, List.mem_singleton, ← h1]
    by_cases q : x = ks[k]
    · subst q
      rw [has_put_same (k := litK ks[k]) t.isMap trivial]
      simp
    · rw [has_put_other (fun q2 => q (litK_inj q2))]
      simp [q]
  · rw [hs]
    split <;> omega
  · rw [hs, e, List.nodup_append]
    by_cases q : Maps.has D (litK ks[k]) = true
    · rw [if_pos q]
      have hm := (h1 _).1 q
      constructor
      · intro q2; omega
      · rintro ⟨-, -, q3⟩
        exact absurd rfl (q3 _ hm _ List.mem_cons_self)
    · rw [if_neg q]
      have hm : ks[k] ∉ ks.take k := fun q2 => q ((h1 _).2 q2)
      constructor
      · intro q2
        refine ⟨h3.1 (by omega), by simp, fun a ha b hb => ?_⟩
        rw [List.mem_singleton] at hb
        subst hb
        exact fun q3 => hm (q3 ▸ ha)
      · rintro ⟨q2, -, -⟩
        rw [h3.2 q2]
set_option maxRecDepth 100000 in
set_option maxHeartbeats 1600000 in
/-- Keys are different. -/
theorem different_any (A : Option Addr) (ks : List ByteArray) (n c : Nat) (w : World) (hn : ks.length = n) (h : RdR trow 1 w 0 A ks) (hm : n ≤ 1000000) (hv : ∀ k ∈ ks, vk k = true) :
    Calls Tryz.prog 90 #[.slice A n c] w (BoolI ks.Nodup w) := by
  have hmm := @run_makeMap Tryz.prog
  have HN := Lib.hid hn
  have HR := Lib.hid h
  have HV := Lib.hid hv
  have HU0 := Lib.hid (World.ownsMap_made (H := Unit) w Tryz.prog 9 (plainElem Tryz.prog 4))
  have HB0 := Lib.hid ((Below.refl w.heap.size w).alloc (Nat.le_refl _) (.map #[] 0))
  obtain ⟨g, hg⟩ : ∃ g, g = w.heap.size := ⟨_, rfl⟩
  rw [← hg] at HU0
  have HG := Lib.hid hg
  clear h hn hv
  go_enter Tryz.func90, Tryz.ntmps90
  go_wp2_with fail
  rw [← hg]
  clear hg
  go_loopw [9] (fun vi wr => ∃ (k : Nat) (D : DataW Unit), vi = .int .i64 (k : Int) ∧ k ≤ n ∧ wr.ownsMap Tryz.prog 9 (plainElem Tryz.prog 4) g k D ∧ Hid (SetK D ks k) ∧ Below w.heap.size w wr) (fun vi _ => n - (intOf vi).toNat)
  case atStart => exact ⟨0, _, rfl, by omega, HU0.out, Lib.hid (SetK.zero ks), HB0.out⟩
  case round =>
    obtain ⟨k, D, rfl, hk, hU, HS, hB⟩ := hrel
    have HB := Lib.hid hB
    by_cases hlt : k < n
    · have k1 : k < ks.length := by rw [HN.out]; exact hlt
      obtain ⟨b, o, e, -, hb, f1⟩ := text_at HR.out k1
      subst e
      replace f1 := (hB.cell (p := ⟨b, o + k, none⟩) hb).trans f1
      have i0 : (0 : Int) ≤ (k : Int) := by omega
      have i1 : (k : Int) < (n : Int) := by omega
      have hv := HV.out _ (List.getElem_mem k1)
      have hsz : ks[k].size ≤ maxLen := by
        have := of_decide_eq_true hv
        unfold maxLen; omega
      have HNX := Lib.hid (HS.out.next (hU.tidy lawStr) k1 (.lit (.bool true)))
      have HU := Lib.hid hU
      have hkey : keyOf Tryz.prog 9 (.string ks[k]) = some (litK ks[k]) := WideMaps.keyOf_string_mk Tryz.underlying9 hsz
      generalize ks[k] = y at *
      clear hB hU hb hv k1 HS hsz
      go_wp2_with (at_mapUpdate; refine wpList_mapUpdate_own _ rfl _ _ _ 104 rfl 9 4 lawStr Tryz.underlying104 _ g k D rfl HU.out (by unfold maxLen; omega) _ _ _ rfl rfl hkey (.lit (.bool true)) [] (plainElem_bool Tryz.underlying4 _) ?_; intro w1 hm3 hgr3; have HM3 := Lib.hid hm3; have HB3 := Lib.hid (HB.out.grown hgr3 HB.out.size (fun j e => (by have := Option.some.inj e; have := HG.out; omega))); clear hm3 hgr3)
      exact ⟨⟨k + 1, _, by go_num, hlt, HM3.out, Lib.hid HNX.out, HB3.out⟩, by simp [intOf]; omega⟩
    · obtain rfl : k = n := by omega
      have hlen := fun ty => hU.len Tryz.underlying104 ty
      have hS := HS.out
      unfold SetK at hS
      obtain ⟨-, h2, h3⟩ := hS
      have HQ : Hid (Maps.size D = k ↔ ks.Nodup) := Lib.hid (by rw [h3, ← HN.out, List.take_length])
      generalize Maps.size D = S at *
      clear hU HS hB h3
      by_cases hs : S = k
      · subst hs
        go_wp2_with fail
        go_ret
        exact ⟨true, rfl, by simpa using HQ.out.1 (by first | rfl | trivial), HB.out⟩
      · have hs2 : ((S : Int) == (k : Int)) = false := by simp; omega
        have hs3 : decide ((S : Int) = (k : Int)) = false := by simp; omega
        go_wp2_with fail
        go_ret
        exact ⟨false, rfl, ⟨fun h => Bool.noConfusion h, fun h => absurd (HQ.out.2 h) hs⟩, HB.out⟩
end Lk
end
section
open Go.RowKit Go.Maps
namespace Lk

theorem own_sh {α : Type} {enc : α → List Value} {k : Nat} {e : TypeId} {w : World} {base : Nat} {v : Value} {l : List α} (h : OwnR enc k e w base v l) : ∃ A n c, v = .slice A n c := by
  obtain ⟨A, c, e⟩ := h.shape
  exact ⟨A, _, c, e⟩
def celOk (l : Ls) (i : Nat) : Prop := (0 ≤ (l.at_ i).left ∧ (l.at_ i).left < (l.cs.length : Int)) ∧ (0 ≤ (l.at_ i).right ∧ (l.at_ i).right < (l.cs.length : Int)) ∧ (0 ≤ (l.at_ i).lock ∧ (l.at_ i).lock < (l.ps.length : Int) + 1)
def keysV (l : Ls) (i : Nat) : List ByteArray := ((l.cs.take i).drop 2).map Ce.key
theorem keysV_lo (l : Ls) {i : Nat} (h : i < 2) (hn : i < l.cs.length) : keysV l (i + 1) = keysV l i := by
  unfold keysV
  rw [List.drop_eq_nil_of_le (by rw [List.length_take]; omega), List.drop_eq_nil_of_le (by rw [List.length_take]; omega)]
theorem keysV_hi (l : Ls) {i : Nat} (h : 2 ≤ i) (hn : i < l.cs.length) : keysV l (i + 1) = keysV l i ++ [(l.at_ i).key] := by
  unfold keysV
  rw [List.take_succ_eq_append_getElem hn, List.drop_append_of_le_length (by rw [List.length_take]; omega), List.map_append, l.at_lt hn]
  rfl
theorem keysV_len (l : Ls) (i : Nat) : (keysV l i).length ≤ i := by
  unfold keysV
  rw [List.length_map, List.length_drop, List.length_take]
  omega
theorem keysV_at (l : Ls) {i : Nat} (h : i < (keysV l l.cs.length).length) : (keysV l l.cs.length)[i] = (l.at_ (i + 2)).key := by
  have h2 : i + 2 < l.cs.length := by
    unfold keysV at h
    rw [List.length_map, List.length_drop, List.length_take] at h
    omega
  rw [← l.at_lt h2]
  simp [keysV]
  congr 1
  congr 1
  omega
theorem keysV_size (l : Ls) : (keysV l l.cs.length).length = l.cs.length - 2 := by
  unfold keysV
  rw [List.length_map, List.length_drop, List.length_take]
  omega
theorem ne_empty {k : ByteArray} (q : k ≠ ⟨#[]⟩) : k.toList.isEmpty = false ∧ (k.toList == []) = false := by
  have : k.toList ≠ [] := fun q2 => q (toList_inj (by rw [q2, toList_data]))
  exact ⟨by cases e : k.toList with | nil => exact absurd e this | cons a t => rfl, by simpa using this⟩
/-- What validCells asks. -/
def VclP (l : Ls) : Prop := (∀ i, i < l.cs.length → celOk l i) ∧ (l.at_ 0).key = ⟨#[]⟩ ∧ (l.at_ 1).key = ⟨#[]⟩ ∧ (∀ k ∈ keysV l l.cs.length, vk k = true) ∧ (keysV l l.cs.length).Nodup
set_option maxRecDepth 100000 in
set_option maxHeartbeats 6400000 in
theorem validCells_any (A1 A2 : Option Addr) (l : Ls) (n m c1 c2 : Nat) (w : World) (hn : l.cs.length = n) (hm : l.ps.length = m) (h : RdL w 0 A1 A2 l) (n2 : 2 ≤ n) (n66 : n ≤ 66) (m8 : m ≤ 1000) :
    Calls Tryz.prog 94 #[.agg #[.slice A1 n c1, .slice A2 m c2]] w (BoolI (VclP l) w) := by
  have HB0 := Lib.hid ((Below.refl w.heap.size w).alloc (Nat.le_refl _) (.cells #[.slice A1 n c1, .slice A2 m c2] 28))
  have HX0 := Lib.hid (Has.new w 28 #[.slice A1 n c1, .slice A2 m c2])
  have HN := Lib.hid hn
  have HM := Lib.hid hm
  have HL := Lib.hid h
  have hw : IntKind.i64.wrap ((m : Int) + 1) = (m : Int) + 1 := IntWalk.i64_in _ (by omega)
  obtain ⟨B, hB⟩ : ∃ B, B = w.heap.size := ⟨_, rfl⟩
  have HBB := Lib.hid hB
  have HSZ : Hid ((w.alloc (.cells #[.slice A1 n c1, .slice A2 m c2] 28)).heap.size = B + 1) := Lib.hid (by rw [World.size_alloc, hB])
  have x0 := HX0.out.cell 0
  have x1 := HX0.out.cell 1
  rw [← hB] at HB0 HX0 x0 x1
  clear h hn hm
  go_enter Tryz.func94, Tryz.ntmps94
  go_upto_region 1 with fail
  rw [← hB]
  generalize w.alloc (.cells #[.slice A1 n c1, .slice A2 m c2] 28) = W0 at *
  clear hB
  go_wp2_with fail
  go_loopw [3, 9] (fun vk' vi wr => ∃ (i : Nat) (v1 : Value), vi = .int .i64 (i : Int) ∧ v1 = vk' ∧ i ≤ n ∧ OwnR trow 1 9 wr (B + 1) v1 (keysV l i) ∧ Has wr B 28 #[.slice A1 n c1, .slice A2 m c2] ∧ Below B w wr ∧ B + 1 ≤ wr.heap.size ∧ Hid (∀ j, j < i → celOk l j)) (fun _ vi _ => n - (intOf vi).toNat)
  case atStart => exact ⟨0, _, rfl, rfl, by omega, OwnR.nil, HX0.out, HB0.out, by rw [HSZ.out]; omega, Lib.hid fun j h => by omega⟩
  case round =>
    obtain ⟨i, v1, rfl, rfl, hi, hO, hX, hB, hSz, HS⟩ := hrel
    clear HB0 HX0 HSZ x0 x1
    have HO := Lib.hid hO
    have HX := Lib.hid hX
    have HB := Lib.hid hB
    have x0 := hX.cell 0
    have x1 := hX.cell 1
    obtain ⟨A3, q3, hv3, -, -, hRD⟩ := hO.read (fun _ => rfl)
    obtain ⟨K3, hK3⟩ : ∃ K3, K3 = (keysV l i).length := ⟨_, rfl⟩
    rw [← hK3] at hv3
    have HK3 := Lib.hid hK3
    have HRD := Lib.hid hRD
    subst hv3
    clear hK3 hRD
    clear hO hX
    by_cases hlt : i < n
    · have i2 : i < l.cs.length := by rw [HN.out]; exact hlt
      obtain ⟨b, o, e, -, hb, f0, f1, f2, f3, f4⟩ := HL.out.cell i2
      subst e
      rw [← HBB.out] at hb
      replace f0 := (hB.cell (p := ⟨b, o + i * 5, none⟩) hb).trans f0
      replace f1 := (hB.cell (p := ⟨b, o + i * 5 + 1, none⟩) hb).trans f1
      replace f2 := (hB.cell (p := ⟨b, o + i * 5 + 2, none⟩) hb).trans f2
      replace f3 := (hB.cell (p := ⟨b, o + i * 5 + 3, none⟩) hb).trans f3
      replace f4 := (hB.cell (p := ⟨b, o + i * 5 + 4, none⟩) hb).trans f4
      have i0 : (0 : Int) ≤ (i : Int) := by omega
      have i1 : (i : Int) < (n : Int) := by omega
      have HCO : Hid (celOk l i ↔ (0 ≤ (l.at_ i).left ∧ (l.at_ i).left < (n : Int)) ∧ (0 ≤ (l.at_ i).right ∧ (l.at_ i).right < (n : Int)) ∧ (0 ≤ (l.at_ i).lock ∧ (l.at_ i).lock < (m : Int) + 1)) := Lib.hid (by unfold celOk; rw [HN.out, HM.out])
      have HBAD : Hid (¬ celOk l i → ¬ VclP l) := Lib.hid fun h1 h2 => h1 (h2.1 i i2)
      have HNX : Hid (celOk l i → ∀ j, j < i + 1 → celOk l j) := Lib.hid fun h1 j h2 => by
        rcases Nat.lt_or_ge j i with h3 | h3
        · exact HS.out j h3
        · obtain rfl : j = i := by omega
          exact h1
      have HKL := Lib.hid (fun h1 : i < 2 => keysV_lo l h1 i2)
      have HKH := Lib.hid (fun h1 : 2 ≤ i => keysV_hi l h1 i2)
      have HKN := Lib.hid (keysV_len l i)
      generalize l.at_ i = x at *
      obtain ⟨xk, xl, xr, xo, xg⟩ := x
      simp only at f0 f1 f2 f3 f4 HCO HKH
      have HXN := Lib.hid (Has.new wr 66 #[.string xk, .int .i64 xl, .int .i64 xr, .int .i64 xo, .bool xg])
      have hbn := (Below.refl wr.heap.size wr).alloc (Nat.le_refl _) (.cells #[.string xk, .int .i64 xl, .int .i64 xr, .int .i64 xo, .bool xg] 66)
      have HBN := Lib.hid hbn
      have HO2 := Lib.hid (HO.out.below hbn)
      have HX2 := Lib.hid (HX.out.below hbn)
      have HB2 := Lib.hid (HB.out.trans (hbn.mono (by omega)))
      have hS2 : B + 1 ≤ (wr.alloc (.cells #[.string xk, .int .i64 xl, .int .i64 xr, .int .i64 xo, .bool xg] 66)).heap.size := by rw [World.size_alloc]; omega
      clear hbn HO HX HB hB HS i2 hb
      go_upto_region 5 with fail
      clear f0 f1 f2 f3 f4 x0 x1
      generalize wr.alloc (.cells #[.string xk, .int .i64 xl, .int .i64 xr, .int .i64 xo, .bool xg] 66) = W at *
      have x0 := HX2.out.cell 0
      have x1 := HX2.out.cell 1
      have y0 := HXN.out.cell 0
      have y1 := HXN.out.cell 1
      have y2 := HXN.out.cell 2
      have y3 := HXN.out.cell 3
      by_cases h1 : 0 ≤ xl ∧ xl < (n : Int)
      · have H1 := Lib.hid ((isIndex_any xl (n : Int) W).mono fun e w' h => h.yes h1)
        by_cases h2 : 0 ≤ xr ∧ xr < (n : Int)
        · have H2 := Lib.hid ((isIndex_any xr (n : Int) W).mono fun e w' h => h.yes h2)
          by_cases h3 : 0 ≤ xo ∧ xo < (m : Int) + 1
          · have H3 := Lib.hid ((isIndex_any xo ((m : Int) + 1) W).mono fun e w' h => h.yes h3)
            have HOK := Lib.hid (HNX.out (HCO.out.2 ⟨h1, h2, h3⟩))
            clear h1 h2 h3 HNX HBAD HCO
            by_cases hi2 : i < 2
            · have hg : ¬ ((i : Int) ≥ 2) := by omega
              have HK2 := Lib.hid (HKL.out hi2)
              clear HKL HKH hi2
              go_wp2_with (first | (go_at_call 50; with_reducible refine (H1.out).mono ?_; rintro e w' ⟨rfl, rfl⟩) | (go_at_call 50; with_reducible refine (H2.out).mono ?_; rintro e w' ⟨rfl, rfl⟩) | (go_at_call 50; with_reducible refine (H3.out).mono ?_; rintro e w' ⟨rfl, rfl⟩))
              exact ⟨⟨i + 1, _, by go_num, rfl, hlt, by rw [HK2.out]; exact HO2.out, HX2.out, HB2.out, hS2, HOK⟩, by simp [intOf]; omega⟩
            · have hg : ((i : Int) ≥ 2) := by omega
              have HK2 := Lib.hid (HKH.out (by omega))
              clear HKL HKH hi2
              go_wp2_with (first | (at_builtin; refine wpList_pushR RowT.tx rfl (.tmp 42) (.tmp 45) rfl (B + 1) (.slice A3 K3 q3) (keysV l i) W xk _ rfl (by simp [Act.eval]) HO2.out (by simp [Act.eval]) (by have := HKN.out; omega) hS2 ?_; intro v5 w5 ho5 hg5 hat5; obtain ⟨A5, n5, q5, hv5⟩ := own_sh ho5; subst hv5; have HO5 := Lib.hid ho5; have HG5 := Lib.hid (grown_below hg5 hS2 (fun j e => (HO2.out.lt j e).1)); clear ho5 hg5 hat5) | (go_at_call 50; with_reducible refine (H1.out).mono ?_; rintro e w' ⟨rfl, rfl⟩) | (go_at_call 50; with_reducible refine (H2.out).mono ?_; rintro e w' ⟨rfl, rfl⟩) | (go_at_call 50; with_reducible refine (H3.out).mono ?_; rintro e w' ⟨rfl, rfl⟩))
              exact ⟨⟨i + 1, _, by go_num, rfl, hlt, by rw [HK2.out]; exact HO5.out, HG5.out.block B (by omega) |>.trans HX2.out, HB2.out.trans (HG5.out.mono (by omega)), Nat.le_trans hS2 HG5.out.size, HOK⟩, by simp [intOf]; omega⟩
          · have H3 := Lib.hid ((isIndex_any xo ((m : Int) + 1) W).mono fun e w' h => h.no h3)
            go_wp2_with (first | (go_at_call 50; with_reducible refine (H1.out).mono ?_; rintro e w' ⟨rfl, rfl⟩) | (go_at_call 50; with_reducible refine (H2.out).mono ?_; rintro e w' ⟨rfl, rfl⟩) | (go_at_call 50; with_reducible refine (H3.out).mono ?_; rintro e w' ⟨rfl, rfl⟩))
            go_ret
            exact ⟨false, rfl, ⟨fun h => Bool.noConfusion h, fun h => (HBAD.out (fun q => h3 (HCO.out.1 q).2.2) h).elim⟩, by rw [← HBB.out]; exact HB2.out⟩
        · have H2 := Lib.hid ((isIndex_any xr (n : Int) W).mono fun e w' h => h.no h2)
          go_wp2_with (first | (go_at_call 50; with_reducible refine (H1.out).mono ?_; rintro e w' ⟨rfl, rfl⟩) | (go_at_call 50; with_reducible refine (H2.out).mono ?_; rintro e w' ⟨rfl, rfl⟩))
          go_ret
          exact ⟨false, rfl, ⟨fun h => Bool.noConfusion h, fun h => (HBAD.out (fun q => h2 (HCO.out.1 q).2.1) h).elim⟩, by rw [← HBB.out]; exact HB2.out⟩
      · have H1 := Lib.hid ((isIndex_any xl (n : Int) W).mono fun e w' h => h.no h1)
        go_wp2_with (first | (go_at_call 50; with_reducible refine (H1.out).mono ?_; rintro e w' ⟨rfl, rfl⟩))
        go_ret
        exact ⟨false, rfl, ⟨fun h => Bool.noConfusion h, fun h => (HBAD.out (fun q => h1 (HCO.out.1 q).1) h).elim⟩, by rw [← HBB.out]; exact HB2.out⟩
    · obtain rfl : i = n := by omega
      have i2 : 0 < l.cs.length := by rw [HN.out]; omega
      have i3 : 1 < l.cs.length := by rw [HN.out]; omega
      obtain ⟨b, o, e, -, hb, f0, -⟩ := HL.out.cell i2
      subst e
      obtain ⟨b', o', e, -, -, g0, -⟩ := HL.out.cell i3
      injection e with e
      injection e with e1 e2
      subst e1 e2
      rw [← HBB.out] at hb
      replace f0 := (hB.cell (p := ⟨b, o + 0 * 5, none⟩) hb).trans f0
      replace g0 := (hB.cell (p := ⟨b, o + 1 * 5, none⟩) hb).trans g0
      rw [Nat.zero_mul, Nat.add_zero] at f0
      rw [Nat.one_mul] at g0
      have n0 : (0 : Int) < (i : Int) := by omega
      have n1 : (1 : Int) < (i : Int) := by omega
      have HVP : Hid (VclP l ↔ (l.at_ 0).key = ⟨#[]⟩ ∧ (l.at_ 1).key = ⟨#[]⟩ ∧ (∀ k ∈ keysV l i, vk k = true) ∧ (keysV l i).Nodup) := Lib.hid (by
        unfold VclP
        rw [HN.out]
        exact ⟨fun q => q.2, fun q => ⟨fun j hj => HS.out j hj, q⟩⟩)
      have HKN := Lib.hid (keysV_len l i)
      have hK66 : K3 ≤ 66 := by have := HK3.out; have := HKN.out; omega
      generalize (l.at_ 0).key = k0 at *
      generalize (l.at_ 1).key = k1 at *
      have HVK := Lib.hid (validKeys_any A3 (keysV l i) K3 q3 (B + 1) wr HK3.out.symm HRD.out (by unfold maxLen; omega))
      have HDF := Lib.hid (fun q => different_any A3 (keysV l i) K3 q3 wr HK3.out.symm (HRD.out.low (Nat.zero_le _)) (by omega) q)
      clear hB hb HS i2 i3
      by_cases h0 : k0 = ⟨#[]⟩
      · subst h0
        by_cases h1 : k1 = ⟨#[]⟩
        · subst h1
          by_cases h2 : ∀ k ∈ keysV l i, vk k = true
          · have HV2 := Lib.hid (HVK.out.mono fun e w' h => h.yes h2)
            have HD2 := Lib.hid (HDF.out h2)
            have HV3 : Hid (VclP l ↔ (keysV l i).Nodup) := Lib.hid ⟨fun q => (HVP.out.1 q).2.2.2, fun q => HVP.out.2 ⟨rfl, rfl, h2, q⟩⟩
            clear h2 HVK HDF
            go_wp2_with (go_at_call 89; with_reducible refine (HV2.out).mono ?_; rintro e w' ⟨rfl, rfl⟩)
            refine (HD2.out).mono ?_
            rintro e w5 ⟨bb, rfl, hbb, hb5⟩
            have HBB5 := Lib.hid hbb
            have HB5 := Lib.hid hb5
            clear hbb hb5
            go_wp2_with fail
            go_ret
            exact ⟨bb, rfl, HBB5.out.trans HV3.out.symm, by have hs0 := HB.out.size; rw [← HBB.out] at hs0 ⊢; exact HB.out.trans (HB5.out.mono hs0)⟩
          · have HV2 := Lib.hid (HVK.out.mono fun e w' h => h.no h2)
            have HV3 := Lib.hid (fun q => h2 (HVP.out.1 q).2.2.1)
            clear h2 HVK HDF
            go_wp2_with (go_at_call 89; with_reducible refine (HV2.out).mono ?_; rintro e w' ⟨rfl, rfl⟩)
            go_ret
            exact ⟨false, rfl, ⟨fun q => Bool.noConfusion q, fun q => (HV3.out q).elim⟩, by rw [← HBB.out]; exact HB.out⟩
        · obtain ⟨e1, e2⟩ := ne_empty h1
          have HV3 := Lib.hid (fun q => h1 (HVP.out.1 q).2.1)
          clear h1 HVK HDF
          go_wp2_with fail
          go_ret
          exact ⟨false, rfl, ⟨fun q => Bool.noConfusion q, fun q => (HV3.out q).elim⟩, by rw [← HBB.out]; exact HB.out⟩
      · obtain ⟨e1, e2⟩ := ne_empty h0
        have HV3 := Lib.hid (fun q => h0 (HVP.out.1 q).1)
        clear h0 HVK HDF
        go_wp2_with fail
        go_ret
        exact ⟨false, rfl, ⟨fun q => Bool.noConfusion q, fun q => (HV3.out q).elim⟩, by rw [← HBB.out]; exact HB.out⟩
end Lk
end
section
open Go.RowKit Go.Maps
namespace Lk

theorem bool_same {a b : Int} (h : a = 0 ↔ b = 0) : (!((a == 0) == (b == 0))) = false := by
  by_cases q : a = 0
  · subst q; simp [h.1 rfl]
  · have q2 : ¬ b = 0 := fun e => q (h.2 e)
    rw [show (a == 0) = false by simpa using q, show (b == 0) = false by simpa using q2]; rfl
theorem bool_other {a b : Int} (h : ¬ (a = 0 ↔ b = 0)) : (!((a == 0) == (b == 0))) = true := by
  by_cases q : a = 0
  · have q2 : ¬ b = 0 := fun e => h ⟨fun _ => e, fun _ => q⟩
    rw [show (a == 0) = true by simpa using q, show (b == 0) = false by simpa using q2]; rfl
  · have q2 : b = 0 := Classical.byContradiction fun e => h ⟨fun h => absurd h q, fun h => absurd h e⟩
    rw [show (a == 0) = false by simpa using q, show (b == 0) = true by simpa using q2]; rfl
def inC (l : Ls) (z : Int) : Prop := 0 ≤ z ∧ z < (l.cs.length : Int)
def proOk (l : Ls) (p : Nat) : Prop := inC l (l.pr p).cell ∧ inC l (l.pr p).pred ∧ inC l (l.pr p).succ ∧ inC l (l.pr p).next ∧ (0 ≤ (l.pr p).kind ∧ (l.pr p).kind ≤ 3) ∧ ((l.pr p).phase = 18 ∨ (0 ≤ (l.pr p).phase ∧ (l.pr p).phase ≤ 13)) ∧ ((l.pr p).kind = 0 ↔ (l.pr p).phase = 0)
def VprP (l : Ls) : Prop := ∀ p, p < l.ps.length → proOk l p
def fourV (c d s x : Int) (k : Nat) : Int := if k = 0 then c else if k = 1 then d else if k = 2 then s else x
set_option maxRecDepth 100000 in
set_option maxHeartbeats 6400000 in
theorem validProcs_any (A1 A2 : Option Addr) (l : Ls) (n m c1 c2 : Nat) (w : World) (hn : l.cs.length = n) (hm : l.ps.length = m) (h : RdL w 0 A1 A2 l) (m8 : m ≤ 1000) :
    Calls Tryz.prog 95 #[.agg #[.slice A1 n c1, .slice A2 m c2]] w (BoolI (VprP l) w) := by
  have HB0 := Lib.hid ((Below.refl w.heap.size w).alloc (Nat.le_refl _) (.cells #[.slice A1 n c1, .slice A2 m c2] 28))
  have HX0 := Lib.hid (Has.new w 28 #[.slice A1 n c1, .slice A2 m c2])
  have HN := Lib.hid hn
  have HM := Lib.hid hm
  have HL := Lib.hid h
  obtain ⟨B, hB⟩ : ∃ B, B = w.heap.size := ⟨_, rfl⟩
  have HBB := Lib.hid hB
  have HSZ : Hid ((w.alloc (.cells #[.slice A1 n c1, .slice A2 m c2] 28)).heap.size = B + 1) := Lib.hid (by rw [World.size_alloc, hB])
  have x0 := HX0.out.cell 0
  have x1 := HX0.out.cell 1
  rw [← hB] at HB0 HX0 x0 x1
  clear h hn hm
  go_enter Tryz.func95, Tryz.ntmps95
  go_upto_region 1 with fail
  rw [← hB]
  generalize w.alloc (.cells #[.slice A1 n c1, .slice A2 m c2] 28) = W0 at *
  clear hB
  go_wp2_with fail
  go_loopw [10] (fun vi wr => ∃ (i : Nat), vi = .int .i64 (i : Int) ∧ i ≤ m ∧ Has wr B 28 #[.slice A1 n c1, .slice A2 m c2] ∧ Below B w wr ∧ B + 1 ≤ wr.heap.size ∧ Hid (∀ j, j < i → proOk l j)) (fun vi _ => m - (intOf vi).toNat)
  case atStart => exact ⟨0, rfl, by omega, HX0.out, HB0.out, by rw [HSZ.out]; omega, Lib.hid fun j h => by omega⟩
  case round =>
    obtain ⟨i, rfl, hi, hX, hB, hSz, HS⟩ := hrel
    clear HB0 HX0 HSZ x0 x1
    have HX := Lib.hid hX
    have HB := Lib.hid hB
    have x0 := hX.cell 0
    have x1 := hX.cell 1
    clear hX
    by_cases hlt : i < m
    · have i2 : i < l.ps.length := by rw [HM.out]; exact hlt
      obtain ⟨b, o, e, -, hb, f0, f1, f2, f3, f4, f5, f6⟩ := HL.out.proc i2
      subst e
      rw [← HBB.out] at hb
      replace f0 := (hB.cell (p := ⟨b, o + i * 7, none⟩) hb).trans f0
      replace f1 := (hB.cell (p := ⟨b, o + i * 7 + 1, none⟩) hb).trans f1
      replace f2 := (hB.cell (p := ⟨b, o + i * 7 + 2, none⟩) hb).trans f2
      replace f3 := (hB.cell (p := ⟨b, o + i * 7 + 3, none⟩) hb).trans f3
      replace f4 := (hB.cell (p := ⟨b, o + i * 7 + 4, none⟩) hb).trans f4
      replace f5 := (hB.cell (p := ⟨b, o + i * 7 + 5, none⟩) hb).trans f5
      replace f6 := (hB.cell (p := ⟨b, o + i * 7 + 6, none⟩) hb).trans f6
      have i0 : (0 : Int) ≤ (i : Int) := by omega
      have i1 : (i : Int) < (m : Int) := by omega
      have HCO : Hid (proOk l i ↔ (∀ k, k < 4 → 0 ≤ fourV (l.pr i).cell (l.pr i).pred (l.pr i).succ (l.pr i).next k ∧ fourV (l.pr i).cell (l.pr i).pred (l.pr i).succ (l.pr i).next k < (n : Int)) ∧ (0 ≤ (l.pr i).kind ∧ (l.pr i).kind ≤ 3) ∧ ((l.pr i).phase = 18 ∨ (0 ≤ (l.pr i).phase ∧ (l.pr i).phase ≤ 13)) ∧ ((l.pr i).kind = 0 ↔ (l.pr i).phase = 0)) := Lib.hid (by
        unfold proOk inC
        rw [HN.out]
        constructor
        · rintro ⟨q0, q1, q2, q3, q4, q5, q6⟩
          refine ⟨fun k hk => ?_, q4, q5, q6⟩
          have hk' : k = 0 ∨ k = 1 ∨ k = 2 ∨ k = 3 := by omega
          rcases hk' with rfl | rfl | rfl | rfl
          · exact q0
          · exact q1
          · exact q2
          · exact q3
        · rintro ⟨q0, q4, q5, q6⟩
          exact ⟨q0 0 (by omega), q0 1 (by omega), q0 2 (by omega), q0 3 (by omega), q4, q5, q6⟩)
      have HBAD : Hid (¬ proOk l i → ¬ VprP l) := Lib.hid fun h1 h2 => h1 (h2 i i2)
      have HNX : Hid (proOk l i → ∀ j, j < i + 1 → proOk l j) := Lib.hid fun h1 j h2 => by
        rcases Nat.lt_or_ge j i with h3 | h3
        · exact HS.out j h3
        · obtain rfl : j = i := by omega
          exact h1
      generalize l.pr i = x at *
      obtain ⟨xk, xc, xp, xd, xs, xx, xr⟩ := x
      simp only at f0 f1 f2 f3 f4 f5 f6 HCO
      have HXN := Lib.hid (Has.new wr 63 #[.int .i64 xk, .int .i64 xc, .int .i64 xp, .int .i64 xd, .int .i64 xs, .int .i64 xx, .bool xr])
      have hbn := (Below.refl wr.heap.size wr).alloc (Nat.le_refl _) (.cells #[.int .i64 xk, .int .i64 xc, .int .i64 xp, .int .i64 xd, .int .i64 xs, .int .i64 xx, .bool xr] 63)
      have HX2 := Lib.hid (HX.out.below hbn)
      have HB2 := Lib.hid (HB.out.trans (hbn.mono (by omega)))
      have hS2 : (wr.alloc (.cells #[.int .i64 xk, .int .i64 xc, .int .i64 xp, .int .i64 xd, .int .i64 xs, .int .i64 xx, .bool xr] 63)).heap.size = wr.heap.size + 1 := by rw [World.size_alloc]
      clear hbn HX HB hB HS i2 hb
      go_upto_region 4 with fail
      clear f0 f1 f2 f3 f4 f5 f6 x0 x1
      generalize wr.alloc (.cells #[.int .i64 xk, .int .i64 xc, .int .i64 xp, .int .i64 xd, .int .i64 xs, .int .i64 xx, .bool xr] 63) = W at *
      have x0 := HX2.out.cell 0
      have x1 := HX2.out.cell 1
      have y0 := HXN.out.cell 0
      have y1 := HXN.out.cell 1
      have y2 := HXN.out.cell 2
      have y3 := HXN.out.cell 3
      have y4 := HXN.out.cell 4
      have y5 := HXN.out.cell 5
      have HXZ := Lib.hid (Has.new W 3 #[.int .i64 xc, .int .i64 xd, .int .i64 xs, .int .i64 xx])
      have hbz := (Below.refl W.heap.size W).alloc (Nat.le_refl _) (.cells #[.int .i64 xc, .int .i64 xd, .int .i64 xs, .int .i64 xx] 3)
      have HX3 := Lib.hid (HX2.out.below hbz)
      have HXN3 := Lib.hid (HXN.out.below hbz)
      have HB3 := Lib.hid (HB2.out.trans (hbz.mono (by omega)))
      have hS3 : (W.alloc (.cells #[.int .i64 xc, .int .i64 xd, .int .i64 xs, .int .i64 xx] 3)).heap.size = W.heap.size + 1 := by rw [World.size_alloc]
      clear hbz HX2 HXN HB2
      go_wp2_with fail
      clear x0 x1 y0 y1 y2 y3 y4 y5
      generalize W.alloc (.cells #[.int .i64 xc, .int .i64 xd, .int .i64 xs, .int .i64 xx] 3) = V at *
      obtain ⟨wo, hwo⟩ : ∃ wo, wo = wr := ⟨_, rfl⟩
      rw [← hwo] at hS2 HXN3 hSz ⊢
      clear hwo
      go_loopw [24] (fun vk' wr' => ∃ k : Nat, vk' = .int .i64 (k : Int) ∧ k ≤ 4 ∧ V = wr' ∧ Hid (∀ j, j < k → 0 ≤ fourV xc xd xs xx j ∧ fourV xc xd xs xx j < (n : Int))) (fun vk' _ => 4 - (intOf vk').toNat)
      case atStart => exact ⟨0, rfl, by omega, rfl, Lib.hid fun j h => by omega⟩
      case round =>
        obtain ⟨k, rfl, hk, rfl, HK⟩ := hrel
        by_cases hk4 : k < 4
        · have hz : V.cell? ⟨wo.heap.size + 1, k, none⟩ = some (.int .i64 (fourV xc xd xs xx k)) := by
            rw [← hS2, HXZ.out.cell]
            have hk' : k = 0 ∨ k = 1 ∨ k = 2 ∨ k = 3 := by omega
            rcases hk' with rfl | rfl | rfl | rfl <;> rfl
          have x0 := HX3.out.cell 0
          have k0 : (0 : Int) ≤ (k : Int) := by omega
          have k1 : (k : Int) < 4 := by omega
          have HKN := Lib.hid (fun (q : 0 ≤ fourV xc xd xs xx k ∧ fourV xc xd xs xx k < (n : Int)) (j : Nat) (h : j < k + 1) => (show 0 ≤ fourV xc xd xs xx j ∧ fourV xc xd xs xx j < (n : Int) from by
            rcases Nat.lt_or_ge j k with h3 | h3
            · exact HK.out j h3
            · obtain rfl : j = k := by omega
              exact q))
          have HKB := Lib.hid (fun (q : ¬ (0 ≤ fourV xc xd xs xx k ∧ fourV xc xd xs xx k < (n : Int))) (q2 : proOk l i) => q ((HCO.out.1 q2).1 k hk4))
          generalize fourV xc xd xs xx k = z at *
          by_cases h1 : 0 ≤ z ∧ z < (n : Int)
          · have H1 := Lib.hid ((isIndex_any z (n : Int) V).mono fun e w' h => h.yes h1)
            have HKO := Lib.hid (HKN.out h1)
            clear h1 HKN HKB
            go_wp2_with (go_at_call 50; with_reducible refine (H1.out).mono ?_; rintro e w' ⟨rfl, rfl⟩)
            exact ⟨⟨k + 1, by go_num, by omega, (by first | rfl | trivial), HKO⟩, by simp [intOf]; omega⟩
          · have H1 := Lib.hid ((isIndex_any z (n : Int) V).mono fun e w' h => h.no h1)
            have HKO := Lib.hid (HKB.out h1)
            clear h1 HKN HKB
            go_wp2_with (go_at_call 50; with_reducible refine (H1.out).mono ?_; rintro e w' ⟨rfl, rfl⟩)
            go_ret
            exact ⟨false, rfl, ⟨fun h => Bool.noConfusion h, fun h => (HBAD.out HKO.out h).elim⟩, by rw [← HBB.out]; exact HB3.out⟩
        · have HK4 := Lib.hid (fun j (h : j < 4) => HK.out j (by omega))
          obtain rfl : k = 4 := by omega
          have x0 := HX3.out.cell 0
          have y0 := HXN3.out.cell 0
          have y2 := HXN3.out.cell 2
          clear HK hk hk4
          by_cases h1 : 0 ≤ xk ∧ xk ≤ 3
          · have H1 := Lib.hid ((isKind_any xk V).mono fun e w' h => h.yes h1)
            by_cases h2 : xp = 18 ∨ (0 ≤ xp ∧ xp ≤ 13)
            · have H2 := Lib.hid ((isPhase_any xp V).mono fun e w' h => h.yes h2)
              by_cases h3 : xk = 0 ↔ xp = 0
              · have HOK := Lib.hid (HNX.out (HCO.out.2 ⟨HK4.out, h1, h2, h3⟩))
                have hz := bool_same h3
                have hsz : B + 1 ≤ V.heap.size := by omega
                clear h1 h2 h3 HNX HBAD HCO HK4
                go_wp2_with (first | (go_at_call 51; with_reducible refine (H1.out).mono ?_; rintro e w' ⟨rfl, rfl⟩) | (go_at_call 132; with_reducible refine (H2.out).mono ?_; rintro e w' ⟨rfl, rfl⟩))
                exact ⟨⟨i + 1, by go_num, hlt, HX3.out, HB3.out, hsz, HOK⟩, by simp [intOf]; omega⟩
              · have hz := bool_other h3
                go_wp2_with (first | (go_at_call 51; with_reducible refine (H1.out).mono ?_; rintro e w' ⟨rfl, rfl⟩) | (go_at_call 132; with_reducible refine (H2.out).mono ?_; rintro e w' ⟨rfl, rfl⟩))
                go_ret
                exact ⟨false, rfl, ⟨fun h => Bool.noConfusion h, fun h => (HBAD.out (fun q => h3 (HCO.out.1 q).2.2.2) h).elim⟩, by rw [← HBB.out]; exact HB3.out⟩
            · have H2 := Lib.hid ((isPhase_any xp V).mono fun e w' h => h.no h2)
              go_wp2_with (first | (go_at_call 51; with_reducible refine (H1.out).mono ?_; rintro e w' ⟨rfl, rfl⟩) | (go_at_call 132; with_reducible refine (H2.out).mono ?_; rintro e w' ⟨rfl, rfl⟩))
              go_ret
              exact ⟨false, rfl, ⟨fun h => Bool.noConfusion h, fun h => (HBAD.out (fun q => h2 (HCO.out.1 q).2.2.1) h).elim⟩, by rw [← HBB.out]; exact HB3.out⟩
          · have H1 := Lib.hid ((isKind_any xk V).mono fun e w' h => h.no h1)
            go_wp2_with ((go_at_call 51; with_reducible refine (H1.out).mono ?_; rintro e w' ⟨rfl, rfl⟩))
            go_ret
            exact ⟨false, rfl, ⟨fun h => Bool.noConfusion h, fun h => (HBAD.out (fun q => h1 (HCO.out.1 q).2.1) h).elim⟩, by rw [← HBB.out]; exact HB3.out⟩
    · go_wp2_with fail
      go_ret
      refine ⟨true, rfl, ⟨fun _ p hp => HS.out p (by have := HM.out; omega), fun _ => rfl⟩, by rw [← HBB.out]; exact HB.out⟩
end Lk
end
section
open Go.RowKit Go.Maps
namespace Lk

theorem vk_nil : Go.Proofs.YtmhbloefmknikaaGreatDoor.vk ⟨#[]⟩ = true := by decide
theorem vld_iff (l : Ls) : Vld l ↔ (2 ≤ (l.cs.length : Int) ∧ (l.cs.length : Int) ≤ 66) ∧ (1 ≤ (l.ps.length : Int) ∧ (l.ps.length : Int) ≤ 8) ∧ VclP l ∧ VprP l := by
  constructor
  · intro v
    have h1 := v.n2
    have h2 := v.n66
    have h3 := v.m1
    have h4 := v.m8
    refine ⟨⟨by omega, by omega⟩, ⟨by omega, by omega⟩, ⟨fun i hi => ⟨v.lf i hi, v.rg i hi, ?_⟩, v.e0, v.e1, fun k hk => ?_, ?_⟩, fun p hp => ⟨v.ce p hp, v.pd p hp, v.sc p hp, v.nx p hp, v.kd p hp, v.ph p hp, v.id p hp⟩⟩
    · have := v.lk i hi
      omega
    · obtain ⟨j, hj, rfl⟩ := List.mem_iff_getElem.1 hk
      rw [keysV_at]
      exact v.vk _ (by rw [keysV_size] at hj; omega)
    · rw [List.nodup_iff_pairwise_ne, List.pairwise_iff_getElem]
      intro i j hi hj hij e
      rw [keysV_at, keysV_at] at e
      rw [keysV_size] at hi hj
      have := v.df (i + 2) (by omega) (by omega) (j + 2) (by omega) (by omega) e
      omega
  · rintro ⟨⟨h1, h2⟩, ⟨h3, h4⟩, ⟨h5, h6, h7, h8, h9⟩, h10⟩
    have hk : ∀ i, 2 ≤ i → i < l.cs.length → ∃ h : i - 2 < (keysV l l.cs.length).length, (keysV l l.cs.length)[i - 2] = (l.at_ i).key := fun i h h' => by
      have h'' : i - 2 < (keysV l l.cs.length).length := by rw [keysV_size]; omega
      refine ⟨h'', ?_⟩
      rw [keysV_at, show i - 2 + 2 = i by omega]
    refine ⟨by omega, by omega, by omega, by omega, h6, h7, fun i hi => ?_, fun i hi hi' j hj hj' e => ?_, fun i hi => (h5 i hi).1, fun i hi => (h5 i hi).2.1, fun i hi => ?_, fun p hp => (h10 p hp).1, fun p hp => (h10 p hp).2.1, fun p hp => (h10 p hp).2.2.1, fun p hp => (h10 p hp).2.2.2.1, fun p hp => (h10 p hp).2.2.2.2.1, fun p hp => (h10 p hp).2.2.2.2.2.1, fun p hp => (h10 p hp).2.2.2.2.2.2⟩
    · by_cases q : i < 2
      · have : i = 0 ∨ i = 1 := by omega
        rcases this with rfl | rfl
        · rw [h6]; exact vk_nil
        · rw [h7]; exact vk_nil
      · obtain ⟨q1, q2⟩ := hk i (by omega) hi
        rw [← q2]
        exact h8 _ (List.getElem_mem q1)
    · obtain ⟨q1, q2⟩ := hk i hi hi'
      obtain ⟨q3, q4⟩ := hk j hj hj'
      rw [← q2, ← q4] at e
      have := (List.getElem_inj h9).1 e
      omega
    · have := (h5 i hi).2.2
      omega
set_option maxRecDepth 100000 in
set_option maxHeartbeats 3200000 in
theorem valid_any (A1 A2 : Option Addr) (l : Ls) (n m c1 c2 : Nat) (w : World) (hn : l.cs.length = n) (hm : l.ps.length = m) (h : RdL w 0 A1 A2 l) :
    Calls Tryz.prog 49 #[.agg #[.slice A1 n c1, .slice A2 m c2]] w (BoolI (Vld l) w) := by
  have HB0 := Lib.hid ((Below.refl w.heap.size w).alloc (Nat.le_refl _) (.cells #[.slice A1 n c1, .slice A2 m c2] 28))
  have HX0 := Lib.hid (Has.new w 28 #[.slice A1 n c1, .slice A2 m c2])
  have HL := Lib.hid (h.below ((Below.refl w.heap.size w).alloc (Nat.le_refl _) (.cells #[.slice A1 n c1, .slice A2 m c2] 28)))
  have HV : Hid (Vld l ↔ (2 ≤ (n : Int) ∧ (n : Int) ≤ 66) ∧ (1 ≤ (m : Int) ∧ (m : Int) ≤ 8) ∧ VclP l ∧ VprP l) := Lib.hid (by rw [← hn, ← hm]; exact vld_iff l)
  have HN := Lib.hid hn
  have HM := Lib.hid hm
  have x0 := HX0.out.cell 0
  have x1 := HX0.out.cell 1
  clear h hn hm
  go_enter Tryz.func49, Tryz.ntmps49
  go_upto_region 1 with fail
  generalize w.alloc (.cells #[.slice A1 n c1, .slice A2 m c2] 28) = W at *
  by_cases h1 : 2 ≤ (n : Int) ∧ (n : Int) ≤ 66
  · have H1 := Lib.hid ((isCellCount_any (n : Int) W).mono fun e w' h => h.yes h1)
    by_cases h2 : 1 ≤ (m : Int) ∧ (m : Int) ≤ 8
    · have H2 := Lib.hid ((isProcCount_any (m : Int) W).mono fun e w' h => h.yes h2)
      have HC := Lib.hid (validCells_any A1 A2 l n m c1 c2 W HN.out HM.out HL.out (by omega) (by omega) (by omega))
      have HP := Lib.hid (fun (V : World) (k : Below W.heap.size W V) => validProcs_any A1 A2 l n m c1 c2 V HN.out HM.out (HL.out.below k) (by omega))
      have HXB := Lib.hid (fun (V : World) (k : Below W.heap.size W V) => HX0.out.below k)
      by_cases h3 : VclP l
      · have H3 := Lib.hid (HC.out.mono fun e w' h => h.yes h3)
        have HV2 : Hid (Vld l ↔ VprP l) := Lib.hid ⟨fun q => (HV.out.1 q).2.2.2, fun q => HV.out.2 ⟨h1, h2, h3, q⟩⟩
        clear h1 h2 h3 HC
        go_wp2_with (first | (go_at_call 93; with_reducible refine (H1.out).mono ?_; rintro e w' ⟨rfl, rfl⟩) | (go_at_call 88; with_reducible refine (H2.out).mono ?_; rintro e w' ⟨rfl, rfl⟩) | (go_at_call 94; with_reducible refine (H3.out).mono ?_; rintro e w5 ⟨rfl, hb5⟩; have y0 := (HXB.out w5 hb5).cell 0; have y1 := (HXB.out w5 hb5).cell 1))
        refine ((HP.out w5 hb5)).mono ?_
        rintro e w6 ⟨b, rfl, hb, hb6⟩
        have HBB := Lib.hid hb
        have HB6 := Lib.hid (hb5.trans (hb6.mono hb5.size))
        clear hb hb5 hb6 y0 y1
        go_wp2_with fail
        go_ret
        exact ⟨b, rfl, HBB.out.trans HV2.out.symm, HB0.out.trans (HB6.out.mono HB0.out.size)⟩
      · have H3 := Lib.hid (HC.out.mono fun e w' h => h.no h3)
        have HV2 := Lib.hid (fun q => h3 (HV.out.1 q).2.2.1)
        clear h1 h2 h3 HC
        go_wp2_with (first | (go_at_call 93; with_reducible refine (H1.out).mono ?_; rintro e w' ⟨rfl, rfl⟩) | (go_at_call 88; with_reducible refine (H2.out).mono ?_; rintro e w' ⟨rfl, rfl⟩))
        refine (H3.out).mono ?_
        rintro e w5 ⟨rfl, hb5⟩
        have HB5 := Lib.hid hb5
        clear hb5
        go_wp2_with fail
        go_ret
        exact ⟨false, rfl, ⟨fun q => Bool.noConfusion q, fun q => (HV2.out q).elim⟩, HB0.out.trans (HB5.out.mono HB0.out.size)⟩
    · have H2 := Lib.hid ((isProcCount_any (m : Int) W).mono fun e w' h => h.no h2)
      have HV2 := Lib.hid (fun q => h2 (HV.out.1 q).2.1)
      clear h1 h2
      go_wp2_with (first | (go_at_call 93; with_reducible refine (H1.out).mono ?_; rintro e w' ⟨rfl, rfl⟩) | (go_at_call 88; with_reducible refine (H2.out).mono ?_; rintro e w' ⟨rfl, rfl⟩))
      go_ret
      exact ⟨false, rfl, ⟨fun q => Bool.noConfusion q, fun q => (HV2.out q).elim⟩, HB0.out⟩
  · have H1 := Lib.hid ((isCellCount_any (n : Int) W).mono fun e w' h => h.no h1)
    have HV2 := Lib.hid (fun q => h1 (HV.out.1 q).1)
    clear h1
    go_wp2_with (go_at_call 93; with_reducible refine (H1.out).mono ?_; rintro e w' ⟨rfl, rfl⟩)
    go_ret
    exact ⟨false, rfl, ⟨fun q => Bool.noConfusion q, fun q => (HV2.out q).elim⟩, HB0.out⟩
end Lk
end
section
open Go.RowKit Go.Maps
namespace Lk

/-- What a step leads to; none: the process is none, waits, or has nothing to do. -/
def stpO (l : Ls) (p : Int) : Option Ls := if 0 ≤ p ∧ p < (l.ps.length : Int) then stepV l p.toNat else none
theorem step_end {w W4 w8 : World} {B X G1 G2 d1 d2 : Nat} {l' : Ls} (hB : B = w.heap.size) (hb : Below B w W4) (h2 : B + 1 + 1 ≤ X) (g1 : X ≤ G1) (g2 : X ≤ G2) (hc : Chg G1 G2 W4.drew w8) (hm : MemL w8 X G1 G2 d1 d2 l') (u v : Value) :
    RdL ((w8.setCell ⟨B + 1, 0, none⟩ u).setCell ⟨B + 1, 1, none⟩ v) w.heap.size (some ⟨G1, 0, none⟩) (some ⟨G2, 0, none⟩) l' ∧ Below w.heap.size w ((w8.setCell ⟨B + 1, 0, none⟩ u).setCell ⟨B + 1, 1, none⟩ v) := by
  subst hB
  have hs : w.heap.size ≤ W4.drew.heap.size := hb.size
  have h8 : Below w.heap.size w w8 := hb.drew.trans (hc.below (by omega) (by omega) hs)
  refine ⟨(hm.rd.keep (by simp [World.setCell]) fun i h1 h3 => ?_).low (by omega), (h8.setCell (p := ⟨w.heap.size + 1, 0, none⟩) (by simp only; omega) u).setCell (p := ⟨w.heap.size + 1, 1, none⟩) (by simp only; omega) v⟩
  rw [Below.heap_setCell _ ⟨w.heap.size + 1, 1, none⟩ _ _ (by simp only; omega), Below.heap_setCell _ ⟨w.heap.size + 1, 0, none⟩ _ _ (by simp only; omega)]
theorem Has.drew {w : World} {b : Nat} {t : TypeId} {cs : Array Value} (h : Has w b t cs) : Has w.drew b t cs := h
theorem rd_of {w : World} {A1 A2 : Option Addr} {l : Ls} (h : RdL w 0 A1 A2 l) (hn : 0 < l.cs.length) (hm : 0 < l.ps.length) : ∃ a1 a2, A1 = some a1 ∧ A2 = some a2 := by
  obtain ⟨b, o, e, _⟩ := h.cell hn
  obtain ⟨b', o', e', _⟩ := h.proc hm
  exact ⟨_, _, e, e'⟩
end Lk
end
section
open Go.RowKit Go.Maps
namespace Lk

/-- The error of Start. -/
noncomputable def staE (l : Ls) (p kd c : Int) : Int :=
  if vldB l = false then 1 else if ¬ (0 ≤ p ∧ p < (l.ps.length : Int)) then 2 else if c < 2 ∨ ¬ (0 ≤ c ∧ c < (l.cs.length : Int)) then 6 else if kd = 0 ∨ ¬ (0 ≤ kd ∧ kd ≤ 3) then 1 else if (l.pr p.toNat).phase ≠ 0 ∧ (l.pr p.toNat).phase ≠ 18 then 7 else 0
def zeroL : Value := .agg #[.slice none 0 0, .slice none 0 0]
/-- A record put anew, all seven cells of it. -/
theorem MemL.seven {w : World} {base G1 G2 c1 c2 : Nat} {l : Ls} (h : MemL w base G1 G2 c1 c2 l) {p : Nat} (hp : p < l.ps.length) (y : Po) :
    MemL (((((((w.setCell ⟨G2, p * 7, none⟩ (.int .i64 y.kind)).setCell ⟨G2, p * 7 + 1, none⟩ (.int .i64 y.cell)).setCell ⟨G2, p * 7 + 2, none⟩ (.int .i64 y.phase)).setCell ⟨G2, p * 7 + 3, none⟩ (.int .i64 y.pred)).setCell ⟨G2, p * 7 + 4, none⟩ (.int .i64 y.succ)).setCell ⟨G2, p * 7 + 5, none⟩ (.int .i64 y.next)).setCell ⟨G2, p * 7 + 6, none⟩ (.bool y.res)) base G1 G2 c1 c2 (l.setP p y) := by
  obtain ⟨k, c, ph, pd, sc, nx, rs⟩ := y
  have h0 := (h.init hp).up hp 0 (by decide) (.int .i64 k) { l.pr p with kind := k } rfl
  have h1 := h0.up hp 1 (by decide) (.int .i64 c) { l.pr p with kind := k, cell := c } rfl
  have h2 := h1.up hp 2 (by decide) (.int .i64 ph) { l.pr p with kind := k, cell := c, phase := ph } rfl
  have h3 := h2.up hp 3 (by decide) (.int .i64 pd) { l.pr p with kind := k, cell := c, phase := ph, pred := pd } rfl
  have h4 := h3.up hp 4 (by decide) (.int .i64 sc) { l.pr p with kind := k, cell := c, phase := ph, pred := pd, succ := sc } rfl
  have h5 := h4.up hp 5 (by decide) (.int .i64 nx) { l.pr p with kind := k, cell := c, phase := ph, pred := pd, succ := sc, next := nx } rfl
  exact h5.up hp 6 (by decide) (.bool rs) ⟨k, c, ph, pd, sc, nx, rs⟩ rfl
theorem Chg.seven {w a : World} {G1 G2 p : Nat} (h : Chg G1 G2 w a) (u0 u1 u2 u3 u4 u5 u6 : Value) :
    Chg G1 G2 w (((((((a.setCell ⟨G2, p * 7, none⟩ u0).setCell ⟨G2, p * 7 + 1, none⟩ u1).setCell ⟨G2, p * 7 + 2, none⟩ u2).setCell ⟨G2, p * 7 + 3, none⟩ u3).setCell ⟨G2, p * 7 + 4, none⟩ u4).setCell ⟨G2, p * 7 + 5, none⟩ u5).setCell ⟨G2, p * 7 + 6, none⟩ u6) := ((((((h.set2 _ _).set2 _ _).set2 _ _).set2 _ _).set2 _ _).set2 _ _).set2 _ _
end Lk
end
end Go.Proofs.YtmhbloefmknikaaGreatDoor
