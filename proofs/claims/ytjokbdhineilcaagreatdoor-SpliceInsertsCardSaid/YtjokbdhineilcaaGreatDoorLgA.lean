/-
  The order of nodes by key and number, and the sorted list of a roster: plain facts. No condition.
  A row of nodes that is being sorted: the worlds through which the sort passes. No condition.
  The calls of package cmp under the order of nodes, and the function literal of Sort: what they answer. Conditions: the row of nodes and the variable that the literal captures can be read.
  Sort of package roster, of at most 19 nodes: what it gives. Condition: the nodes can be read.
  Sort of package roster, of at most 19 nodes: what it gives. Condition: the nodes can be read.
  Sort of package roster, of at most 19 nodes that are a roster: what it gives. Condition: the nodes can be read.
-/
import Derived.Test.YtjokbdhineilcaaGreatDoorKdK
import Derived.Sort.LotA
import Derived.Test.YtjokbdhineilcaaGreatDoorLdX
import Derived.Lib.ReflectliteSwap
import Derived.StillTailTactics
import Derived.Laws.Externs
import Derived.Lib.ReflectliteSlice
import Derived.Test.YtjokbdhineilcaaGreatDoorLdG
namespace Go.Proofs.YtjokbdhineilcaaGreatDoor
section
open Go.RowKit

theorem kl_ntrans {a b c : ByteArray} (h : kl a b = false) (k : kl b c = false) : kl a c = false := by
  rw [kl_false] at *; exact List.le_trans k h
/-- The order of Sort: by key, then by number. -/
def nlt (a b : Nd) : Bool := kl a.key b.key || (!kl b.key a.key && decide (a.id < b.id))
theorem nlt_true (a b : Nd) : nlt a b = true ↔ kl a.key b.key = true ∨ (a.key = b.key ∧ a.id < b.id) := by
  unfold nlt
  cases h : kl a.key b.key
  · cases k : kl b.key a.key
    · have := kl_tri h k
      simp [this]
    · have hn : a.key ≠ b.key := fun e => by rw [e, kl_irrefl] at k; cases k
      simp [hn]
  · simp
theorem nlt_false (a b : Nd) : nlt a b = false ↔ kl b.key a.key = true ∨ (a.key = b.key ∧ b.id ≤ a.id) := by
  rw [← Bool.not_eq_true, nlt_true]
  cases h : kl a.key b.key
  · cases k : kl b.key a.key
    · have := kl_tri h k
      simp [this]
    · have hn : a.key ≠ b.key := fun e => by rw [e, kl_irrefl] at k; cases k
      simp [hn]
  · have hn : a.key ≠ b.key := fun e => by rw [e, kl_irrefl] at h; cases h
    simp [hn, kl_asymm h]
theorem nlt_swo : Go.Sort.SWO nlt where
  irrefl x := (nlt_false x x).2 (.inr ⟨rfl, Int.le_refl _⟩)
  trans x y z h k := by
    rw [nlt_true] at *
    rcases h with h | ⟨h, h'⟩ <;> rcases k with k | ⟨k, k'⟩
    · exact .inl (kl_trans h k)
    · exact .inl (k ▸ h)
    · exact .inl (h ▸ k)
    · exact .inr ⟨h.trans k, by omega⟩
  ntrans x y z h k := by
    rw [nlt_false] at *
    rcases h with h | ⟨h, h'⟩ <;> rcases k with k | ⟨k, k'⟩
    · exact .inl (kl_trans k h)
    · exact .inl (k ▸ h)
    · exact .inl (h ▸ k)
    · exact .inr ⟨h.trans k, by omega⟩
/-- A sorted list of the same nodes. -/
def Srt (l s : List Nd) : Prop := s.Perm l ∧ s.Pairwise (fun a b => nlt b a = false)
/-- The keys ascend. -/
def Asc (s : List Nd) : Prop := s.Pairwise (fun a b => kl a.key b.key = true)
theorem Nd.apart.symm {a b : Nd} (h : Nd.apart a b) : Nd.apart b a := ⟨fun e => h.1 e.symm, fun e => h.2 e.symm⟩
theorem Srt.apart {l s : List Nd} (h : Srt l s) (hp : l.Pairwise Nd.apart) : s.Pairwise Nd.apart := (h.1.pairwise_iff Nd.apart.symm).2 hp
theorem Srt.asc {l s : List Nd} (h : Srt l s) (hp : l.Pairwise Nd.apart) : Asc s := by
  refine (List.Pairwise.and h.2 (h.apart hp)).imp ?_
  rintro a b ⟨h1, h2⟩
  rw [nlt_false] at h1
  rcases h1 with h1 | ⟨h1, _⟩
  · exact h1
  · exact absurd h1.symm h2.2
theorem Srt.len {l s : List Nd} (h : Srt l s) : s.length = l.length := h.1.length_eq
theorem Srt.mem {l s : List Nd} (h : Srt l s) (x : Nd) : x ∈ s ↔ x ∈ l := h.1.mem_iff
theorem asc_unique : ∀ s t : List Nd, Asc s → Asc t → (∀ x, x ∈ s ↔ x ∈ t) → s = t
  | [], [], _, _, _ => rfl
  | [], y :: t, _, _, h => absurd ((h y).2 (by simp)) (by simp)
  | x :: s, [], _, _, h => absurd ((h x).1 (by simp)) (by simp)
  | x :: s, y :: t, hs, ht, h => by
    have hs' := List.pairwise_cons.1 hs
    have ht' := List.pairwise_cons.1 ht
    have exy : x = y := by
      rcases List.mem_cons.1 ((h x).1 (by simp)) with e | hx
      · exact e
      · rcases List.mem_cons.1 ((h y).2 (by simp)) with e | hy
        · exact e.symm
        · have h1 := ht'.1 x hx
          rw [kl_asymm (hs'.1 y hy)] at h1
          cases h1
    subst exy
    have hx1 : x ∉ s := fun hx => by have := hs'.1 x hx; rw [kl_irrefl] at this; cases this
    have hx2 : x ∉ t := fun hx => by have := ht'.1 x hx; rw [kl_irrefl] at this; cases this
    rw [asc_unique s t hs'.2 ht'.2 fun z => ?_]
    by_cases e : z = x
    · subst e
      exact ⟨fun hz => absurd hz hx1, fun hz => absurd hz hx2⟩
    · have := h z
      simpa [e] using this
/-- The sorted list. -/
def srt (l : List Nd) : List Nd := l.mergeSort (fun a b => !nlt b a)
theorem srt_srt (l : List Nd) : Srt l (srt l) := by
  refine ⟨List.mergeSort_perm _ _, ?_⟩
  have := List.pairwise_mergeSort (le := fun a b : Nd => !nlt b a) (fun a b c h k => ?_) (fun a b => ?_) l
  · refine this.imp ?_
    intro a b h
    simpa using h
  · simp only [Bool.not_eq_true'] at *
    exact nlt_swo.ntrans c b a k h
  · cases h : nlt b a
    · rfl
    · simp [nlt_swo.asymmA h]
theorem srt_of {l s : List Nd} (h : Srt l s) (hp : l.Pairwise Nd.apart) : s = srt l :=
  asc_unique _ _ (h.asc hp) ((srt_srt l).asc hp) fun x => by rw [h.mem, (srt_srt l).mem]
theorem srt_perm {l m : List Nd} (h : l.Perm m) (hp : m.Pairwise Nd.apart) : srt l = srt m :=
  srt_of ⟨(srt_srt l).1.trans h, (srt_srt l).2⟩ hp
/-- A roster: what Check asks. -/
theorem chkV_zero {l : List Nd} : chkV l = 0 ↔ l.length ≤ 64 ∧ l.all Nd.ok = true ∧ l.Pairwise Nd.apart := by
  unfold chkV
  by_cases h : 64 < l.length
  · rw [if_pos h]
    constructor
    · intro e; cases e
    · intro e; omega
  · rw [if_neg h]
    by_cases h2 : l.all Nd.ok = true
    · rw [if_pos h2]
      by_cases h3 : l.Pairwise Nd.apart
      · rw [if_pos h3]
        exact ⟨fun _ => ⟨by omega, h2, h3⟩, fun _ => rfl⟩
      · rw [if_neg h3]
        exact ⟨fun e => (by cases e), fun e => absurd e.2.2 h3⟩
    · rw [if_neg h2]
      exact ⟨fun e => (by cases e), fun e => absurd e.2.1 h2⟩
theorem chkV_perm {l m : List Nd} (h : l.Perm m) : chkV l = 0 → chkV m = 0 := by
  rw [chkV_zero, chkV_zero]
  rintro ⟨h1, h2, h3⟩
  refine ⟨by rw [← h.length_eq]; exact h1, ?_, (h.pairwise_iff Nd.apart.symm).1 h3⟩
  rw [List.all_eq_true] at *
  exact fun x hx => h2 x (h.mem_iff.2 hx)
theorem chkV_sub {l m : List Nd} (h : m.Sublist l) : chkV l = 0 → chkV m = 0 := by
  rw [chkV_zero, chkV_zero]
  rintro ⟨h1, h2, h3⟩
  refine ⟨Nat.le_trans h.length_le h1, ?_, h3.sublist h⟩
  rw [List.all_eq_true] at *
  exact fun x hx => h2 x (h.subset hx)
/-- What is known of a roster's sorted list. -/
structure Ros (l s : List Nd) : Prop where
  perm : s.Perm l
  asc : Asc s
  apart : s.Pairwise Nd.apart
  ok : ∀ x ∈ s, Nd.ok x = true
  eq : s = srt l
theorem ros_of {l : List Nd} (h : chkV l = 0) : Ros l (srt l) := by
  obtain ⟨_, h2, h3⟩ := chkV_zero.1 h
  have hs := srt_srt l
  exact ⟨hs.1, hs.asc h3, hs.apart h3, fun x hx => List.all_eq_true.1 h2 x ((hs.mem x).1 hx), rfl⟩
section
variable {l s : List Nd}
theorem asc_at (h : Asc s) {i j : Nat} (hij : i < j) (hj : j < s.length) : kl (s[i]'(by omega)).key s[j].key = true := List.pairwise_iff_getElem.1 h i j (by omega) hj hij
theorem asc_iff (h : Asc s) {i j : Nat} (hi : i < s.length) (hj : j < s.length) : kl s[i].key s[j].key = true ↔ i < j := by
  rcases Nat.lt_trichotomy i j with k | k | k
  · exact ⟨fun _ => k, fun _ => asc_at h k hj⟩
  · subst k
    rw [kl_irrefl]
    exact ⟨fun e => (by cases e), fun e => absurd e (Nat.lt_irrefl _)⟩
  · rw [kl_asymm (asc_at h k hi)]
    exact ⟨fun e => (by cases e), fun e => (by omega)⟩
theorem apart_at (h : s.Pairwise Nd.apart) {i j : Nat} (hi : i < s.length) (hj : j < s.length) (e : s[i].id = s[j].id) : i = j := by
  rcases Nat.lt_trichotomy i j with k | k | k
  · exact absurd e (List.pairwise_iff_getElem.1 h i j hi hj k).1
  · exact k
  · exact absurd e.symm (List.pairwise_iff_getElem.1 h j i hj hi k).1
end
/-- Where the node with a number is: behind the end where there is none. -/
def plc (s : List Nd) (id : Int) : Nat := s.findIdx (fun x => x.id == id)
theorem plc_le (s : List Nd) (id : Int) : plc s id ≤ s.length := List.findIdx_le_length
theorem plc_at {s : List Nd} (h : s.Pairwise Nd.apart) {i : Nat} (hi : i < s.length) : plc s s[i].id = i := by
  refine (List.findIdx_eq hi).2 ⟨by simp, fun j hj => ?_⟩
  have := List.pairwise_iff_getElem.1 h j i (by omega) hi hj
  simpa using this.1
theorem plc_uniq {s : List Nd} {id : Int} {k : Nat} (hk : k < s.length) (h1 : s[k].id = id) (h2 : ∀ j (h : j < k), (s[j]'(by omega)).id ≠ id) : plc s id = k :=
  (List.findIdx_eq hk).2 ⟨by simpa using h1, fun j hj => by simpa using h2 j hj⟩
theorem plc_none {s : List Nd} {id : Int} (h : ∀ j (h : j < s.length), s[j].id ≠ id) : plc s id = s.length := by
  have := plc_le s id
  rcases Nat.lt_or_ge (plc s id) s.length with k | k
  · have h1 : ((s[plc s id]'k).id == id) = true := List.findIdx_getElem (xs := s) (p := fun x : Nd => x.id == id) (w := k)
    exact absurd (by simpa using h1) (h _ k)
  · omega
theorem plc_id {s : List Nd} {id : Int} (k : plc s id < s.length) : (s[plc s id]'k).id = id := by
  have h1 : ((s[plc s id]'k).id == id) = true := List.findIdx_getElem (xs := s) (p := fun x : Nd => x.id == id) (w := k)
  simpa using h1
theorem plc_found {s : List Nd} {id : Int} : plc s id < s.length ↔ ∃ x ∈ s, x.id = id := by
  unfold plc
  rw [List.findIdx_lt_length]
  simp
def keyAt (s : List Nd) (k : Nat) : ByteArray := ((s[k]?).map Nd.key).getD ByteArray.empty
theorem keyAt_lt {s : List Nd} {k : Nat} (h : k < s.length) : keyAt s k = s[k].key := by simp [keyAt, h]
/-- The interval of the node at k of a sorted list. -/
def ivlAt (s : List Nd) (k : Nat) : Rg := ⟨⟨if k = 0 then ByteArray.empty else keyAt s k, false⟩, if k + 1 < s.length then ⟨keyAt s (k + 1), false⟩ else ⟨ByteArray.empty, true⟩⟩
/-- What Interval, Rank and Owner answer, in the terms of the sorted list. -/
def ivlV (s : List Nd) (id : Int) : Rg := if plc s id < s.length then ivlAt s (plc s id) else Rg.zero
def rnkV (s : List Nd) (id : Int) : Nat := if plc s id < s.length then plc s id else 0
def abv (s : List Nd) (key : ByteArray) : Nat := s.findIdx (fun x => kl key x.key)
def Nd.none : Nd := ⟨0, ByteArray.empty, 0⟩
def ownV (s : List Nd) (key : ByteArray) : Nd := (s[abv s key - 1]?).getD Nd.none
theorem abv_le (s : List Nd) (key : ByteArray) : abv s key ≤ s.length := List.findIdx_le_length
theorem abv_uniq {s : List Nd} {key : ByteArray} {k : Nat} (hk : k ≤ s.length) (h1 : ∀ j (h : j < s.length), j < k → kl key s[j].key = false) (h2 : ∀ j (h : j < s.length), k ≤ j → kl key s[j].key = true) : abv s key = k := by
  rcases Nat.lt_or_ge k s.length with h | h
  · exact (List.findIdx_eq h).2 ⟨h2 k h (Nat.le_refl _), fun j hj => h1 j (by omega) hj⟩
  · have e : k = s.length := by omega
    rcases Nat.lt_or_ge (abv s key) s.length with h3 | h3
    · have h4 := List.findIdx_getElem (xs := s) (p := fun x : Nd => kl key x.key) (w := h3)
      have h5 := h1 (abv s key) h3 (by omega)
      unfold abv at h5
      rw [h5] at h4
      cases h4
    · have := abv_le s key
      omega
theorem abv_lo {s : List Nd} {key : ByteArray} {j : Nat} (h : j < abv s key) : kl key (s[j]'(Nat.lt_of_lt_of_le h (abv_le s key))).key = false := List.not_of_lt_findIdx h
theorem abv_hi {s : List Nd} {key : ByteArray} (hs : Asc s) {j : Nat} (hj : j < s.length) (h : abv s key ≤ j) : kl key s[j].key = true := by
  have hlt : abv s key < s.length := by omega
  have h4 : kl key (s[abv s key]'hlt).key = true := List.findIdx_getElem (xs := s) (p := fun x : Nd => kl key x.key) (w := hlt)
  rcases Nat.lt_or_ge (abv s key) j with k | k
  · exact kl_trans h4 (asc_at hs k hj)
  · have e : abv s key = j := by omega
    subst e
    exact h4
end
section
open Go.RowKit

instance inhNdG : Inhabited Nd := ⟨Nd.none⟩

theorem flatN_put : ∀ (l : List Nd) (pad : List Value) (i : Nat) (_h : i < l.length) (y : Nd),
    ((((flatN l ++ pad).set (i * 3) (.int .i64 y.id)).set (i * 3 + 1) (.string y.key)).set (i * 3 + 2) (.int .u32 (y.word : Int))) = flatN (l.set i y) ++ pad
  | [], _, _, h, _ => by simp at h
  | x :: l, pad, 0, _, y => rfl
  | x :: l, pad, i + 1, h, y => by
    have ih := flatN_put l pad i (by simpa using h) y
    rw [show (i + 1) * 3 = i * 3 + 3 by omega]
    show [_, _, _] ++ (((flatN l ++ pad).set (i * 3) _).set (i * 3 + 1) _).set (i * 3 + 2) _ = _
    rw [ih]
    rfl
/-- W is a world of the sort: the row holds d and what was behind it; of what was there in w nothing else has turned. -/
def SRel (w : World) (g : Nat) (pad : List Value) (W : World) (d : Array Nd) : Prop := w.grownBy W (some g) ∧ Has W g 25 (flatN d.toList ++ pad).toArray
section
variable {w W W' : World} {g : Nat} {pad : List Value} {d : Array Nd}
theorem SRel.below (h : SRel w g pad W d) (k : Below W.heap.size W W') : SRel w g pad W' d := ⟨grownBy_below h.1 k, h.2.below k⟩
theorem SRel.cells (h : SRel w g pad W d) {i : Nat} (hi : i < d.size) : W.cell? ⟨g, i * 3, none⟩ = some (.int .i64 d[i]!.id) ∧ W.cell? ⟨g, i * 3 + 1, none⟩ = some (.string d[i]!.key) ∧ W.cell? ⟨g, i * 3 + 2, none⟩ = some (.int .u32 (d[i]!.word : Int)) := by
  have hl : i < d.toList.length := by simpa using hi
  have hf := flatN_at d.toList i hl
  have e : d[i]! = d.toList[i] := by rw [getElem!_pos d i hi, Array.getElem_toList]
  rw [e]
  have hlen := flatN_len d.toList
  have ht : ∀ j u, j < (flatN d.toList).length → (flatN d.toList)[j]? = some u → W.cell? ⟨g, j, none⟩ = some u := fun j u hj hu => by
    rw [h.2.cell, List.getElem?_toArray, List.getElem?_append_left hj, hu]
  exact ⟨ht _ _ (by omega) hf.1, ht _ _ (by omega) hf.2.1, ht _ _ (by omega) hf.2.2⟩
theorem SRel.swap (h : SRel w g pad W d) {i j : Nat} (hi : i < d.size) (hj : j < d.size) :
    SRel w g pad ((W.setCells g (0 + i * 3) [.int .i64 d[j]!.id, .string d[j]!.key, .int .u32 (d[j]!.word : Int)]).setCells g (0 + j * 3) [.int .i64 d[i]!.id, .string d[i]!.key, .int .u32 (d[i]!.word : Int)]) (Go.Sort.swp d i j) := by
  rw [Nat.zero_add, Nat.zero_add]
  have one : ∀ (W : World) (d : Array Nd) (i : Nat) (y : Nd), i < d.size → SRel w g pad W d → SRel w g pad (W.setCells g (i * 3) [.int .i64 y.id, .string y.key, .int .u32 (y.word : Int)]) (d.setIfInBounds i y) := fun W d i y hi h => by
    refine ⟨grownBy_set (grownBy_set (grownBy_set h.1 _ _) _ _) _ _, ?_⟩
    have h3 := ((h.2.set_ (i * 3) (.int .i64 y.id)).set_ (i * 3 + 1) (.string y.key)).set_ (i * 3 + 2) (.int .u32 (y.word : Int))
    simp only [List.setIfInBounds_toArray] at h3
    rw [flatN_put d.toList pad i (by simpa using hi) y] at h3
    rw [Array.toList_setIfInBounds]
    exact h3
  exact one _ _ _ _ (by simpa using hj) (one _ _ _ _ hi h)
theorem SRel.start (h : Has w g 25 (flatN d.toList ++ pad).toArray) : SRel w g pad w d := ⟨grownBy_refl _ _, h⟩
end
/-- A row of the call's own is one. -/
theorem OwnN.row {w : World} {base : Nat} {v : Value} {l : List Nd} (h : OwnN w base v l) (h0 : l ≠ []) : ∃ g cap pad, v = .slice (some ⟨g, 0, none⟩) l.length cap ∧ base ≤ g ∧ Has w g 25 (flatN l ++ pad).toArray ∧ (∀ (W : World) (m : List Nd), m.length = l.length → Has W g 25 (flatN m ++ pad).toArray → OwnN W base (.slice (some ⟨g, 0, none⟩) m.length cap) m) := by
  obtain ⟨h1, ⟨rfl, h2⟩ | ⟨g, cap, cur, rfl, h4, h5, h6, h7, h8, h9⟩⟩ := h
  · exact absurd (List.eq_nil_of_length_eq_zero h2) h0
  · refine ⟨g, cap, cur.toList.drop (l.length * 3), rfl, h4, ?_, ?_⟩
    · rw [← h9, List.take_append_drop]
      exact h5
    · intro W m hm hW
      refine ⟨by rw [flatN_len], .inr ⟨g, cap, _, rfl, h4, hW, by omega, h7, ?_, ?_⟩⟩
      · have : cur.toList.length = cap * 3 := by simpa using h8
        have hl : l.length * 3 ≤ cap * 3 := Nat.mul_le_mul_right 3 h6
        simp [flatN_len, hm, this]
        omega
      · rw [List.toList_toArray, ← flatN_len m, List.take_left']
        rfl
end
section
open Go.RowKit

def cmpI (a b : Int) : Int := if a < b then -1 else if b < a then 1 else 0
def cmpT (a b : ByteArray) : Int := if kl a b then -1 else if kl b a then 1 else 0
theorem nan_int (a : Int) (w : World) : Calls Tryz.prog 95 #[.int .i64 a] w fun e w' => e = .returned (.bool false) ∧ w = w' := by
  go_enter Tryz.func95, Tryz.ntmps95
  go_wp2
  go_ret
  exact ⟨ret_bool (by simp), rfl⟩
set_option maxRecDepth 100000 in
set_option maxHeartbeats 800000 in
theorem cmp_int (a b : Int) (w : World) : Calls Tryz.prog 83 #[.int .i64 a, .int .i64 b] w fun e w' => e = .returned (.int .i64 (cmpI a b)) ∧ w = w' := by
  rcases Int.lt_trichotomy a b with h | h | h
  · have hr : cmpI a b = -1 := by simp [cmpI, h]
    rw [hr]
    clear hr
    go_enter Tryz.func83, Tryz.ntmps83
    go_wp2_with (go_at_call 95; refine (nan_int _ _).mono ?_; rintro e w' ⟨rfl, rfl⟩)
    go_ret
    exact ⟨rfl, rfl⟩
  · subst h
    have hr : cmpI a a = 0 := by simp [cmpI]
    rw [hr]
    clear hr
    go_enter Tryz.func83, Tryz.ntmps83
    go_wp2_with (go_at_call 95; refine (nan_int _ _).mono ?_; rintro e w' ⟨rfl, rfl⟩)
    go_ret
    exact ⟨rfl, rfl⟩
  · have hr : cmpI a b = 1 := by unfold cmpI; rw [if_neg (by omega), if_pos h]
    have h1 : ¬ a < b := by omega
    rw [hr]
    clear hr
    go_enter Tryz.func83, Tryz.ntmps83
    go_wp2_with (go_at_call 95; refine (nan_int _ _).mono ?_; rintro e w' ⟨rfl, rfl⟩)
    go_ret
    exact ⟨rfl, rfl⟩

theorem nan_string (a : ByteArray) (w : World) : Calls Tryz.prog 94 #[.string a] w fun e w' => e = .returned (.bool false) ∧ w = w' := by
  go_enter Tryz.func94, Tryz.ntmps94
  go_wp2
  go_ret
  exact ⟨ret_bool (by simp), rfl⟩
set_option maxRecDepth 100000 in
set_option maxHeartbeats 800000 in
theorem cmp_string (a b : ByteArray) (w : World) : Calls Tryz.prog 82 #[.string a, .string b] w fun e w' => e = .returned (.int .i64 (cmpT a b)) ∧ w = w' := by
  cases h1 : kl a b
  · cases h2 : kl b a
    · obtain rfl := kl_tri h1 h2
      have hr : cmpT a a = 0 := by simp [cmpT, h1]
      rw [hr]
      have t1 : Op.bytesLess a.toList a.toList = false := h1
      clear hr h1 h2
      go_enter Tryz.func82, Tryz.ntmps82
      go_wp2_with (go_at_call 94; refine (nan_string _ _).mono ?_; rintro e w' ⟨rfl, rfl⟩)
      go_ret
      exact ⟨rfl, rfl⟩
    · have hr : cmpT a b = 1 := by simp [cmpT, h1, h2]
      rw [hr]
      have t1 : Op.bytesLess a.toList b.toList = false := h1
      have t2 : (!a.toList == b.toList) = true := by
        cases e : a.toList == b.toList
        · rfl
        · rw [show a = b from toList_inj (by simpa using e), kl_irrefl] at h2; cases h2
      clear hr h1 h2
      go_enter Tryz.func82, Tryz.ntmps82
      go_wp2_with (go_at_call 94; refine (nan_string _ _).mono ?_; rintro e w' ⟨rfl, rfl⟩)
      go_ret
      exact ⟨rfl, rfl⟩
  · have hr : cmpT a b = -1 := by simp [cmpT, h1]
    rw [hr]
    have t1 : Op.bytesLess a.toList b.toList = true := h1
    clear hr h1
    go_enter Tryz.func82, Tryz.ntmps82
    go_wp2_with (go_at_call 94; refine (nan_string _ _).mono ?_; rintro e w' ⟨rfl, rfl⟩)
    go_ret
    exact ⟨rfl, rfl⟩

/-- The first of two numbers that is not 0. -/
def or2 (a b : Int) : Int := if a ≠ 0 then a else b
set_option maxRecDepth 100000 in
set_option maxHeartbeats 1600000 in
theorem or2_any (b c : Nat) (x y : Int) (w : World) (h0 : w.cell? ⟨b, 0, none⟩ = some (.int .i64 x)) (h1 : w.cell? ⟨b, 1, none⟩ = some (.int .i64 y)) :
    Calls Tryz.prog 81 #[.slice (some ⟨b, 0, none⟩) 2 c] w fun e w' => e = .returned (.int .i64 (or2 x y)) ∧ w = w' := by
  go_enter Tryz.func81, Tryz.ntmps81
  go_wp2_with fail
  go_loop [8] (fun i => ∃ k : Nat, k ≤ 2 ∧ i = .int .i64 (k : Int) ∧ Hid ((0 < k → x = 0) ∧ (1 < k → y = 0))) (fun i => 2 - (intOf i).toNat)
  case atStart => exact ⟨0, by omega, rfl, Lib.hid ⟨by omega, by omega⟩⟩
  case round =>
    obtain ⟨k, hk, rfl, HK⟩ := hrel
    have hk' : k = 0 ∨ k = 1 ∨ k = 2 := by omega
    rcases hk' with rfl | rfl | rfl
    · by_cases hx : x = 0
      · subst hx
        go_wp2_with fail
        exact ⟨⟨1, by omega, rfl, Lib.hid ⟨fun _ => trivial, by omega⟩⟩, by simp [intOf]⟩
      · have e1 : (x != 0) = true := by simpa using hx
        go_wp2_with fail
        go_ret
        exact ⟨ret_int (by simp [or2, hx]), rfl⟩
    · have hx := HK.out.1 (by omega)
      by_cases hy : y = 0
      · subst hy
        go_wp2_with fail
        exact ⟨⟨2, by omega, rfl, Lib.hid ⟨fun _ => hx, fun _ => trivial⟩⟩, by simp [intOf]⟩
      · have e1 : (y != 0) = true := by simpa using hy
        go_wp2_with fail
        go_ret
        exact ⟨ret_int (by simp [or2]), rfl⟩
    · have hx := HK.out.1 (by omega)
      have hy := HK.out.2 (by omega)
      go_wp2_with fail
      go_ret
      exact ⟨ret_int (by simp [or2]), rfl⟩
theorem or2_nlt (a b : Nd) : decide (or2 (cmpT a.key b.key) (cmpI a.id b.id) < 0) = nlt a b := by
  unfold or2 cmpT cmpI nlt
  cases h : kl a.key b.key
  · cases k : kl b.key a.key
    · by_cases h1 : a.id < b.id
      · simp [h1]
      · by_cases h2 : b.id < a.id
        · simp [h1, h2]
        · simp [h1, h2]
    · simp
  · simp

set_option maxRecDepth 100000 in
set_option maxHeartbeats 1600000 in
theorem less_any (B g o n cap i j : Nat) (x y : Nd) (w : World) (hB : w.cell? ⟨B, 0, none⟩ = some (.slice (some ⟨g, o, none⟩) n cap)) (hi : i < n) (hj : j < n)
    (x0 : w.cell? ⟨g, o + i * 3, none⟩ = some (.int .i64 x.id)) (x1 : w.cell? ⟨g, o + i * 3 + 1, none⟩ = some (.string x.key)) (y0 : w.cell? ⟨g, o + j * 3, none⟩ = some (.int .i64 y.id)) (y1 : w.cell? ⟨g, o + j * 3 + 1, none⟩ = some (.string y.key)) :
    Calls Tryz.prog 80 #[.int .i64 (i : Int), .int .i64 (j : Int), .pointer (some ⟨B, 0, none⟩)] w fun e w' => e = .returned (.bool (nlt x y)) ∧ Below w.heap.size w w' := by
  rw [← or2_nlt]
  obtain ⟨xi, xk, xw⟩ := x
  obtain ⟨yi, yk, yw⟩ := y
  have hb := Below.refl w.heap.size w
  have i0 : (0 : Int) ≤ (i : Int) := by omega
  have i1 : (i : Int) < (n : Int) := by omega
  have j0 : (0 : Int) ≤ (j : Int) := by omega
  have j1 : (j : Int) < (n : Int) := by omega
  go_enter Tryz.func80, Tryz.ntmps80
  go_wp2_with fail
  replace hB : w.drew.cell? ⟨B, 0, none⟩ = _ := hB
  replace x0 : w.drew.cell? ⟨g, o + i * 3, none⟩ = _ := x0
  replace x1 : w.drew.cell? ⟨g, o + i * 3 + 1, none⟩ = _ := x1
  replace y0 : w.drew.cell? ⟨g, o + j * 3, none⟩ = _ := y0
  replace y1 : w.drew.cell? ⟨g, o + j * 3 + 1, none⟩ = _ := y1
  replace hb := hb.drew
  refine wp_region_still_tail 22 (by kernel_rfl) (by kernel_rfl) ?_
  simp only [List.take_succ_cons, List.take_zero, List.drop_succ_cons, List.drop_zero]
  change wpStill _ _ w.drew (fun a' => wpList _ _ _ _ a' w.drew) _ _
  generalize w.drew = w9 at *
  repeat still_step
  still_call ((cmp_string xk yk w9).mono fun _ _ h => ⟨h.1, h.2.symm⟩)
  repeat still_step
  still_call ((cmp_int xi yi w9).mono fun _ _ h => ⟨h.1, h.2.symm⟩)
  repeat still_step
  refine wpStill_nil ?_
  have hN := Has.new w9 3 #[.int .i64 (cmpT xk yk), .int .i64 (cmpI xi yi)]
  have hbN := hb.alloc hb.size (.cells #[.int .i64 (cmpT xk yk), .int .i64 (cmpI xi yi)] 3)
  have HO := Lib.hid (or2_any w9.heap.size 2 (cmpT xk yk) (cmpI xi yi) _ (hN.cell 0) (hN.cell 1))
  clear x0 x1 y0 y1 hN hb
  go_wp2_with fail
  refine (HO.out).mono ?_
  rintro e w10 ⟨rfl, rfl⟩
  go_wp2_with fail
  go_ret
  exact ⟨rfl, hbN⟩
end
section
open Go.RowKit

/-- What the function literal answers while the sort runs, and what the library's exchange does. -/
def LessN (B : Nat) (w : World) (g : Nat) (pad : List Value) (n : Nat) : Prop := ∀ (W : World) (d : Array Nd), SRel w g pad W d → d.size = n → ∀ i j : Nat, i < n → j < n →
  Calls Tryz.prog 80 #[.int .i64 (i : Int), .int .i64 (j : Int), .pointer (some ⟨B, 0, none⟩)] W fun e W' => e = .returned (.bool (nlt d[i]! d[j]!)) ∧ Below W.heap.size W W'
def SwapN (sf : Nat) (sb : Array Value) (w : World) (g : Nat) (pad : List Value) (n : Nat) : Prop := ∀ (W : World) (d : Array Nd), SRel w g pad W d → d.size = n → ∀ i j : Nat, i < n → j < n → i ≠ j →
  ∃ W', (callFunc sf (#[.int .i64 (i : Int), .int .i64 (j : Int)] ++ sb)).run Tryz.prog W = .ok (.value (.tuple #[])) W' ∧ SRel w g pad W' (Go.Sort.swp d i j) ∧ W'.heap.size = W.heap.size
theorem lessN {B g n cap : Nat} {w : World} {pad : List Value} (hB : w.cell? ⟨B, 0, none⟩ = some (.slice (some ⟨g, 0, none⟩) n cap)) (hBl : B < w.heap.size) (hBg : B ≠ g) : LessN B w g pad n := fun W d h hd i j hi hj => by
  have c1 := h.cells (i := i) (by omega)
  have c2 := h.cells (i := j) (by omega)
  refine less_any B g 0 n cap i j d[i]! d[j]! W ?_ hi hj ?_ ?_ ?_ ?_
  · exact (World.cell?_of_block (h.1.block B hBl (fun e => hBg (Option.some.inj e)))).trans hB
  · rw [Nat.zero_add]; exact c1.1
  · rw [Nat.zero_add]; exact c1.2.1
  · rw [Nat.zero_add]; exact c2.1
  · rw [Nat.zero_add]; exact c2.2.1
set_option maxRecDepth 100000 in
theorem swapN {g n cap : Nat} {w : World} {pad : List Value} : SwapN 106 #[.slice (some ⟨g, 0, none⟩) n cap, typeHandle Tryz.prog 25] w g pad n := fun W d h hd i j hi hj _ => by
  obtain ⟨inf, hif, hif1, hif2, hif3⟩ := infoN_parts
  have cc : ∀ x, x < d.size → ∀ u v, ([.int .i64 d[x]!.id, .string d[x]!.key, .int .u32 (d[x]!.word : Int)] : List Value)[u]? = some v → W.cell? ⟨g, 0 + x * inf.size + u, none⟩ = some v := fun x hx u v hv => by
    have c := h.cells hx
    rw [Nat.zero_add, hif2]
    match u, hv with
    | 0, hv => exact c.1.trans hv
    | 1, hv => exact c.2.1.trans hv
    | 2, hv => exact c.2.2.trans hv
  have fr : ∀ o, W.frozen? ⟨g, o, none⟩ = false := fun o => h.2.frozen o
  have o1 : ∀ x : Nd, ∀ v ∈ ([.int .i64 x.id, .string x.key, .int .u32 (x.word : Int)] : List Value), v.oneCell' = true := fun x v hv => by
    simp at hv
    rcases hv with rfl | rfl | rfl <;> rfl
  have hrun := Go.Lib.run_swap_cells (P := Tryz.prog) false 25 inf hif (fun _ => by kernel_rfl) g 0 n cap i j hi hj [.int .i64 d[i]!.id, .string d[i]!.key, .int .u32 (d[i]!.word : Int)] [.int .i64 d[j]!.id, .string d[j]!.key, .int .u32 (d[j]!.word : Int)] (by rw [hif2]; rfl) (by rw [hif2]; rfl) (o1 d[i]!) (o1 d[j]!) W (cc i (by omega)) (cc j (by omega)) (fun k _ => fr _) (fun k _ => fr _)
  rw [hif2] at hrun
  refine ⟨_, ?_, h.swap (i := i) (j := j) (by omega) (by omega), by simp [World.setCells, World.setCell]⟩
  have hx := run_callFunc_extern Tryz.func106 (by kernel_rfl) (by kernel_rfl) (by kernel_rfl) (e := Go.Extern.ReflectliteSwapper.swap false) (by kernel_rfl) (#[.int .i64 (i : Int), .int .i64 (j : Int)] ++ #[.slice (some ⟨g, 0, none⟩) n cap, typeHandle Tryz.prog 25]) W
  rw [hx]
  rw [show (#[Value.int .i64 (i : Int), Value.int .i64 (j : Int)] ++ #[Value.slice (some ⟨g, 0, none⟩) n cap, typeHandle Tryz.prog 25]) = #[.int .i64 i, .int .i64 j, .slice (some ⟨g, 0, none⟩) n cap, typeHandle Tryz.prog 25] from rfl, hrun]
  rfl
theorem ins_out {a b i : Nat} {d : Array Nd} (h : i < b) : Go.Sort.insOuter nlt a b i d = Go.Sort.insOuter nlt a b (i + 1) (Go.Sort.insInner nlt a i d) := by
  rw [Go.Sort.insOuter, if_pos h]
theorem ins_end {a b i : Nat} {d : Array Nd} (h : ¬ i < b) : Go.Sort.insOuter nlt a b i d = d := by
  rw [Go.Sort.insOuter, if_neg h]
theorem ins_go {a p : Nat} {d : Array Nd} (h : a < p + 1) (k : nlt d[p + 1]! d[p]! = true) : Go.Sort.insInner nlt a (p + 1) d = Go.Sort.insInner nlt a p (Go.Sort.swp d (p + 1) p) := by
  rw [Go.Sort.insInner, if_pos (by simp [k]; omega)]
theorem ins_stop {a j : Nat} {d : Array Nd} (h : j ≤ a ∨ nlt d[j]! d[j - 1]! = false) : Go.Sort.insInner nlt a j d = d := by
  cases j with
  | zero => rfl
  | succ p =>
    rw [Go.Sort.insInner, if_neg]
    rcases h with h | h
    · simp only [Bool.and_eq_true, decide_eq_true_eq, not_and]
      intro h2
      omega
    · rw [show p + 1 - 1 = p by omega] at h
      simp [h]
theorem SRel.base {w w1 W : World} {g : Nat} {pad : List Value} {d : Array Nd} (h : SRel w1 g pad W d) (k : w.grownBy w1 (some g)) : SRel w g pad W d := ⟨grownBy_trans k h.1, h.2⟩
theorem SRel.aside {w W : World} {g : Nat} {pad : List Value} {d : Array Nd} (h : SRel w g pad W d) {X : Nat} {t : TypeId} {cs : Array Value} (hX : Has w X t cs) (hne : X ≠ g) : Has W X t cs := (h.1.block X hX.lt (fun e => hne (Option.some.inj e))).trans hX

set_option maxRecDepth 100000 in
set_option maxHeartbeats 3200000 in
theorem ins_func (B g n cap : Nat) (pad : List Value) (sf : Nat) (sb : Array Value) (hSw : ∀ w1, SwapN sf sb w1 g pad n) (d : Array Nd) (a b : Nat) (w : World) (hg : Has w g 25 (flatN d.toList ++ pad).toArray) (hd : d.size = n)
    (hB : w.cell? ⟨B, 0, none⟩ = some (.slice (some ⟨g, 0, none⟩) n cap)) (hBl : B < w.heap.size) (hBg : B ≠ g) (hab : a ≤ b) (hb : b ≤ n) (hn : n ≤ 1000000) :
    Calls Tryz.prog 107 #[.agg #[.func (.func 80) #[] #[.pointer (some ⟨B, 0, none⟩)], .func (.func sf) #[] sb], .int .i64 (a : Int), .int .i64 (b : Int)] w fun e W' => e = .returned (.tuple #[]) ∧ SRel w g pad W' (Go.Sort.insertionSort nlt d a b) := by
  have hgl := hg.lt
  obtain ⟨w1, hw1⟩ : ∃ w1, w1 = w.alloc (.cells #[.func (.func 80) #[] #[.pointer (some ⟨B, 0, none⟩)], .func (.func sf) #[] sb] 137) := ⟨_, rfl⟩
  have hbw : Below w.heap.size w w1 := by rw [hw1]; exact (Below.refl _ _).alloc (Nat.le_refl _) _
  have hX : Has w1 w.heap.size 137 #[.func (.func 80) #[] #[.pointer (some ⟨B, 0, none⟩)], .func (.func sf) #[] sb] := by rw [hw1]; exact Has.new _ _ _
  have hk1 : w.grownBy w1 (some g) := ⟨hbw.os, hbw.tape, hbw.output, hbw.size, fun i hi _ => hbw.block i hi⟩
  have hs1 : SRel w1 g pad w1 d := SRel.start (hg.below hbw)
  have HL := Lib.hid (lessN (w := w1) (pad := pad) ((hbw.cell (p := ⟨B, 0, none⟩) hBl).trans hB) (Nat.lt_of_lt_of_le hBl hbw.size) hBg)
  have HSW := Lib.hid (hSw w1)
  have HK := Lib.hid hk1
  have hXg : w.heap.size ≠ g := by omega
  have HO0 : Hid (Go.Sort.insertionSort nlt d a b = Go.Sort.insOuter nlt a b (a + 1) d) := Lib.hid rfl
  generalize Go.Sort.insertionSort nlt d a b = Z at *
  have wa : IntKind.i64.wrap ((a : Int) + 1) = (a : Int) + 1 := IntWalk.i64_in _ (by omega)
  clear hB hBl hBg hg hSw hk1 hbw
  go_enter Tryz.func107, Tryz.ntmps107
  go_wp2_with fail
  rw [← hw1]
  clear hw1
  go_loopw [6] (fun vi wr => ∃ (i : Nat) (dk : Array Nd), vi = .int .i64 (i : Int) ∧ a < i ∧ i ≤ b + 1 ∧ dk.size = n ∧ SRel w1 g pad wr dk ∧ Hid (Z = Go.Sort.insOuter nlt a b i dk)) (fun vi _ => b + 1 - (intOf vi).toNat)
  case atStart => exact ⟨a + 1, d, by go_num, by omega, by omega, hd, hs1, HO0⟩
  case round =>
    clear hs1 HO0 wa
    obtain ⟨i, dk, rfl, hai, hib, hsk, hs, HO⟩ := hrel
    by_cases hlt : i < b
    · have hltz : (i : Int) < (b : Int) := by omega
      go_wp2_with fail
      go_loopw [7] (fun vj wz => ∃ (j : Nat) (dj : Array Nd), vj = .int .i64 (j : Int) ∧ a ≤ j ∧ j ≤ i ∧ dj.size = n ∧ SRel w1 g pad wz dj ∧ Hid (Go.Sort.insInner nlt a j dj = Go.Sort.insInner nlt a i dk)) (fun vj _ => (intOf vj).toNat)
      case atStart => exact ⟨i, dk, rfl, by omega, by omega, hsk, hs, Lib.hid rfl⟩
      case round =>
        clear hs
        obtain ⟨j, dj, rfl, haj, hji, hsj, hs, HI⟩ := hrel
        have OUT : Hid ((j ≤ a ∨ nlt dj[j]! dj[j - 1]! = false) → Z = Go.Sort.insOuter nlt a b (i + 1) dj) := Lib.hid fun h => by
          rw [HO.out, ins_out hlt, ← HI.out, ins_stop h]
        by_cases hja : a < j
        · obtain ⟨p, rfl⟩ : ∃ p, j = p + 1 := ⟨j - 1, by omega⟩
          have hjz : (a : Int) < ((p + 1 : Nat) : Int) := by omega
          have hwp : IntKind.i64.wrap (((p + 1 : Nat) : Int) - 1) = (p : Int) := by rw [show ((p + 1 : Nat) : Int) - 1 = (p : Int) by omega]; exact IntWalk.i64_in _ (by omega)
          have hXw := hs.aside hX hXg
          have x0 := hXw.cell 0
          have x1 := hXw.cell 1
          have hl := HL.out wr dj hs hsj (p + 1) p (by omega) (by omega)
          have HGO := Lib.hid (ins_go (d := dj) hja)
          cases hlv : nlt dj[p + 1]! dj[p]!
          · have hz := OUT.out (.inr (by simpa using hlv))
            have HZ := Lib.hid hz
            rw [hlv] at hl
            have HLc := Lib.hid hl
            clear hl hz OUT HGO hlv
            go_wp2_with fail
            refine (HLc.out).mono ?_
            rintro e w2 ⟨rfl, hb2⟩
            go_wp2_with fail
            exact ⟨⟨i + 1, dj, by go_num, by omega, by omega, hsj, hs.below hb2, HZ⟩, by simp [intOf]; omega⟩
          · have HZ := Lib.hid (HGO.out hlv)
            rw [hlv] at hl
            have HLc := Lib.hid hl
            clear hl OUT HGO hlv
            go_wp2_with fail
            refine (HLc.out).mono ?_
            rintro e w2 ⟨rfl, hb2⟩
            have hs2 := hs.below hb2
            have hXw2 := hs2.aside hX hXg
            have x0' := hXw2.cell 0
            have x1' := hXw2.cell 1
            obtain ⟨w3, hr3, hs3, _⟩ := HSW.out w2 dj hs2 hsj (p + 1) p (by omega) (by omega) (by omega)
            rw [show ((p + 1 : Nat) : Int) = (p : Int) + 1 by omega] at hr3
            go_wp2_with fail
            exact ⟨⟨p, Go.Sort.swp dj (p + 1) p, by go_num, by omega, by omega, by rw [Go.Sort.swp_size]; exact hsj, hs3, Lib.hid (by rw [← HZ.out, HI.out])⟩, by simp [intOf]⟩
        · have HZ := Lib.hid (OUT.out (.inl (by omega)))
          have hjz : ¬ (a : Int) < (j : Int) := by omega
          clear OUT
          go_wp2_with fail
          exact ⟨⟨i + 1, dj, by go_num, by omega, by omega, hsj, hs, HZ⟩, by simp [intOf]; omega⟩
    · have HZ : Hid (Z = dk) := Lib.hid (by rw [HO.out, ins_end hlt])
      have hltz : ¬ (i : Int) < (b : Int) := by omega
      go_wp2_with fail
      go_end0
      exact ⟨rfl, by rw [HZ.out]; exact hs.base HK.out⟩
end
section
open Go.RowKit

theorem SRel.below_base {w w1 W : World} {g : Nat} {pad : List Value} {d : Array Nd} (h : SRel w1 g pad W d) (k : Below w.heap.size w w1) : SRel w g pad W d :=
  h.base ⟨k.os, k.tape, k.output, k.size, fun i hi _ => k.block i hi⟩

set_option maxRecDepth 100000 in
set_option maxHeartbeats 1600000 in
theorem stable_func (B g n cap : Nat) (pad : List Value) (sf : Nat) (sb : Array Value) (hSw : ∀ w1, SwapN sf sb w1 g pad n) (d : Array Nd) (w : World) (hg : Has w g 25 (flatN d.toList ++ pad).toArray) (hd : d.size = n)
    (hB : w.cell? ⟨B, 0, none⟩ = some (.slice (some ⟨g, 0, none⟩) n cap)) (hBl : B < w.heap.size) (hBg : B ≠ g) (hn : n < 20) :
    Calls Tryz.prog 92 #[.agg #[.func (.func 80) #[] #[.pointer (some ⟨B, 0, none⟩)], .func (.func sf) #[] sb], .int .i64 (n : Int)] w fun e W' => e = .returned (.tuple #[]) ∧ SRel w g pad W' (Go.Sort.insertionSort nlt d 0 n) := by
  obtain ⟨w1, hw1⟩ : ∃ w1, w1 = w.alloc (.cells #[.func (.func 80) #[] #[.pointer (some ⟨B, 0, none⟩)], .func (.func sf) #[] sb] 137) := ⟨_, rfl⟩
  have hbw : Below w.heap.size w w1 := by rw [hw1]; exact (Below.refl _ _).alloc (Nat.le_refl _) _
  have hX : Has w1 w.heap.size 137 #[.func (.func 80) #[] #[.pointer (some ⟨B, 0, none⟩)], .func (.func sf) #[] sb] := by rw [hw1]; exact Has.new _ _ _
  have x0 := hX.cell 0
  have x1 := hX.cell 1
  have H := Lib.hid (ins_func B g n cap pad sf sb hSw d 0 n w1 (hg.below hbw) hd ((hbw.cell (p := ⟨B, 0, none⟩) hBl).trans hB) (Nat.lt_of_lt_of_le hBl hbw.size) hBg (by omega) (by omega) (by omega))
  have HB := Lib.hid hbw
  have hn1 : ¬ (20 : Int) ≤ (n : Int) := by omega
  have hn2 : ¬ (20 : Int) < (n : Int) := by omega
  clear hg hSw hB hBl hBg hX hbw hd
  generalize Go.Sort.insertionSort nlt d 0 n = Z at *
  go_enter Tryz.func92, Tryz.ntmps92
  go_wp2_with fail
  rw [← hw1]
  clear hw1
  refine wp_loop_rounds 1 ?_
  rw [rounds_succ]
  go_wp2_with fail
  refine (H.out).mono ?_
  rintro e w2 ⟨rfl, hs2⟩
  go_wp2_with fail
  refine wp_loop_rounds 1 ?_
  rw [rounds_succ]
  go_wp2_with fail
  go_end0
  exact ⟨rfl, hs2.below_base HB.out⟩

set_option maxRecDepth 100000 in
set_option maxHeartbeats 1600000 in
theorem slice_of (p : Option Addr) (n c : Nat) (f : Nat) (inf : TypeInfo) (hif : Tryz.prog.info? 25 = some inf) (hf : Tryz.prog.funcs.findIdx? (·.name == "internal/reflectlite" ++ ".Swapper$" ++ toString (Go.Lib.swapperK n inf 25)) = some f) (lb sb : Array Value)
    (hsb : (if Go.Lib.swapperK n inf 25 ≤ 2 then (#[] : Array Value) else #[.slice p n c, typeHandle Tryz.prog 25]) = sb) (w : World) (R : World → Prop)
    (hp : ∀ W, Below w.heap.size w W → Calls Tryz.prog 92 #[.agg #[.func (.func 80) #[] lb, .func (.func f) #[] sb], .int .i64 (n : Int)] W fun e W' => e = .returned (.tuple #[]) ∧ R W') :
    Calls Tryz.prog 79 #[.iface 28 (.slice p n c), .func (.func 80) #[] lb] w fun e W' => e = .returned (.tuple #[]) ∧ R W' := by
  obtain ⟨inl, hil⟩ : ∃ i, Tryz.prog.info? 28 = some i := ⟨(Tryz.prog.info? 28).get (by kernel_rfl), by kernel_rfl⟩
  have hd : inl.desc = .slice 25 := by
    have h : (Tryz.prog.info? 28).map (·.desc) = some (.slice 25) := by kernel_rfl
    rw [hil] at h
    exact Option.some.inj h
  have hv := Go.Lib.run_valueOf_slice (P := Tryz.prog) 28 25 inl hil hd p n c w
  have hs := fun w => Go.Lib.run_swapper_slice (P := Tryz.prog) 28 25 inl inf hil hd hif 25 (fun _ => by kernel_rfl) p n c f hf w
  have hl := fun a w ha => Go.Lib.run_valueLen_slice (P := Tryz.prog) 28 25 inl hil hd (by kernel_rfl) a p n c w ha
  rw [hsb] at hs
  have HP := Lib.hid hp
  clear hp hsb hf
  have q1 := (run_callFunc_extern Tryz.func90 (by kernel_rfl) (by kernel_rfl) (by kernel_rfl) (e := fun args => Extern.ReflectliteValue.unpack (args.getD 0 (.tuple #[]))) (by kernel_rfl) #[.iface 28 (.slice p n c)] w)
  rw [show Sem.run Tryz.prog ((fun args : Array Value => Extern.ReflectliteValue.unpack (args.getD 0 (.tuple #[]))) #[.iface 28 (.slice p n c)]) w = _ from hv] at q1
  simp only [Result.andThen] at q1
  have q2 : ∀ W, Sem.run Tryz.prog (callFunc 91 #[.iface 28 (.slice p n c)]) W = .ok (.value (.func (.func f) #[] sb)) W := fun W => by
    rw [run_callFunc_extern Tryz.func91 (by kernel_rfl) (by kernel_rfl) (by kernel_rfl) (e := Extern.ReflectliteSwapper.swapper "internal/reflectlite" (Extern.ReflectliteValue.valueError "Swapper")) (by kernel_rfl), hs]
    rfl
  have q3 : ∀ a W, W.cell? a = some (.slice p n c) → Sem.run Tryz.prog (callFunc 93 #[.agg #[typeHandle Tryz.prog 28, .pointer (some a), .int .u64 151]]) W = .ok (.value (.int .i64 (n : Int))) W := fun a W ha => by
    rw [run_callFunc_extern Tryz.func93 (by kernel_rfl) (by kernel_rfl) (by kernel_rfl) (e := Extern.ReflectliteValue.method (Extern.ReflectliteValue.valueError "reflectlite.Value.Len" 0) Extern.ReflectliteValue.len) (by kernel_rfl), hl a W ha]
    rfl
  clear hv hs hl
  have hT : ∃ G : Nat, typeHandle Tryz.prog 28 = .pointer (some ⟨G, 28, none⟩) := ⟨_, rfl⟩
  obtain ⟨G, hT⟩ := hT
  rw [hT] at q1 q3
  clear hT
  have hA := (Has.new w 28 #[.slice p n c]).alloc (.cells #[.pointer (some ⟨G, 28, none⟩), .pointer (some ⟨w.heap.size, 0, none⟩), .int .u64 151] 131)
  have hX := Has.new (w.alloc (.cells #[.slice p n c] 28)) 131 #[.pointer (some ⟨G, 28, none⟩), .pointer (some ⟨w.heap.size, 0, none⟩), .int .u64 151]
  have hbw := ((Below.refl w.heap.size w).alloc (Nat.le_refl _) (.cells #[.slice p n c] 28)).alloc (by rw [World.size_alloc]; omega) (.cells #[.pointer (some ⟨G, 28, none⟩), .pointer (some ⟨w.heap.size, 0, none⟩), .int .u64 151] 131)
  have x0 := hX.cell 0
  have x1 := hX.cell 1
  have x2 := hX.cell 2
  have q4 := q3 _ _ (hA.cell 0)
  rw [World.size_alloc] at x0 x1 x2
  clear hX hA q3
  have Q4 := Lib.hid q4
  have Q1 := Lib.hid q1
  clear q1 q4
  go_enter Tryz.func79, Tryz.ntmps79
  go_wp2_with fail
  rw [Q1.out, Oper.upon_value]
  go_wp2_with fail
  rw [Q4.out, Oper.upon_value]
  go_wp2_with fail
  refine (HP.out _ hbw).mono ?_
  rintro e w3 ⟨rfl, hR⟩
  go_wp2_with fail
  go_end0
  exact ⟨rfl, hR⟩
end
section
open Go.RowKit

set_option maxRecDepth 100000 in
set_option maxHeartbeats 800000 in
theorem clone_any (A : Option Addr) (l : List Nd) (c : Nat) (w : World) (hl : Nds w w.heap.size A l) (hn : l.length ≤ 100000) :
    Calls Tryz.prog 78 #[.slice A l.length c] w (NdsP l w) := by
  have q23 : ∀ (w : World) (a : Option Addr) (n c n' c' : Nat), (binOp .eql 28 (.slice a n c) (.slice none n' c')).run Tryz.prog w = .ok (.bool a.isNone) w := fun w a n c n' c' => Lib.run_eql_slice_nil w _ _ a n c n' c' Tryz.underlying28
  cases A with
  | none =>
    have hl0 : l = [] := by
      rcases List.eq_nil_or_concat l with h | ⟨a, b, h⟩
      · exact h
      · obtain ⟨b, o, e, _⟩ := hl (by rw [h]; simp)
        cases e
    subst hl0
    clear hl
    go_enter Tryz.func78, Tryz.ntmps78
    go_wp2_with fail
    go_ret
    exact ⟨none, 0, rfl, OwnN.nil _ _, Below.refl _ _⟩
  | some a =>
    obtain ⟨inf, hif, hif1, hif2, hif3⟩ := infoN_parts
    have hbw := (Below.refl w.heap.size w).alloc (Nat.le_refl _) (.cells #[] 25)
    have hem := OwnN.empty w
    have hnd := hl.below hbw
    obtain ⟨n, hn'⟩ : ∃ n, n = l.length := ⟨_, rfl⟩
    have hn2 := hn'
    rw [← hn'] at hn ⊢
    have HN := Lib.hid hn'
    clear hn' hl
    go_enter Tryz.func78, Tryz.ntmps78
    go_wp2_with (at_builtin; refine wpList_pushNs rfl _ _ 28 rfl w.heap.size inf Tryz.underlying28 hif hif1 hif2 hif3 (.slice (some ⟨w.heap.size, 0, none⟩) 0 0) [] rfl hem w.heap.size (some a) l n c hn2.symm rfl hnd (by simp; omega) hbw.size ?_; intro v1 w1 ho hb)
    go_ret
    obtain ⟨A1, c1, rfl, -⟩ := ho.read
    exact ⟨A1, c1, rfl, ho, hbw.trans hb⟩

theorem srt_ins (l : List Nd) : Srt l (Go.Sort.insertionSort nlt l.toArray 0 l.length).toList := by
  have h := Go.Sort.insertionSort_holds (lt := nlt) nlt_swo l.toArray 0 l.length (Nat.zero_le _) (by simp)
  obtain ⟨⟨h1, _, h3⟩, h4⟩ := h
  generalize Go.Sort.insertionSort nlt l.toArray 0 l.length = Z at *
  have hz : Z.size = l.length := by simpa using h1
  have e1 : (Z.extract 0 l.length) = Z := by rw [← hz]; simp
  have e2 : (l.toArray.extract 0 l.length) = l.toArray := by simp
  rw [e1, e2] at h3
  refine ⟨by simpa using h3, List.pairwise_iff_getElem.2 fun i j hi hj hij => ?_⟩
  have hj' : j < Z.size := by simpa using hj
  have := h4 i j (Nat.zero_le _) hij (by omega)
  rw [getElem!_pos Z j hj', getElem!_pos Z i (by omega)] at this
  simpa using this
theorem swapper_k (inf : TypeInfo) (hif : Tryz.prog.info? 25 = some inf) (n : Nat) (h : 1 ≤ n) : Go.Lib.swapperK n inf 25 = if n = 1 then 2 else 9 := by
  have a : inf.hasPointers = true := by
    have h : (Tryz.prog.info? 25).map (·.hasPointers) = some true := by kernel_rfl
    rw [hif] at h
    exact Option.some.inj h
  have b : inf.bytes = 32 := by
    have h : (Tryz.prog.info? 25).map (·.bytes) = some 32 := by kernel_rfl
    rw [hif] at h
    exact Option.some.inj h
  have c : (n == 0) = false := by simp; omega
  by_cases d : n = 1
  · simp [Go.Lib.swapperK, d]
  · simp [Go.Lib.swapperK, a, b, c, d]

/-- What Sort gives. -/
def SrtP (l : List Nd) (w : World) (e : Ending) (w' : World) : Prop := ∃ s, Srt l s ∧ NdsP s w e w'
set_option maxRecDepth 100000 in
set_option maxHeartbeats 1600000 in
theorem sort_any (A : Option Addr) (l : List Nd) (c : Nat) (w : World) (hl : Nds w w.heap.size A l) (h0 : l ≠ []) (hn : l.length < 20) :
    Calls Tryz.prog 60 #[.slice A l.length c] w (SrtP l w) := by
  have HC := Lib.hid (clone_any A l c w hl (by omega))
  obtain ⟨n, hn'⟩ : ∃ n, n = l.length := ⟨_, rfl⟩
  have hn1 : 1 ≤ n := by
    rw [hn']
    cases l with
    | nil => exact absurd rfl h0
    | cons x l => simp
  have HS := Lib.hid (srt_ins l)
  rw [← hn'] at hn HC HS ⊢
  have HN := Lib.hid hn'
  clear hl hn'
  obtain ⟨inf, hif⟩ : ∃ i, Tryz.prog.info? 25 = some i := ⟨(Tryz.prog.info? 25).get (by kernel_rfl), by kernel_rfl⟩
  have hsk := swapper_k inf hif n hn1
  go_enter Tryz.func60, Tryz.ntmps60
  go_wp2_with fail
  refine (HC.out).mono ?_
  rintro e w1 ⟨A1, c1, rfl, ho, hb1⟩
  obtain ⟨g, cap, pad, e1, hgb, hg, hback⟩ := ho.row h0
  rw [← HN.out] at e1 ⊢
  injection e1 with e1 _ e2
  subst e1 e2
  have hgl := hg.lt
  have hX := Has.new w1 28 #[.slice (some ⟨g, 0, none⟩) n c1]
  have hb2 := hb1.alloc hb1.size (.cells #[.slice (some ⟨g, 0, none⟩) n c1] 28)
  have hg2 := hg.alloc (.cells #[.slice (some ⟨g, 0, none⟩) n c1] 28)
  have hl2 : (w1.alloc (.cells #[.slice (some ⟨g, 0, none⟩) n c1] 28)).heap.size = w1.heap.size + 1 := World.size_alloc _ _
  have x0 := hX.cell 0
  have HR : Hid (∀ (sf : Nat) (sb : Array Value), (∀ w1, SwapN sf sb w1 g pad n) → ∀ W, Below (w1.alloc (.cells #[.slice (some ⟨g, 0, none⟩) n c1] 28)).heap.size (w1.alloc (.cells #[.slice (some ⟨g, 0, none⟩) n c1] 28)) W →
      Calls Tryz.prog 92 #[.agg #[.func (.func 80) #[] #[.pointer (some ⟨w1.heap.size, 0, none⟩)], .func (.func sf) #[] sb], .int .i64 (n : Int)] W fun e W' => e = .returned (.tuple #[]) ∧ SRel (w1.alloc (.cells #[.slice (some ⟨g, 0, none⟩) n c1] 28)) g pad W' (Go.Sort.insertionSort nlt l.toArray 0 n)) := Lib.hid fun sf sb hsw W hbW => by
    refine (stable_func w1.heap.size g n c1 pad sf sb hsw l.toArray W (hg2.below hbW) (by simp [HN.out]) ((hbW.cell (p := ⟨w1.heap.size, 0, none⟩) (by rw [hl2]; exact Nat.lt_succ_self _)).trans x0) (by have := hbW.size; omega) (by omega) hn).mono ?_
    rintro e W' ⟨rfl, h⟩
    exact ⟨rfl, h.below_base hbW⟩
  have HSL : Hid (Calls Tryz.prog 79 #[.iface 28 (.slice (some ⟨g, 0, none⟩) n c1), .func (.func 80) #[] #[.pointer (some ⟨w1.heap.size, 0, none⟩)]] (w1.alloc (.cells #[.slice (some ⟨g, 0, none⟩) n c1] 28)) fun e W' => e = .returned (.tuple #[]) ∧ SRel (w1.alloc (.cells #[.slice (some ⟨g, 0, none⟩) n c1] 28)) g pad W' (Go.Sort.insertionSort nlt l.toArray 0 n)) := Lib.hid (by
    by_cases h1 : n = 1
    · rw [if_pos h1] at hsk
      refine slice_of _ n c1 99 inf hif (by rw [hsk]; kernel_rfl) _ #[] (by rw [hsk]; rfl) _ _ (HR.out _ _ ?_)
      intro w1 W d _ _ i j hi hj hij
      omega
    · rw [if_neg h1] at hsk
      exact slice_of _ n c1 106 inf hif (by rw [hsk]; kernel_rfl) _ _ (by rw [hsk]; rfl) _ _ (HR.out _ _ fun w1 => swapN))
  have HSZ : Hid ((Go.Sort.insertionSort nlt l.toArray 0 n).toList.length = n) := by
    have := HS.out.len
    rw [← HN.out] at this
    exact Lib.hid this
  generalize Go.Sort.insertionSort nlt l.toArray 0 n = Z at *
  have hgw : ∀ j, some g = some j → w.heap.size ≤ j := fun j e => by rw [← Option.some.inj e]; exact hgb
  have hBg : w1.heap.size ≠ g := by omega
  have HX := Lib.hid hX
  have HBK := Lib.hid hback
  clear hX HR hsk hback ho hg hg2 hb1
  go_wp2_with fail
  refine (HSL.out).mono ?_
  rintro e w3 ⟨rfl, hs⟩
  have y0 := (hs.aside HX.out hBg).cell 0
  go_wp2_with fail
  go_ret
  have ho3 := HBK.out w3 Z.toList (HSZ.out.trans HN.out) hs.2
  refine ⟨Z.toList, HS.out, some ⟨g, 0, none⟩, c1, ?_, ho3, hb2.grown hs.1 hb2.size hgw⟩
  rw [HSZ.out]
  rfl
end
end Go.Proofs.YtjokbdhineilcaaGreatDoor
