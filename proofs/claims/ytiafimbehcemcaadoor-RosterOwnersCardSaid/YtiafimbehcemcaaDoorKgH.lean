/-
  Owner and Without of package roster, for rosters of 1 to 19 nodes and lists of numbers: what they answer. Condition: the nodes and the numbers can be read.
-/
import Derived.Test.YtiafimbehcemcaaDoorKgG
namespace Go.Proofs.YtiafimbehcemcaaDoor
open Go.RowKit

theorem gt_kl (y key : ByteArray) : (!Op.bytesLess y.toList key.toList && !y.toList == key.toList) = kl key y := by
  show (!kl y key && !y.toList == key.toList) = kl key y
  cases h : kl y key
  · by_cases e : y = key
    · subst e
      simp [kl_irrefl]
    · have h1 : ¬ y.toList = key.toList := fun k => e (toList_inj k)
      cases k : kl key y
      · exact absurd (kl_tri h k) e
      · simp [h1]
  · simp [kl_asymm h]
set_option maxRecDepth 100000 in
set_option maxHeartbeats 800000 in
theorem gt_any (B C b o n cap i : Nat) (y key : ByteArray) (w : World) (hB : w.cell? ⟨B, 0, none⟩ = some (.slice (some ⟨b, o, none⟩) n cap)) (hC : w.cell? ⟨C, 0, none⟩ = some (.string key)) (hi : i < n) (hy : w.cell? ⟨b, o + i * 3 + 1, none⟩ = some (.string y)) :
    Calls Tryd.prog 115 #[.int .i64 (i : Int), .pointer (some ⟨B, 0, none⟩), .pointer (some ⟨C, 0, none⟩)] w fun e w' => e = .returned (.bool (kl key y)) ∧ Below w.heap.size w w' := by
  have i0 : (0 : Int) ≤ (i : Int) := by omega
  have i1 : (i : Int) < (n : Int) := by omega
  have hb := Below.refl w.heap.size w
  go_enter Tryd.func115, Tryd.ntmps115
  go_wp2_with fail
  go_quiet (fail)
  go_wp2_with fail
  go_ret
  exact ⟨ret_bool (gt_kl y key), ⟨hb.os, hb.tape, hb.output, hb.size, hb.block⟩⟩

/-- A function value that answers p at each index below n, in every world behind w. -/
def AskN (f : Nat) (lb : Array Value) (p : Nat → Bool) (n : Nat) (w : World) : Prop := ∀ W, Below w.heap.size w W → ∀ i : Nat, i < n → Calls Tryd.prog f (#[.int .i64 (i : Int)] ++ lb) W fun e W' => e = .returned (.bool (p i)) ∧ Below W.heap.size W W'

set_option maxRecDepth 100000 in
set_option maxHeartbeats 1600000 in
theorem search_any (p : Nat → Bool) (hm : ∀ i j, i ≤ j → p i = true → p j = true) (n : Nat) (hn : n ≤ 100000) (lb : Array Value) (w : World) (hA : AskN 115 lb p n w) :
    Calls Tryd.prog 114 #[.int .i64 (n : Int), .func (.func 115) #[] lb] w fun e w' => ∃ k : Nat, k ≤ n ∧ (∀ i, i < k → p i = false) ∧ (∀ i, k ≤ i → i < n → p i = true) ∧ e = .returned (.int .i64 (k : Int)) ∧ Below w.heap.size w w' := by
  have HA := Lib.hid hA
  have HM := Lib.hid hm
  clear hA hm
  go_enter Tryd.func114, Tryd.ntmps114
  go_wp2_with fail
  go_loopw [5, 6] (fun vi vj wr => ∃ i j : Nat, vi = .int .i64 (i : Int) ∧ vj = .int .i64 (j : Int) ∧ i ≤ j ∧ j ≤ n ∧ Hid (∀ t, t < i → p t = false) ∧ Hid (∀ t, j ≤ t → t < n → p t = true) ∧ Below w.heap.size w wr) (fun vi vj _ => (intOf vj).toNat - (intOf vi).toNat)
  case atStart => exact ⟨0, n, rfl, rfl, by omega, by omega, Lib.hid (fun t h => absurd h (by omega)), Lib.hid (fun t h1 h2 => absurd h1 (by omega)), Below.refl _ _⟩
  case round =>
    obtain ⟨i, j, rfl, rfl, hij, hjn, HL, HH, hb⟩ := hrel
    by_cases hlt : i < j
    · have hltz : (i : Int) < (j : Int) := by omega
      obtain ⟨h, hh⟩ : ∃ h, h = (i + j) / 2 := ⟨_, rfl⟩
      have h1 : i ≤ h := by omega
      have h2 : h < j := by omega
      have w1 : IntKind.i64.wrap ((i : Int) + (j : Int)) = (i : Int) + (j : Int) := IntWalk.i64_in _ (by omega)
      have hd : ((i : Int) + (j : Int)) / 2 = (h : Int) := by omega
      have HC := Lib.hid (HA.out wr hb h (by omega))
      have HD := Lib.hid hh
      clear hh
      cases hp : p h
      · have HZ : Hid (∀ t, t < h + 1 → p t = false) := Lib.hid fun t ht => by
          cases hq : p t
          · rfl
          · rw [HM.out t h (by omega) hq] at hp
            cases hp
        rw [hp] at HC
        clear hp
        go_wp2_with fail
        refine (HC.out).mono ?_
        rintro e w2 ⟨rfl, hb2⟩
        go_wp2_with fail
        exact ⟨⟨h + 1, j, by go_num, rfl, by omega, hjn, HZ, HH, hb.trans (hb2.mono hb.size)⟩, by simp [intOf]; omega⟩
      · have HZ : Hid (∀ t, h ≤ t → t < n → p t = true) := Lib.hid fun t ht _ => HM.out h t ht hp
        rw [hp] at HC
        clear hp
        go_wp2_with fail
        refine (HC.out).mono ?_
        rintro e w2 ⟨rfl, hb2⟩
        go_wp2_with fail
        exact ⟨⟨i, h, rfl, rfl, h1, by omega, HL, HZ, hb.trans (hb2.mono hb.size)⟩, by simp [intOf]; omega⟩
    · have e : i = j := by omega
      subst e
      go_wp2_with fail
      go_ret
      exact ⟨i, hjn, HL.out, HH.out, rfl, hb⟩

theorem Nd.ok_vk {x : Nd} (h : Nd.ok x = true) : x.key.size ≤ 64 := by
  simp [Nd.ok, vk] at h
  omega
/-- A slice of numbers below block B, as it is read. -/
def Ins (w : World) (B : Nat) (A : Option Addr) (l : List Int) : Prop :=
  l ≠ [] → ∃ b o, A = some ⟨b, o, none⟩ ∧ b < B ∧ ∀ i (h : i < l.length), (-9223372036854775808 ≤ l[i] ∧ l[i] ≤ 9223372036854775807) ∧ w.cell? ⟨b, o + i, none⟩ = some (.int .i64 l[i])
theorem Ins.keep {w w' : World} {B : Nat} {A : Option Addr} {l : List Int} (h : Ins w B A l) (k : ∀ i, i < B → w'.heap[i]? = w.heap[i]?) : Ins w' B A l := fun hn => by
  obtain ⟨b, o, e, hb, hc⟩ := h hn
  exact ⟨b, o, e, hb, fun i hi => ⟨(hc i hi).1, (World.cell?_of_block (k b hb)).trans (hc i hi).2⟩⟩
theorem Ins.more {w : World} {B B' : Nat} {A : Option Addr} {l : List Int} (h : Ins w B A l) (hB : B ≤ B') : Ins w B' A l := fun hn => by
  obtain ⟨b, o, e, hb, hc⟩ := h hn
  exact ⟨b, o, e, by omega, hc⟩
theorem Ins.at_ {w : World} {B : Nat} {A : Option Addr} {l : List Int} (h : Ins w B A l) {i : Nat} (hi : i < l.length) : ∃ b o, A = some ⟨b, o, none⟩ ∧ b < B ∧ (-9223372036854775808 ≤ l[i] ∧ l[i] ≤ 9223372036854775807) ∧ w.cell? ⟨b, o + i, none⟩ = some (.int .i64 l[i]) := by
  obtain ⟨b, o, e, hb, hc⟩ := h (by intro e; rw [e] at hi; simp at hi)
  exact ⟨b, o, e, hb, (hc i hi).1, (hc i hi).2⟩
theorem OwnN.low {w : World} {base base' : Nat} {v : Value} {l : List Nd} (h : OwnN w base v l) (hb : base' ≤ base) : OwnN w base' v l := by
  obtain ⟨h1, h2 | ⟨g, cap, cur, h3, h4, h5, h6⟩⟩ := h
  · exact ⟨h1, .inl h2⟩
  · exact ⟨h1, .inr ⟨g, cap, cur, h3, by omega, h5, h6⟩⟩
/-- What Without gives. -/
def wout (l : List Nd) (ids : List Int) : List Nd := l.filter fun x => !ids.contains x.id
theorem wout_yes {l : List Nd} {ids : List Int} {k : Nat} (hk : k < l.length) (h : l[k].id ∉ ids) : wout (l.take (k + 1)) ids = wout (l.take k) ids ++ [l[k]] := by
  unfold wout
  rw [List.take_succ_eq_append_getElem hk, List.filter_append]
  simp [h]
theorem wout_no {l : List Nd} {ids : List Int} {k : Nat} (hk : k < l.length) (h : l[k].id ∈ ids) : wout (l.take (k + 1)) ids = wout (l.take k) ids := by
  unfold wout
  rw [List.take_succ_eq_append_getElem hk, List.filter_append]
  simp [h]
def keysI (l : List Int) (z : Lit) : Prop := ∃ x ∈ l, z = .int .i64 x
theorem keysI_next {l : List Int} {k : Nat} (h : k < l.length) (z : Lit) : (z = .int .i64 l[k] ∨ keysI (l.take k) z) ↔ keysI (l.take (k + 1)) z := by
  unfold keysI
  rw [List.take_succ_eq_append_getElem h]
  simp only [List.mem_append, List.mem_singleton]
  constructor
  · rintro (h | ⟨x, hx, e⟩)
    · exact ⟨_, .inr rfl, h⟩
    · exact ⟨x, .inl hx, e⟩
  · rintro ⟨x, hx | rfl, e⟩
    · exact .inr ⟨x, hx, e⟩
    · exact .inl e
theorem keysI_mem {l : List Int} {x : Int} : keysI l (.int .i64 x) ↔ x ∈ l := by
  constructor
  · rintro ⟨y, hy, e⟩
    injection e with _ e
    rw [e]; exact hy
  · exact fun h => ⟨x, h, rfl⟩
end Go.Proofs.YtiafimbehcemcaaDoor
