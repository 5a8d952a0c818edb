/-
  Find, Rank and Interval of package roster, for rosters of 1 to 19 nodes: what they answer. Condition: the nodes can be read.
  Owner and Without of package roster, for rosters of 1 to 19 nodes and lists of numbers: what they answer. Condition: the nodes and the numbers can be read.
  Without and Owner of package roster: what they answer. Conditions: the nodes and the numbers can be read; for Owner, a roster of 1 to 19 nodes.
  Find of both packages, Has and Without of the reference of chapter 5: what they answer. Conditions: the nodes and the numbers can be read.
-/
import Derived.Test.YtddcfiiahahkbaaDoorLgA
import Derived.Test.YtddcfiiahahkbaaDoorKfA
namespace Go.Proofs.YtddcfiiahahkbaaDoor
section
open Go.RowKit

def plcI (s : List Nd) (id : Int) : Int := if plc s id < s.length then (plc s id : Int) else -1
theorem plcI_no {s : List Nd} {id : Int} (h : ∀ j (h : j < s.length), s[j].id ≠ id) : plcI s id = -1 := by
  unfold plcI; rw [plc_none h, if_neg (Nat.lt_irrefl _)]
theorem plcI_yes {s : List Nd} {id : Int} {k : Nat} (hk : k < s.length) (h1 : s[k].id = id) (h2 : ∀ j (h : j < k), (s[j]'(by omega)).id ≠ id) : plcI s id = (k : Int) := by
  unfold plcI; rw [plc_uniq hk h1 h2, if_pos hk]

theorem ros_wide {l : List Nd} (h : chkV l = 0) : ∀ x ∈ l, x.word < 4294967296 := fun x hx => by
  have := List.all_eq_true.1 (chkV_zero.1 h).2.1 x hx
  simp [Nd.ok] at this
  omega
/-- What the call under Rank and Interval gives. -/
def RkP (l : List Nd) (id : Int) (w : World) (e : Ending) (w' : World) : Prop :=
  (plc (srt l) id < (srt l).length ∧ ∃ A c, e = .returned (.tuple #[.slice A (srt l).length c, .int .i64 (plc (srt l) id : Int), .bool true]) ∧ Nds w' w'.heap.size A (srt l) ∧ Below w.heap.size w w') ∨
  (¬ plc (srt l) id < (srt l).length ∧ e = .returned (.tuple #[.slice none 0 0, .int .i64 0, .bool false]) ∧ Below w.heap.size w w')

end
section
open Go.RowKit

theorem gt_kl (y key : ByteArray) : (!Op.bytesLess y.toList key.toList && !y.toList == key.toList) = kl key y := by
  show (!kl y key && !y.toList == key.toList) = kl key y
  cases h : kl y key
  · by_cases e : y = key
    · subst e
      simp [kl_irrefl]
    · have h1 : ¬ y.toList = key.toList := fun k => e (toList_inj k)
      cases k : kl key y
      · exact absurd (kl_tri h k) e
      · simp [h1]
  · simp [kl_asymm h]
/-- A function value that answers p at each index below n, in every world behind w. -/
def AskN (f : Nat) (lb : Array Value) (p : Nat → Bool) (n : Nat) (w : World) : Prop := ∀ W, Below w.heap.size w W → ∀ i : Nat, i < n → Calls Tryd.prog f (#[.int .i64 (i : Int)] ++ lb) W fun e W' => e = .returned (.bool (p i)) ∧ Below W.heap.size W W'

theorem Nd.ok_vk {x : Nd} (h : Nd.ok x = true) : x.key.size ≤ 64 := by
  simp [Nd.ok, vk] at h
  omega
/-- A slice of numbers below block B, as it is read. -/
def Ins (w : World) (B : Nat) (A : Option Addr) (l : List Int) : Prop :=
  l ≠ [] → ∃ b o, A = some ⟨b, o, none⟩ ∧ b < B ∧ ∀ i (h : i < l.length), (-9223372036854775808 ≤ l[i] ∧ l[i] ≤ 9223372036854775807) ∧ w.cell? ⟨b, o + i, none⟩ = some (.int .i64 l[i])
theorem Ins.keep {w w' : World} {B : Nat} {A : Option Addr} {l : List Int} (h : Ins w B A l) (k : ∀ i, i < B → w'.heap[i]? = w.heap[i]?) : Ins w' B A l := fun hn => by
  obtain ⟨b, o, e, hb, hc⟩ := h hn
  exact ⟨b, o, e, hb, fun i hi => ⟨(hc i hi).1, (World.cell?_of_block (k b hb)).trans (hc i hi).2⟩⟩
theorem Ins.more {w : World} {B B' : Nat} {A : Option Addr} {l : List Int} (h : Ins w B A l) (hB : B ≤ B') : Ins w B' A l := fun hn => by
  obtain ⟨b, o, e, hb, hc⟩ := h hn
  exact ⟨b, o, e, by omega, hc⟩
theorem Ins.at_ {w : World} {B : Nat} {A : Option Addr} {l : List Int} (h : Ins w B A l) {i : Nat} (hi : i < l.length) : ∃ b o, A = some ⟨b, o, none⟩ ∧ b < B ∧ (-9223372036854775808 ≤ l[i] ∧ l[i] ≤ 9223372036854775807) ∧ w.cell? ⟨b, o + i, none⟩ = some (.int .i64 l[i]) := by
  obtain ⟨b, o, e, hb, hc⟩ := h (by intro e; rw [e] at hi; simp at hi)
  exact ⟨b, o, e, hb, (hc i hi).1, (hc i hi).2⟩
theorem OwnN.low {w : World} {base base' : Nat} {v : Value} {l : List Nd} (h : OwnN w base v l) (hb : base' ≤ base) : OwnN w base' v l := by
  obtain ⟨h1, h2 | ⟨g, cap, cur, h3, h4, h5, h6⟩⟩ := h
  · exact ⟨h1, .inl h2⟩
  · exact ⟨h1, .inr ⟨g, cap, cur, h3, by omega, h5, h6⟩⟩
/-- What Without gives. -/
def wout (l : List Nd) (ids : List Int) : List Nd := l.filter fun x => !ids.contains x.id
theorem wout_yes {l : List Nd} {ids : List Int} {k : Nat} (hk : k < l.length) (h : l[k].id ∉ ids) : wout (l.take (k + 1)) ids = wout (l.take k) ids ++ [l[k]] := by
  unfold wout
  rw [List.take_succ_eq_append_getElem hk, List.filter_append]
  simp [h]
theorem wout_no {l : List Nd} {ids : List Int} {k : Nat} (hk : k < l.length) (h : l[k].id ∈ ids) : wout (l.take (k + 1)) ids = wout (l.take k) ids := by
  unfold wout
  rw [List.take_succ_eq_append_getElem hk, List.filter_append]
  simp [h]
def keysI (l : List Int) (z : Lit) : Prop := ∃ x ∈ l, z = .int .i64 x
theorem keysI_next {l : List Int} {k : Nat} (h : k < l.length) (z : Lit) : (z = .int .i64 l[k] ∨ keysI (l.take k) z) ↔ keysI (l.take (k + 1)) z := by
  unfold keysI
  rw [List.take_succ_eq_append_getElem h]
  simp only [List.mem_append, List.mem_singleton]
  constructor
  · rintro (h | ⟨x, hx, e⟩)
    · exact ⟨_, .inr rfl, h⟩
    · exact ⟨x, .inl hx, e⟩
  · rintro ⟨x, hx | rfl, e⟩
    · exact .inr ⟨x, hx, e⟩
    · exact .inl e
theorem keysI_mem {l : List Int} {x : Int} : keysI l (.int .i64 x) ↔ x ∈ l := by
  constructor
  · rintro ⟨y, hy, e⟩
    injection e with _ e
    rw [e]; exact hy
  · exact fun h => ⟨x, h, rfl⟩
end
section
open Go.RowKit Go.Maps

theorem ownsMap_block {H : Type} {P : Program} {w w' : World} {k : TypeId} {R : Value → Option (DataW H × List MemPlace)} {b n : Nat} {D : DataW H} (h : w.ownsMap P k R b n D) (e : w'.heap[b]? = w.heap[b]?) : w'.ownsMap P k R b n D := by
  obtain ⟨es, clock, hb, F, hs, hD⟩ := h
  exact ⟨es, clock, e.trans hb, F, hs, hD⟩

theorem ask_kl {s : List Nd} (hs : Asc s) (key : ByteArray) {i : Nat} (hi : i < s.length) : kl key s[i].key = decide (abv s key ≤ i) := by
  by_cases h : abv s key ≤ i
  · rw [abv_hi hs hi h]; simp [h]
  · rw [abv_lo (s := s) (key := key) (j := i) (by omega)]; simp [h]

end
section
open Go.RowKit

/-- The first node with a number. -/
def fndV (l : List Nd) (id : Int) : Nd := (l[plc l id]?).getD Nd.none
theorem fnd_yes {l : List Nd} {id : Int} {k : Nat} (hk : k < l.length) (h1 : l[k].id = id) (h2 : ∀ j (h : j < k), (l[j]'(by omega)).id ≠ id) : fndV l id = l[k] ∧ decide (plc l id < l.length) = true := by
  unfold fndV
  rw [plc_uniq hk h1 h2, List.getElem?_eq_getElem hk]
  exact ⟨rfl, by simpa using hk⟩
theorem fnd_no {l : List Nd} {id : Int} (h : ∀ j (h : j < l.length), l[j].id ≠ id) : fndV l id = Nd.none ∧ decide (plc l id < l.length) = false := by
  unfold fndV
  rw [plc_none h, List.getElem?_eq_none (Nat.le_refl _)]
  exact ⟨rfl, by simp⟩
/-- What Find gives. -/
def FndP (l : List Nd) (id : Int) (w : World) (e : Ending) (w' : World) : Prop := e = .returned (.tuple #[(fndV l id).val, .bool (decide (plc l id < l.length))]) ∧ Below w.heap.size w w'

set_option maxRecDepth 100000 in
set_option maxHeartbeats 1600000 in
theorem rfind_any (A : Option Addr) (l : List Nd) (c : Nat) (id : Int) (w : World) (hl : Nds w w.heap.size A l) (hn : l.length ≤ 100000) :
    Calls Tryd.prog 99 #[.slice A l.length c, .int .i64 id] w (FndP l id w) := by
  have hb0 := (Below.refl w.heap.size w).alloc (Nat.le_refl _) (.cells #[.int .i64 0, .string ⟨#[]⟩, .int .u32 0] 39)
  have hX := Has.new w 39 #[.int .i64 0, .string ⟨#[]⟩, .int .u32 0]
  have HX := Lib.hid hX
  have HB0 := Lib.hid hb0
  have HNO := Lib.hid (fnd_no (l := l) (id := id))
  have HYES := Lib.hid (fun (k : Nat) (hk : k < l.length) => fnd_yes (l := l) (id := id) hk)
  unfold FndP
  generalize fndV l id = V at *
  generalize decide (plc l id < l.length) = D at *
  clear hX hb0
  go_enter Tryd.func99, Tryd.ntmps99
  go_wp2_with fail
  generalize hw1 : (w.alloc (.cells #[.int .i64 0, .string ⟨#[]⟩, .int .u32 0] 39)) = w1 at *
  go_loopw [6] (fun i wr => ∃ k : Nat, k ≤ l.length ∧ i = .int .i64 (k : Int) ∧ w1 = wr ∧ Hid (∀ j (_ : j < k) (h : j < l.length), l[j].id ≠ id)) (fun i _ => l.length - (intOf i).toNat)
  case atStart => exact ⟨0, Nat.zero_le _, rfl, rfl, Lib.hid (fun j h => absurd h (by omega))⟩
  case round =>
    obtain ⟨k, hk, rfl, rfl, HK⟩ := hrel
    have x0 := HX.out.cell 0
    have x1 := HX.out.cell 1
    have x2 := HX.out.cell 2
    have z := fun o => HX.out.frozen o
    by_cases hlt : k < l.length
    · obtain ⟨b, o, hA2, hbl, f1, f2, f3⟩ := hl.at_ hlt
      subst hA2
      replace f1 := (HB0.out.cell (p := ⟨b, o + k * 3, none⟩) hbl).trans f1
      replace f2 := (HB0.out.cell (p := ⟨b, o + k * 3 + 1, none⟩) hbl).trans f2
      replace f3 := (HB0.out.cell (p := ⟨b, o + k * 3 + 2, none⟩) hbl).trans f3
      have HYK := Lib.hid (HYES.out k hlt)
      have HNK := Lib.hid (fun (h : l[k].id ≠ id) (j : Nat) (h1 : j < k + 1) (h2 : j < l.length) => (by
        by_cases e : j = k
        · subst e; exact h
        · exact HK.out j (by omega) h2 : l[j].id ≠ id))
      generalize l[k] = y at *
      obtain ⟨yi, yk, yw⟩ := y
      have i0 : (0 : Int) ≤ (k : Int) := by omega
      have i1 : (k : Int) < (l.length : Int) := by omega
      by_cases he : yi = id
      · subst he
        have HV := Lib.hid (HYK.out rfl fun j h => HK.out j h (by omega))
        have e1 : (yi == yi) = true := by simp
        clear HYK HNK HK HYES HNO
        go_wp2_with fail
        refine bodyPost_ret (v := .tuple #[.agg #[.int .i64 yi, .string yk, .int .u32 (yw : Int)], .bool true]) (by simp [results, Tryd.results99, go_sem, *]) rfl ⟨by rw [HV.out.1, HV.out.2], ?_⟩
        exact ((HB0.out.setCell (Nat.le_refl _) _).setCell (Nat.le_refl _) _).setCell (Nat.le_refl _) _
      · have HZ := Lib.hid (HNK.out he)
        have e1 : (yi == id) = false := by simpa using he
        clear HYK HNK HK
        go_wp2_with fail
        exact ⟨⟨k + 1, hlt, by go_num, trivial, HZ⟩, by simp [intOf]; omega⟩
    · have HV := Lib.hid (HNO.out fun j h => HK.out j (by omega) h)
      have i1 : ¬ (k : Int) < (l.length : Int) := by omega
      clear HK HYES HNO
      go_wp2_with fail
      refine bodyPost_ret (v := .tuple #[.agg #[.int .i64 0, .string ⟨#[]⟩, .int .u32 0], .bool false]) (by simp [results, Tryd.results99, go_sem, *]) rfl ⟨by rw [HV.out.1, HV.out.2]; rfl, ?_⟩
      exact ((HB0.out.setCell (Nat.le_refl _) _).setCell (Nat.le_refl _) _).setCell (Nat.le_refl _) _

end
end Go.Proofs.YtddcfiiahahkbaaDoor
