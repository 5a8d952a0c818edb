/-
  Find, Rank and Interval of package roster, for rosters of 1 to 19 nodes: what they answer. Condition: the nodes can be read.
  Owner and Without of package roster, for rosters of 1 to 19 nodes and lists of numbers: what they answer. Condition: the nodes and the numbers can be read.
  Without and Owner of package roster: what they answer. Conditions: the nodes and the numbers can be read; for Owner, a roster of 1 to 19 nodes.
  Find of both packages, Has and Without of the reference of chapter 5: what they answer. Conditions: the nodes and the numbers can be read.
-/
import Derived.Test.YtdeamjimjcojhaaDoorLgA
import Derived.Test.YtdeamjimjcojhaaDoorKfA
namespace Go.Proofs.YtdeamjimjcojhaaDoor
section
open Go.RowKit

set_option maxRecDepth 100000 in
set_option maxHeartbeats 800000 in
theorem lit_any (x : Nd) (id : Int) (B : Nat) (w : World) (hB : w.cell? ⟨B, 0, none⟩ = some (.int .i64 id)) (hl : B < w.heap.size) :
    Calls Tryd.prog 84 #[.agg #[.int .i64 x.id, .string x.key, .int .u32 (x.word : Int)], .pointer (some ⟨B, 0, none⟩)] w fun e w' => e = .returned (.bool (x.id == id)) ∧ Below w.heap.size w w' := by
  have hX := Has.new w 51 #[.int .i64 x.id, .string x.key, .int .u32 (x.word : Int)]
  have x0 := hX.cell 0
  have hb := (Below.refl w.heap.size w).alloc (Nat.le_refl _) (.cells #[.int .i64 x.id, .string x.key, .int .u32 (x.word : Int)] 51)
  have hB' := (hb.cell (p := ⟨B, 0, none⟩) hl).trans hB
  clear hX hB
  go_enter Tryd.func84, Tryd.ntmps84
  go_wp2_with fail
  go_ret
  exact ⟨rfl, hb⟩

def plcI (s : List Nd) (id : Int) : Int := if plc s id < s.length then (plc s id : Int) else -1
theorem plcI_no {s : List Nd} {id : Int} (h : ∀ j (h : j < s.length), s[j].id ≠ id) : plcI s id = -1 := by
  unfold plcI; rw [plc_none h, if_neg (Nat.lt_irrefl _)]
theorem plcI_yes {s : List Nd} {id : Int} {k : Nat} (hk : k < s.length) (h1 : s[k].id = id) (h2 : ∀ j (h : j < k), (s[j]'(by omega)).id ≠ id) : plcI s id = (k : Int) := by
  unfold plcI; rw [plc_uniq hk h1 h2, if_pos hk]

set_option maxRecDepth 100000 in
set_option maxHeartbeats 1600000 in
theorem idx_any (A : Option Addr) (l : List Nd) (c : Nat) (id : Int) (B : Nat) (w : World) (hl : Nds w w.heap.size A l) (hn : l.length ≤ 100000) (hB : w.cell? ⟨B, 0, none⟩ = some (.int .i64 id)) (hBl : B < w.heap.size) :
    Calls Tryd.prog 83 #[.slice A l.length c, .func (.func 84) #[] #[.pointer (some ⟨B, 0, none⟩)]] w fun e w' => e = .returned (.int .i64 (plcI l id)) ∧ Below w.heap.size w w' := by
  have HN := Lib.hid (plcI_no (s := l) (id := id))
  have HY := Lib.hid (fun (k : Nat) (hk : k < l.length) => plcI_yes (s := l) (id := id) hk)
  generalize plcI l id = Z at *
  go_enter Tryd.func83, Tryd.ntmps83
  go_wp2_with fail
  go_loopw [8] (fun i wr => ∃ k : Nat, k ≤ l.length ∧ i = .int .i64 (k : Int) ∧ Below w.heap.size w wr ∧ Hid (∀ j (_ : j < k) (h : j < l.length), l[j].id ≠ id)) (fun i _ => l.length - (intOf i).toNat)
  case atStart => exact ⟨0, Nat.zero_le _, rfl, Below.refl _ _, Lib.hid (fun j h => absurd h (by omega))⟩
  case round =>
    obtain ⟨k, hk, rfl, hb, HK⟩ := hrel
    by_cases hlt : k < l.length
    · obtain ⟨b, o, hA2, hbl, f1, f2, f3⟩ := hl.at_ hlt
      subst hA2
      replace f1 := (hb.cell (p := ⟨b, o + k * 3, none⟩) hbl).trans f1
      replace f2 := (hb.cell (p := ⟨b, o + k * 3 + 1, none⟩) hbl).trans f2
      replace f3 := (hb.cell (p := ⟨b, o + k * 3 + 2, none⟩) hbl).trans f3
      have HLK := Lib.hid (HY.out k hlt)
      have HNK := Lib.hid (fun (h : l[k].id ≠ id) (j : Nat) (h1 : j < k + 1) (h2 : j < l.length) => (by
        by_cases e : j = k
        · subst e; exact h
        · exact HK.out j (by omega) h2 : l[j].id ≠ id))
      have HL := Lib.hid (lit_any l[k] id B wr ((hb.cell (p := ⟨B, 0, none⟩) hBl).trans hB) (Nat.lt_of_lt_of_le hBl hb.size))
      generalize l[k] = y at *
      obtain ⟨yi, yk, yw⟩ := y
      have i0 : (0 : Int) ≤ (k : Int) := by omega
      have i1 : (k : Int) < (l.length : Int) := by omega
      by_cases he : yi = id
      · subst he
        have HZ := Lib.hid (HLK.out rfl fun j h => HK.out j h (by omega))
        have e1 : (yi == yi) = true := by simp
        simp only [e1] at HL
        clear HNK HLK HK HN HY e1
        go_wp2_with fail
        refine (HL.out).mono ?_
        rintro e w2 ⟨rfl, hb2⟩
        go_wp2_with fail
        go_ret
        exact ⟨ret_int HZ.out.symm, hb.trans (hb2.mono hb.size)⟩
      · have HZ := Lib.hid (HNK.out he)
        have e1 : (yi == id) = false := by simpa using he
        simp only [e1] at HL
        clear HNK HLK HK HY e1
        go_wp2_with fail
        refine (HL.out).mono ?_
        rintro e w2 ⟨rfl, hb2⟩
        go_wp2_with fail
        exact ⟨⟨k + 1, hlt, by go_num, hb.trans (hb2.mono hb.size), HZ⟩, by simp [intOf]; omega⟩
    · have HZ := Lib.hid (HN.out fun j h => HK.out j (by omega) h)
      clear HN HY HK
      go_wp2_with fail
      go_ret
      exact ⟨ret_int HZ.out.symm, hb⟩

set_option maxRecDepth 100000 in
set_option maxHeartbeats 800000 in
theorem place_any (A : Option Addr) (l : List Nd) (c : Nat) (id : Int) (w : World) (hl : Nds w w.heap.size A l) (hn : l.length ≤ 100000) :
    Calls Tryd.prog 61 #[.slice A l.length c, .int .i64 id] w fun e w' => e = .returned (.int .i64 (plcI l id)) ∧ Below w.heap.size w w' := by
  have hb := (Below.refl w.heap.size w).alloc (Nat.le_refl _) (.cells #[.int .i64 id] 3)
  have hX := Has.new w 3 #[.int .i64 id]
  have H := Lib.hid (idx_any A l c id w.heap.size _ ((hl.below hb).more hb.size) hn (hX.cell 0) hX.lt)
  clear hX
  go_enter Tryd.func61, Tryd.ntmps61
  go_wp2_with fail
  refine (H.out).mono ?_
  rintro e w2 ⟨rfl, hb2⟩
  go_wp2_with fail
  go_ret
  exact ⟨rfl, hb.trans (hb2.mono hb.size)⟩

theorem ros_wide {l : List Nd} (h : chkV l = 0) : ∀ x ∈ l, x.word < 4294967296 := fun x hx => by
  have := List.all_eq_true.1 (chkV_zero.1 h).2.1 x hx
  simp [Nd.ok] at this
  omega
/-- What the call under Rank and Interval gives. -/
def RkP (l : List Nd) (id : Int) (w : World) (e : Ending) (w' : World) : Prop :=
  (plc (srt l) id < (srt l).length ∧ ∃ A c, e = .returned (.tuple #[.slice A (srt l).length c, .int .i64 (plc (srt l) id : Int), .bool true]) ∧ Nds w' w'.heap.size A (srt l) ∧ Below w.heap.size w w') ∨
  (¬ plc (srt l) id < (srt l).length ∧ e = .returned (.tuple #[.slice none 0 0, .int .i64 0, .bool false]) ∧ Below w.heap.size w w')

set_option maxRecDepth 100000 in
set_option maxHeartbeats 1600000 in
theorem ranked_any (A : Option Addr) (l : List Nd) (c : Nat) (id : Int) (w : World) (hl : Nds w w.heap.size A l) (h0 : l ≠ []) (hn : l.length < 20) (hchk : chkV l = 0) :
    Calls Tryd.prog 62 #[.slice A l.length c, .int .i64 id] w (RkP l id w) := by
  have HC := Lib.hid ((check_any A l c w hl (ros_wide hchk)).mono fun e w' h => (⟨by rw [h.1, hchk], h.2⟩ : e = .returned (.int .i64 0) ∧ Below w.heap.size w w'))
  have HS := Lib.hid (fun (w1 : World) (k : Below w.heap.size w w1) => sort_any A l c w1 ((hl.below k).more k.size) h0 hn)
  have HA := (chkV_zero.1 hchk).2.2
  have hsl : (srt l).length < 20 := by rw [(srt_srt l).len]; exact hn
  have HE : Hid (∀ s, Srt l s → s = srt l) := Lib.hid fun s h => srt_of h HA
  unfold RkP
  generalize srt l = S at *
  clear hl h0 hchk HA
  go_enter Tryd.func62, Tryd.ntmps62
  go_wp2_with fail
  refine (HC.out).mono ?_
  rintro e w1 ⟨rfl, hb1⟩
  go_wp2_with fail
  refine (HS.out w1 hb1).mono ?_
  rintro e w2 ⟨s, hs, A2, c2, rfl, ho, hb2⟩
  obtain rfl := HE.out s hs
  obtain ⟨_, _, er, hr⟩ := ho.read
  injection er with e1 _ e2
  subst e1 e2
  have B2 := hb1.trans (hb2.mono hb1.size)
  have HP := Lib.hid (place_any A2 s c2 id w2 hr (by omega))
  clear HS HC HE ho hb1 hb2 hs
  by_cases hf : plc s id < s.length
  · have hz : plcI s id = (plc s id : Int) := if_pos hf
    rw [hz] at HP
    obtain ⟨k, hk⟩ : ∃ k, k = plc s id := ⟨_, rfl⟩
    rw [← hk] at HP hf
    have HK := Lib.hid hk
    clear hz hk
    have k0 : ¬ (k : Int) < 0 := by omega
    go_wp2_with fail
    refine (HP.out).mono ?_
    rintro e w3 ⟨rfl, hb3⟩
    have hr3 := (hr.below hb3).more hb3.size
    have B3 := B2.trans (hb3.mono B2.size)
    go_wp2_with fail
    go_ret3
    exact .inl ⟨by rw [← HK.out]; exact hf, A2, c2, by rw [← HK.out]; rfl, hr3, B3⟩
  · have hz : plcI s id = -1 := if_neg hf
    rw [hz] at HP
    clear hz
    go_wp2_with fail
    refine (HP.out).mono ?_
    rintro e w3 ⟨rfl, hb3⟩
    have B3 := B2.trans (hb3.mono B2.size)
    go_wp2_with fail
    go_ret3
    exact .inr ⟨hf, rfl, B3⟩

set_option maxRecDepth 100000 in
set_option maxHeartbeats 1600000 in
theorem rank_any (A : Option Addr) (l : List Nd) (c : Nat) (id : Int) (w : World) (hl : Nds w w.heap.size A l) (h0 : l ≠ []) (hn : l.length < 20) (hchk : chkV l = 0) :
    Calls Tryd.prog 35 #[.slice A l.length c, .int .i64 id] w fun e w' => e = .returned (.tuple #[.int .i64 (rnkV (srt l) id : Int), .bool (decide (plc (srt l) id < (srt l).length))]) ∧ Below w.heap.size w w' := by
  have HR := Lib.hid (ranked_any A l c id w hl h0 hn hchk)
  have HV : Hid (rnkV (srt l) id = if plc (srt l) id < (srt l).length then plc (srt l) id else 0) := Lib.hid rfl
  generalize rnkV (srt l) id = V at *
  obtain ⟨D, hD⟩ : ∃ D, D = decide (plc (srt l) id < (srt l).length) := ⟨_, rfl⟩
  rw [← hD]
  have HD := Lib.hid hD
  clear hD
  go_enter Tryd.func35, Tryd.ntmps35
  go_wp2_with fail
  refine (HR.out).mono ?_
  rintro e w1 (⟨hf, A1, c1, rfl, hr, hb⟩ | ⟨hf, rfl, hb⟩)
  · have e1 : V = plc (srt l) id := by rw [HV.out, if_pos hf]
    have e2 : D = true := by rw [HD.out]; simpa using hf
    subst e1 e2
    clear hr hf HV HD
    go_wp2_with fail
    go_ret2
    exact ⟨rfl, hb⟩
  · have e1 : V = 0 := by rw [HV.out, if_neg hf]
    have e2 : D = false := by rw [HD.out]; simpa using hf
    subst e1 e2
    clear hf HV HD
    go_wp2_with fail
    go_ret2
    exact ⟨rfl, hb⟩

end
section
open Go.RowKit

theorem gt_kl (y key : ByteArray) : (!Op.bytesLess y.toList key.toList && !y.toList == key.toList) = kl key y := by
  show (!kl y key && !y.toList == key.toList) = kl key y
  cases h : kl y key
  · by_cases e : y = key
    · subst e
      simp [kl_irrefl]
    · have h1 : ¬ y.toList = key.toList := fun k => e (toList_inj k)
      cases k : kl key y
      · exact absurd (kl_tri h k) e
      · simp [h1]
  · simp [kl_asymm h]
set_option maxRecDepth 100000 in
set_option maxHeartbeats 800000 in
theorem gt_any (B C b o n cap i : Nat) (y key : ByteArray) (w : World) (hB : w.cell? ⟨B, 0, none⟩ = some (.slice (some ⟨b, o, none⟩) n cap)) (hC : w.cell? ⟨C, 0, none⟩ = some (.string key)) (hi : i < n) (hy : w.cell? ⟨b, o + i * 3 + 1, none⟩ = some (.string y)) :
    Calls Tryd.prog 60 #[.int .i64 (i : Int), .pointer (some ⟨B, 0, none⟩), .pointer (some ⟨C, 0, none⟩)] w fun e w' => e = .returned (.bool (kl key y)) ∧ Below w.heap.size w w' := by
  have i0 : (0 : Int) ≤ (i : Int) := by omega
  have i1 : (i : Int) < (n : Int) := by omega
  have hb := Below.refl w.heap.size w
  go_enter Tryd.func60, Tryd.ntmps60
  go_wp2_with fail
  go_quiet (fail)
  go_wp2_with fail
  go_ret
  exact ⟨ret_bool (gt_kl y key), ⟨hb.os, hb.tape, hb.output, hb.size, hb.block⟩⟩

/-- A function value that answers p at each index below n, in every world behind w. -/
def AskN (f : Nat) (lb : Array Value) (p : Nat → Bool) (n : Nat) (w : World) : Prop := ∀ W, Below w.heap.size w W → ∀ i : Nat, i < n → Calls Tryd.prog f (#[.int .i64 (i : Int)] ++ lb) W fun e W' => e = .returned (.bool (p i)) ∧ Below W.heap.size W W'

set_option maxRecDepth 100000 in
set_option maxHeartbeats 1600000 in
theorem search_any (p : Nat → Bool) (hm : ∀ i j, i ≤ j → p i = true → p j = true) (n : Nat) (hn : n ≤ 100000) (lb : Array Value) (w : World) (hA : AskN 60 lb p n w) :
    Calls Tryd.prog 59 #[.int .i64 (n : Int), .func (.func 60) #[] lb] w fun e w' => ∃ k : Nat, k ≤ n ∧ (∀ i, i < k → p i = false) ∧ (∀ i, k ≤ i → i < n → p i = true) ∧ e = .returned (.int .i64 (k : Int)) ∧ Below w.heap.size w w' := by
  have HA := Lib.hid hA
  have HM := Lib.hid hm
  clear hA hm
  go_enter Tryd.func59, Tryd.ntmps59
  go_wp2_with fail
  go_loopw [5, 6] (fun vi vj wr => ∃ i j : Nat, vi = .int .i64 (i : Int) ∧ vj = .int .i64 (j : Int) ∧ i ≤ j ∧ j ≤ n ∧ Hid (∀ t, t < i → p t = false) ∧ Hid (∀ t, j ≤ t → t < n → p t = true) ∧ Below w.heap.size w wr) (fun vi vj _ => (intOf vj).toNat - (intOf vi).toNat)
  case atStart => exact ⟨0, n, rfl, rfl, by omega, by omega, Lib.hid (fun t h => absurd h (by omega)), Lib.hid (fun t h1 h2 => absurd h1 (by omega)), Below.refl _ _⟩
  case round =>
    obtain ⟨i, j, rfl, rfl, hij, hjn, HL, HH, hb⟩ := hrel
    by_cases hlt : i < j
    · have hltz : (i : Int) < (j : Int) := by omega
      obtain ⟨h, hh⟩ : ∃ h, h = (i + j) / 2 := ⟨_, rfl⟩
      have h1 : i ≤ h := by omega
      have h2 : h < j := by omega
      have w1 : IntKind.i64.wrap ((i : Int) + (j : Int)) = (i : Int) + (j : Int) := IntWalk.i64_in _ (by omega)
      have hd : ((i : Int) + (j : Int)) / 2 = (h : Int) := by omega
      have HC := Lib.hid (HA.out wr hb h (by omega))
      have HD := Lib.hid hh
      clear hh
      cases hp : p h
      · have HZ : Hid (∀ t, t < h + 1 → p t = false) := Lib.hid fun t ht => by
          cases hq : p t
          · rfl
          · rw [HM.out t h (by omega) hq] at hp
            cases hp
        rw [hp] at HC
        clear hp
        go_wp2_with fail
        refine (HC.out).mono ?_
        rintro e w2 ⟨rfl, hb2⟩
        go_wp2_with fail
        exact ⟨⟨h + 1, j, by go_num, rfl, by omega, hjn, HZ, HH, hb.trans (hb2.mono hb.size)⟩, by simp [intOf]; omega⟩
      · have HZ : Hid (∀ t, h ≤ t → t < n → p t = true) := Lib.hid fun t ht _ => HM.out h t ht hp
        rw [hp] at HC
        clear hp
        go_wp2_with fail
        refine (HC.out).mono ?_
        rintro e w2 ⟨rfl, hb2⟩
        go_wp2_with fail
        exact ⟨⟨i, h, rfl, rfl, h1, by omega, HL, HZ, hb.trans (hb2.mono hb.size)⟩, by simp [intOf]; omega⟩
    · have e : i = j := by omega
      subst e
      go_wp2_with fail
      go_ret
      exact ⟨i, hjn, HL.out, HH.out, rfl, hb⟩

theorem Nd.ok_vk {x : Nd} (h : Nd.ok x = true) : x.key.size ≤ 64 := by
  simp [Nd.ok, vk] at h
  omega
/-- A slice of numbers below block B, as it is read. -/
def Ins (w : World) (B : Nat) (A : Option Addr) (l : List Int) : Prop :=
  l ≠ [] → ∃ b o, A = some ⟨b, o, none⟩ ∧ b < B ∧ ∀ i (h : i < l.length), (-9223372036854775808 ≤ l[i] ∧ l[i] ≤ 9223372036854775807) ∧ w.cell? ⟨b, o + i, none⟩ = some (.int .i64 l[i])
theorem Ins.keep {w w' : World} {B : Nat} {A : Option Addr} {l : List Int} (h : Ins w B A l) (k : ∀ i, i < B → w'.heap[i]? = w.heap[i]?) : Ins w' B A l := fun hn => by
  obtain ⟨b, o, e, hb, hc⟩ := h hn
  exact ⟨b, o, e, hb, fun i hi => ⟨(hc i hi).1, (World.cell?_of_block (k b hb)).trans (hc i hi).2⟩⟩
theorem Ins.more {w : World} {B B' : Nat} {A : Option Addr} {l : List Int} (h : Ins w B A l) (hB : B ≤ B') : Ins w B' A l := fun hn => by
  obtain ⟨b, o, e, hb, hc⟩ := h hn
  exact ⟨b, o, e, by omega, hc⟩
theorem Ins.at_ {w : World} {B : Nat} {A : Option Addr} {l : List Int} (h : Ins w B A l) {i : Nat} (hi : i < l.length) : ∃ b o, A = some ⟨b, o, none⟩ ∧ b < B ∧ (-9223372036854775808 ≤ l[i] ∧ l[i] ≤ 9223372036854775807) ∧ w.cell? ⟨b, o + i, none⟩ = some (.int .i64 l[i]) := by
  obtain ⟨b, o, e, hb, hc⟩ := h (by intro e; rw [e] at hi; simp at hi)
  exact ⟨b, o, e, hb, (hc i hi).1, (hc i hi).2⟩
theorem OwnN.low {w : World} {base base' : Nat} {v : Value} {l : List Nd} (h : OwnN w base v l) (hb : base' ≤ base) : OwnN w base' v l := by
  obtain ⟨h1, h2 | ⟨g, cap, cur, h3, h4, h5, h6⟩⟩ := h
  · exact ⟨h1, .inl h2⟩
  · exact ⟨h1, .inr ⟨g, cap, cur, h3, by omega, h5, h6⟩⟩
/-- What Without gives. -/
def wout (l : List Nd) (ids : List Int) : List Nd := l.filter fun x => !ids.contains x.id
theorem wout_yes {l : List Nd} {ids : List Int} {k : Nat} (hk : k < l.length) (h : l[k].id ∉ ids) : wout (l.take (k + 1)) ids = wout (l.take k) ids ++ [l[k]] := by
  unfold wout
  rw [List.take_succ_eq_append_getElem hk, List.filter_append]
  simp [h]
theorem wout_no {l : List Nd} {ids : List Int} {k : Nat} (hk : k < l.length) (h : l[k].id ∈ ids) : wout (l.take (k + 1)) ids = wout (l.take k) ids := by
  unfold wout
  rw [List.take_succ_eq_append_getElem hk, List.filter_append]
  simp [h]
def keysI (l : List Int) (z : Lit) : Prop := ∃ x ∈ l, z = .int .i64 x
theorem keysI_next {l : List Int} {k : Nat} (h : k < l.length) (z : Lit) : (z = .int .i64 l[k] ∨ keysI (l.take k) z) ↔ keysI (l.take (k + 1)) z := by
  unfold keysI
  rw [List.take_succ_eq_append_getElem h]
  simp only [List.mem_append, List.mem_singleton]
  constructor
  · rintro (h | ⟨x, hx, e⟩)
    · exact ⟨_, .inr rfl, h⟩
    · exact ⟨x, .inl hx, e⟩
  · rintro ⟨x, hx | rfl, e⟩
    · exact .inr ⟨x, hx, e⟩
    · exact .inl e
theorem keysI_mem {l : List Int} {x : Int} : keysI l (.int .i64 x) ↔ x ∈ l := by
  constructor
  · rintro ⟨y, hy, e⟩
    injection e with _ e
    rw [e]; exact hy
  · exact fun h => ⟨x, h, rfl⟩
end
section
open Go.RowKit Go.Maps

theorem ownsMap_block {H : Type} {P : Program} {w w' : World} {k : TypeId} {R : Value → Option (DataW H × List MemPlace)} {b n : Nat} {D : DataW H} (h : w.ownsMap P k R b n D) (e : w'.heap[b]? = w.heap[b]?) : w'.ownsMap P k R b n D := by
  obtain ⟨es, clock, hb, F, hs, hD⟩ := h
  exact ⟨es, clock, e.trans hb, F, hs, hD⟩

theorem ask_kl {s : List Nd} (hs : Asc s) (key : ByteArray) {i : Nat} (hi : i < s.length) : kl key s[i].key = decide (abv s key ≤ i) := by
  by_cases h : abv s key ≤ i
  · rw [abv_hi hs hi h]; simp [h]
  · rw [abv_lo (s := s) (key := key) (j := i) (by omega)]; simp [h]

set_option maxRecDepth 100000 in
set_option maxHeartbeats 1600000 in
theorem owner_yes (A : Option Addr) (l : List Nd) (c : Nat) (key : ByteArray) (w : World) (hl : Nds w w.heap.size A l) (h0 : l ≠ []) (hn : l.length < 20) (hchk : chkV l = 0) (hk : vk key = true) :
    Calls Tryd.prog 32 #[.slice A l.length c, .string key] w fun e w' => e = .returned (.tuple #[(ownV (srt l) key).val, .bool true]) ∧ Below w.heap.size w w' := by
  have hbC := (Below.refl w.heap.size w).alloc (Nat.le_refl _) (.cells #[.string key] 9)
  have hb0 := hbC.alloc hbC.size (.cells #[.int .i64 0, .string ByteArray.empty, .int .u32 0] 51)
  have hX := Has.new (w.alloc (.cells #[.string key] 9)) 51 #[.int .i64 0, .string ByteArray.empty, .int .u32 0]
  rw [World.size_alloc] at hX
  have hC := (Has.new w 9 #[.string key]).alloc (.cells #[.int .i64 0, .string ByteArray.empty, .int .u32 0] 51)
  have hC0 := hC.cell 0
  have HC := Lib.hid ((check_any A l c _ ((hl.below hb0).more hb0.size) (ros_wide hchk)).mono fun e w' h => (⟨by rw [h.1, hchk], h.2⟩ : e = .returned (.int .i64 0) ∧ Below _ _ w'))
  have HS := Lib.hid (fun (w1 : World) (k : Below w.heap.size w w1) => sort_any A l c w1 ((hl.below k).more k.size) h0 hn)
  have HV := Lib.hid (fun w1 => (vk_key key w1).mono fun e w' h => (⟨by rw [h.1, hk], h.2⟩ : e = .returned (.bool true) ∧ w1 = w'))
  have hR := ros_of hchk
  have HE : Hid (∀ s, Srt l s → s = srt l) := Lib.hid fun s h => srt_of h (chkV_zero.1 hchk).2.2
  have hsl : (srt l).length = l.length := (srt_srt l).len
  have hl1 : 1 ≤ l.length := by
    cases l with
    | nil => exact absurd rfl h0
    | cons x l => simp
  have hl0 : ((l.length : Int) == 0) = false := by simp; omega
  have hs20 : (srt l).length < 20 := by omega
  have hs1 : 1 ≤ (srt l).length := by omega
  clear hsl
  have HA := Lib.hid hR.asc
  have HX := Lib.hid hX
  have HCB := Lib.hid hC
  have HB0 := Lib.hid hb0
  obtain ⟨V, hV⟩ : ∃ V, V = ownV (srt l) key := ⟨_, rfl⟩
  rw [← hV]
  have HVV := Lib.hid hV
  clear hV hX hC hbC hR hchk hl h0
  generalize srt l = S at *
  go_enter Tryd.func32, Tryd.ntmps32
  go_wp2_with fail
  refine (HC.out).mono ?_
  rintro e w1 ⟨rfl, hb1⟩
  have c1 := (HCB.out.below hb1).cell 0
  go_wp2_with fail
  refine (HV.out _).mono ?_
  rintro e w' ⟨rfl, rfl⟩
  go_wp2_with fail
  have B1 := HB0.out.trans (hb1.mono HB0.out.size)
  have X1 := HX.out.below hb1
  have K1 := HCB.out.below hb1
  refine (HS.out w1 B1).mono ?_
  rintro e w2 ⟨s, hs, A2, c2, rfl, ho, hb2⟩
  obtain rfl := HE.out s hs
  obtain ⟨_, _, er, hr⟩ := ho.read
  injection er with e1 _ e2
  subst e1 e2
  have B2 := B1.trans (hb2.mono B1.size)
  have X2 := X1.below hb2
  have K2 := K1.below hb2
  have hb3 := (Below.refl w2.heap.size w2).alloc (Nat.le_refl _) (.cells #[.slice A2 s.length c2] 23)
  have hBx := Has.new w2 23 #[.slice A2 s.length c2]
  have b0 := hBx.cell 0
  have hr3 := hr.below hb3
  have K3 := K2.below hb3
  have X3 := X2.below hb3
  have B3 := B2.trans (hb3.mono B2.size)
  have hlt : abv s key - 1 < s.length := by have := abv_le s key; omega
  have HSE := Lib.hid (search_any (fun i => decide (abv s key ≤ i)) (fun i j hij h => by simp at h ⊢; omega) s.length (by omega) #[.pointer (some ⟨w2.heap.size, 0, none⟩), .pointer (some ⟨w.heap.size, 0, none⟩)] (w2.alloc (.cells #[.slice A2 s.length c2] 23)) (fun W hW i hi => by
    obtain ⟨b, o, rfl, hbl, f1, f2, f3⟩ := hr3.at_ hi
    have hbl3 : b < (w2.alloc (.cells #[.slice (some ⟨b, o, none⟩) s.length c2] 23)).heap.size := Nat.lt_of_lt_of_le hbl hb3.size
    have hgt := gt_any w2.heap.size w.heap.size b o s.length c2 i s[i].key key W ((hW.cell (p := ⟨w2.heap.size, 0, none⟩) hBx.lt).trans b0) ((hW.cell (p := ⟨w.heap.size, 0, none⟩) K3.lt).trans (K3.cell 0)) hi ((hW.cell (p := ⟨b, o + i * 3 + 1, none⟩) hbl3).trans f2)
    rw [ask_kl HA.out key hi] at hgt
    exact hgt))
  obtain ⟨b, o, hA2, hbl, f1, f2, f3⟩ := hr3.at_ hlt
  subst hA2
  have hbl3 : b < (w2.alloc (.cells #[.slice (some ⟨b, o, none⟩) s.length c2] 23)).heap.size := Nat.lt_of_lt_of_le hbl hb3.size
  have HVS : Hid (V = s[abv s key - 1]) := Lib.hid (by rw [HVV.out]; unfold ownV; simp [hlt])
  have HHR := Lib.hid hr
  clear HS HV HE ho hr hr3 X1 X2 K1 K2 B1 B2 hb1 hb2 hs HCB HX HB0 HC HVV
  generalize s[abv s key - 1] = y at *
  have HX3 := Lib.hid X3
  have HB3 := Lib.hid B3
  have HHB := Lib.hid hBx
  clear X3 B3 hBx K3
  obtain ⟨k, hk'⟩ : ∃ k, k = abv s key := ⟨_, rfl⟩
  have hkn : k ≤ s.length := by rw [hk']; exact abv_le s key
  rw [← hk'] at hlt f1 f2 f3 HSE
  have HK := Lib.hid hk'
  clear hk' c1
  go_wp2_with fail
  refine (HSE.out).mono ?_
  rintro e w4 ⟨q, hq, hq1, hq2, rfl, hb4⟩
  obtain rfl : q = k := by
    rcases Nat.lt_trichotomy q k with h | h | h
    · have := hq2 q (Nat.le_refl _) (by omega)
      simp at this
      omega
    · exact h
    · have := hq1 k h
      simp at this
  have F1 := (hb4.cell (p := ⟨b, o + (q - 1) * 3, none⟩) hbl3).trans f1
  have F2 := (hb4.cell (p := ⟨b, o + (q - 1) * 3 + 1, none⟩) hbl3).trans f2
  have F3 := (hb4.cell (p := ⟨b, o + (q - 1) * 3 + 2, none⟩) hbl3).trans f3
  have X4 := HX3.out.below hb4
  have g0 := X4.cell 0
  have g1 := X4.cell 1
  have g2 := X4.cell 2
  have gz := fun o => X4.frozen o
  have bb := (HHB.out.below hb4).cell 0
  have HB4 := Lib.hid (HB3.out.trans (hb4.mono HB3.out.size))
  clear X4 hq1 hq2 HSE f1 f2 f3 b0 hb3 hb4
  obtain ⟨yi, yk, yw⟩ := y
  by_cases hq0 : q = 0
  · subst hq0
    have l0 : (0 : Int) < (s.length : Int) := by omega
    simp only [Nat.zero_sub, Nat.zero_mul, Nat.add_zero] at F1 F2 F3
    go_wp2_with fail
    refine bodyPost_ret (v := .tuple #[.agg #[.int .i64 yi, .string yk, .int .u32 (yw : Int)], .bool true]) (by simp [results, Tryd.results32, go_sem, *]) rfl ⟨by rw [HVS.out], ?_⟩
    exact ((HB4.out.setCell (Nat.le_succ _) _).setCell (Nat.le_succ _) _).setCell (Nat.le_succ _) _
  · obtain ⟨p, rfl⟩ : ∃ p, q = p + 1 := ⟨q - 1, by omega⟩
    simp only [Nat.add_sub_cancel] at F1 F2 F3
    have l0 : (0 : Int) ≤ (p : Int) := by omega
    have l1 : (p : Int) < (s.length : Int) := by omega
    go_wp2_with fail
    refine bodyPost_ret (v := .tuple #[.agg #[.int .i64 yi, .string yk, .int .u32 (yw : Int)], .bool true]) (by simp [results, Tryd.results32, go_sem, *]) rfl ⟨by rw [HVS.out], ?_⟩
    exact ((HB4.out.setCell (Nat.le_succ _) _).setCell (Nat.le_succ _) _).setCell (Nat.le_succ _) _
end
section
open Go.RowKit

/-- The first node with a number. -/
def fndV (l : List Nd) (id : Int) : Nd := (l[plc l id]?).getD Nd.none
theorem fnd_yes {l : List Nd} {id : Int} {k : Nat} (hk : k < l.length) (h1 : l[k].id = id) (h2 : ∀ j (h : j < k), (l[j]'(by omega)).id ≠ id) : fndV l id = l[k] ∧ decide (plc l id < l.length) = true := by
  unfold fndV
  rw [plc_uniq hk h1 h2, List.getElem?_eq_getElem hk]
  exact ⟨rfl, by simpa using hk⟩
theorem fnd_no {l : List Nd} {id : Int} (h : ∀ j (h : j < l.length), l[j].id ≠ id) : fndV l id = Nd.none ∧ decide (plc l id < l.length) = false := by
  unfold fndV
  rw [plc_none h, List.getElem?_eq_none (Nat.le_refl _)]
  exact ⟨rfl, by simp⟩
/-- What Find gives. -/
def FndP (l : List Nd) (id : Int) (w : World) (e : Ending) (w' : World) : Prop := e = .returned (.tuple #[(fndV l id).val, .bool (decide (plc l id < l.length))]) ∧ Below w.heap.size w w'

set_option maxRecDepth 100000 in
set_option maxHeartbeats 1600000 in
theorem rfind_any (A : Option Addr) (l : List Nd) (c : Nat) (id : Int) (w : World) (hl : Nds w w.heap.size A l) (hn : l.length ≤ 100000) :
    Calls Tryd.prog 45 #[.slice A l.length c, .int .i64 id] w (FndP l id w) := by
  have hb0 := (Below.refl w.heap.size w).alloc (Nat.le_refl _) (.cells #[.int .i64 0, .string ⟨#[]⟩, .int .u32 0] 51)
  have hX := Has.new w 51 #[.int .i64 0, .string ⟨#[]⟩, .int .u32 0]
  have HX := Lib.hid hX
  have HB0 := Lib.hid hb0
  have HNO := Lib.hid (fnd_no (l := l) (id := id))
  have HYES := Lib.hid (fun (k : Nat) (hk : k < l.length) => fnd_yes (l := l) (id := id) hk)
  unfold FndP
  generalize fndV l id = V at *
  generalize decide (plc l id < l.length) = D at *
  clear hX hb0
  go_enter Tryd.func45, Tryd.ntmps45
  go_wp2_with fail
  generalize hw1 : (w.alloc (.cells #[.int .i64 0, .string ⟨#[]⟩, .int .u32 0] 51)) = w1 at *
  go_loopw [6] (fun i wr => ∃ k : Nat, k ≤ l.length ∧ i = .int .i64 (k : Int) ∧ w1 = wr ∧ Hid (∀ j (_ : j < k) (h : j < l.length), l[j].id ≠ id)) (fun i _ => l.length - (intOf i).toNat)
  case atStart => exact ⟨0, Nat.zero_le _, rfl, rfl, Lib.hid (fun j h => absurd h (by omega))⟩
  case round =>
    obtain ⟨k, hk, rfl, rfl, HK⟩ := hrel
    have x0 := HX.out.cell 0
    have x1 := HX.out.cell 1
    have x2 := HX.out.cell 2
    have z := fun o => HX.out.frozen o
    by_cases hlt : k < l.length
    · obtain ⟨b, o, hA2, hbl, f1, f2, f3⟩ := hl.at_ hlt
      subst hA2
      replace f1 := (HB0.out.cell (p := ⟨b, o + k * 3, none⟩) hbl).trans f1
      replace f2 := (HB0.out.cell (p := ⟨b, o + k * 3 + 1, none⟩) hbl).trans f2
      replace f3 := (HB0.out.cell (p := ⟨b, o + k * 3 + 2, none⟩) hbl).trans f3
      have HYK := Lib.hid (HYES.out k hlt)
      have HNK := Lib.hid (fun (h : l[k].id ≠ id) (j : Nat) (h1 : j < k + 1) (h2 : j < l.length) => (by
        by_cases e : j = k
        · subst e; exact h
        · exact HK.out j (by omega) h2 : l[j].id ≠ id))
      generalize l[k] = y at *
      obtain ⟨yi, yk, yw⟩ := y
      have i0 : (0 : Int) ≤ (k : Int) := by omega
      have i1 : (k : Int) < (l.length : Int) := by omega
      by_cases he : yi = id
      · subst he
        have HV := Lib.hid (HYK.out rfl fun j h => HK.out j h (by omega))
        have e1 : (yi == yi) = true := by simp
        clear HYK HNK HK HYES HNO
        go_wp2_with fail
        refine bodyPost_ret (v := .tuple #[.agg #[.int .i64 yi, .string yk, .int .u32 (yw : Int)], .bool true]) (by simp [results, Tryd.results45, go_sem, *]) rfl ⟨by rw [HV.out.1, HV.out.2], ?_⟩
        exact ((HB0.out.setCell (Nat.le_refl _) _).setCell (Nat.le_refl _) _).setCell (Nat.le_refl _) _
      · have HZ := Lib.hid (HNK.out he)
        have e1 : (yi == id) = false := by simpa using he
        clear HYK HNK HK
        go_wp2_with fail
        exact ⟨⟨k + 1, hlt, by go_num, trivial, HZ⟩, by simp [intOf]; omega⟩
    · have HV := Lib.hid (HNO.out fun j h => HK.out j (by omega) h)
      have i1 : ¬ (k : Int) < (l.length : Int) := by omega
      clear HK HYES HNO
      go_wp2_with fail
      refine bodyPost_ret (v := .tuple #[.agg #[.int .i64 0, .string ⟨#[]⟩, .int .u32 0], .bool false]) (by simp [results, Tryd.results45, go_sem, *]) rfl ⟨by rw [HV.out.1, HV.out.2]; rfl, ?_⟩
      exact ((HB0.out.setCell (Nat.le_refl _) _).setCell (Nat.le_refl _) _).setCell (Nat.le_refl _) _

set_option maxRecDepth 100000 in
set_option maxHeartbeats 1600000 in
theorem find_any (A : Option Addr) (l : List Nd) (c : Nat) (id : Int) (w : World) (hl : Nds w w.heap.size A l) (hn : l.length ≤ 100000) :
    Calls Tryd.prog 33 #[.slice A l.length c, .int .i64 id] w (FndP l id w) := by
  have hb0 := (Below.refl w.heap.size w).alloc (Nat.le_refl _) (.cells #[.int .i64 0, .string ByteArray.empty, .int .u32 0] 51)
  have hX := Has.new w 51 #[.int .i64 0, .string ByteArray.empty, .int .u32 0]
  have HP := place_any A l c id _ ((hl.below hb0).more hb0.size) hn
  have HX := Lib.hid hX
  have HB0 := Lib.hid hb0
  unfold FndP
  by_cases hf : plc l id < l.length
  · have hz : plcI l id = (plc l id : Int) := if_pos hf
    rw [hz] at HP
    have HP := Lib.hid HP
    obtain ⟨b, o, hA2, hbl, f1, f2, f3⟩ := hl.at_ hf
    subst hA2
    have HV : Hid (fndV l id = l[plc l id]) := Lib.hid (by unfold fndV; rw [List.getElem?_eq_getElem hf]; rfl)
    have hd : decide (plc l id < l.length) = true := by simpa using hf
    rw [hd]
    generalize l[plc l id] = y at *
    generalize plc l id = k at *
    generalize fndV l id = V at *
    obtain ⟨yi, yk, yw⟩ := y
    have i0 : (0 : Int) ≤ (k : Int) := by omega
    have i1 : (k : Int) < (l.length : Int) := by omega
    have i2 : ¬ (k : Int) < 0 := by omega
    clear hz hd hl hX hb0
    go_enter Tryd.func33, Tryd.ntmps33
    go_wp2_with fail
    refine (HP.out).mono ?_
    rintro e w1 ⟨rfl, hb1⟩
    have X1 := HX.out.below hb1
    have x0 := X1.cell 0
    have x1 := X1.cell 1
    have x2 := X1.cell 2
    have z := fun o => X1.frozen o
    have hB1 := HB0.out.trans (hb1.mono HB0.out.size)
    replace f1 := (hB1.cell (p := ⟨b, o + k * 3, none⟩) hbl).trans f1
    replace f2 := (hB1.cell (p := ⟨b, o + k * 3 + 1, none⟩) hbl).trans f2
    replace f3 := (hB1.cell (p := ⟨b, o + k * 3 + 2, none⟩) hbl).trans f3
    have HB1 := Lib.hid hB1
    clear hb1 X1 hB1
    go_wp2_with fail
    refine bodyPost_ret (v := .tuple #[.agg #[.int .i64 yi, .string yk, .int .u32 (yw : Int)], .bool true]) (by simp [results, Tryd.results33, go_sem, *]) rfl ⟨by rw [HV.out], ?_⟩
    exact ((HB1.out.setCell (Nat.le_refl _) _).setCell (Nat.le_refl _) _).setCell (Nat.le_refl _) _
  · have hz : plcI l id = -1 := if_neg hf
    rw [hz] at HP
    have HP := Lib.hid HP
    have HV : Hid (fndV l id = Nd.none) := Lib.hid (by unfold fndV; rw [List.getElem?_eq_none (by omega)]; rfl)
    have hd : decide (plc l id < l.length) = false := by simpa using hf
    rw [hd]
    generalize fndV l id = V at *
    clear hz hd hl hX hb0 hf
    go_enter Tryd.func33, Tryd.ntmps33
    go_wp2_with fail
    refine (HP.out).mono ?_
    rintro e w1 ⟨rfl, hb1⟩
    have X1 := HX.out.below hb1
    have x0 := X1.cell 0
    have x1 := X1.cell 1
    have x2 := X1.cell 2
    have z := fun o => X1.frozen o
    have HB1 := Lib.hid (HB0.out.trans (hb1.mono HB0.out.size))
    clear hb1 X1
    go_wp2_with fail
    refine bodyPost_ret (v := .tuple #[.agg #[.int .i64 0, .string ⟨#[]⟩, .int .u32 0], .bool false]) (by simp [results, Tryd.results33, go_sem, *]) rfl ⟨by rw [HV.out]; rfl, ?_⟩
    exact ((HB1.out.setCell (Nat.le_refl _) _).setCell (Nat.le_refl _) _).setCell (Nat.le_refl _) _

end
end Go.Proofs.YtdeamjimjcojhaaDoor
