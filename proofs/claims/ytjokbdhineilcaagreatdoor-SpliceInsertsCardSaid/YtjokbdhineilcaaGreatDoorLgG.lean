/-
  Find, Rank and Interval of package roster, for rosters of 1 to 19 nodes: what they answer. Condition: the nodes can be read.
  Owner and Without of package roster, for rosters of 1 to 19 nodes and lists of numbers: what they answer. Condition: the nodes and the numbers can be read.
  Without and Owner of package roster: what they answer. Conditions: the nodes and the numbers can be read; for Owner, a roster of 1 to 19 nodes.
  Find of both packages, Has and Without of the reference of chapter 5: what they answer. Conditions: the nodes and the numbers can be read.
-/
import Derived.Test.YtjokbdhineilcaaGreatDoorLgA
import Derived.Test.YtjokbdhineilcaaGreatDoorKfA
namespace Go.Proofs.YtjokbdhineilcaaGreatDoor
section
open Go.RowKit

def plcI (s : List Nd) (id : Int) : Int := if plc s id < s.length then (plc s id : Int) else -1
theorem plcI_no {s : List Nd} {id : Int} (h : ∀ j (h : j < s.length), s[j].id ≠ id) : plcI s id = -1 := by
  unfold plcI; rw [plc_none h, if_neg (Nat.lt_irrefl _)]
theorem plcI_yes {s : List Nd} {id : Int} {k : Nat} (hk : k < s.length) (h1 : s[k].id = id) (h2 : ∀ j (h : j < k), (s[j]'(by omega)).id ≠ id) : plcI s id = (k : Int) := by
  unfold plcI; rw [plc_uniq hk h1 h2, if_pos hk]

theorem ros_wide {l : List Nd} (h : chkV l = 0) : ∀ x ∈ l, x.word < 4294967296 := fun x hx => by
  have := List.all_eq_true.1 (chkV_zero.1 h).2.1 x hx
  simp [Nd.ok] at this
  omega
/-- What the call under Rank and Interval gives. -/
def RkP (l : List Nd) (id : Int) (w : World) (e : Ending) (w' : World) : Prop :=
  (plc (srt l) id < (srt l).length ∧ ∃ A c, e = .returned (.tuple #[.slice A (srt l).length c, .int .i64 (plc (srt l) id : Int), .bool true]) ∧ Nds w' w'.heap.size A (srt l) ∧ Below w.heap.size w w') ∨
  (¬ plc (srt l) id < (srt l).length ∧ e = .returned (.tuple #[.slice none 0 0, .int .i64 0, .bool false]) ∧ Below w.heap.size w w')

end
section
open Go.RowKit

theorem gt_kl (y key : ByteArray) : (!Op.bytesLess y.toList key.toList && !y.toList == key.toList) = kl key y := by
  show (!kl y key && !y.toList == key.toList) = kl key y
  cases h : kl y key
  · by_cases e : y = key
    · subst e
      simp [kl_irrefl]
    · have h1 : ¬ y.toList = key.toList := fun k => e (toList_inj k)
      cases k : kl key y
      · exact absurd (kl_tri h k) e
      · simp [h1]
  · simp [kl_asymm h]
/-- A function value that answers p at each index below n, in every world behind w. -/
def AskN (f : Nat) (lb : Array Value) (p : Nat → Bool) (n : Nat) (w : World) : Prop := ∀ W, Below w.heap.size w W → ∀ i : Nat, i < n → Calls Tryz.prog f (#[.int .i64 (i : Int)] ++ lb) W fun e W' => e = .returned (.bool (p i)) ∧ Below W.heap.size W W'

theorem Nd.ok_vk {x : Nd} (h : Nd.ok x = true) : x.key.size ≤ 64 := by
  simp [Nd.ok, vk] at h
  omega
/-- A slice of numbers below block B, as it is read. -/
def Ins (w : World) (B : Nat) (A : Option Addr) (l : List Int) : Prop :=
  l ≠ [] → ∃ b o, A = some ⟨b, o, none⟩ ∧ b < B ∧ ∀ i (h : i < l.length), (-9223372036854775808 ≤ l[i] ∧ l[i] ≤ 9223372036854775807) ∧ w.cell? ⟨b, o + i, none⟩ = some (.int .i64 l[i])
theorem Ins.keep {w w' : World} {B : Nat} {A : Option Addr} {l : List Int} (h : Ins w B A l) (k : ∀ i, i < B → w'.heap[i]? = w.heap[i]?) : Ins w' B A l := fun hn => by
  obtain ⟨b, o, e, hb, hc⟩ := h hn
  exact ⟨b, o, e, hb, fun i hi => ⟨(hc i hi).1, (World.cell?_of_block (k b hb)).trans (hc i hi).2⟩⟩
theorem Ins.more {w : World} {B B' : Nat} {A : Option Addr} {l : List Int} (h : Ins w B A l) (hB : B ≤ B') : Ins w B' A l := fun hn => by
  obtain ⟨b, o, e, hb, hc⟩ := h hn
  exact ⟨b, o, e, by omega, hc⟩
theorem Ins.at_ {w : World} {B : Nat} {A : Option Addr} {l : List Int} (h : Ins w B A l) {i : Nat} (hi : i < l.length) : ∃ b o, A = some ⟨b, o, none⟩ ∧ b < B ∧ (-9223372036854775808 ≤ l[i] ∧ l[i] ≤ 9223372036854775807) ∧ w.cell? ⟨b, o + i, none⟩ = some (.int .i64 l[i]) := by
  obtain ⟨b, o, e, hb, hc⟩ := h (by intro e; rw [e] at hi; simp at hi)
  exact ⟨b, o, e, hb, (hc i hi).1, (hc i hi).2⟩
theorem OwnN.low {w : World} {base base' : Nat} {v : Value} {l : List Nd} (h : OwnN w base v l) (hb : base' ≤ base) : OwnN w base' v l := by
  obtain ⟨h1, h2 | ⟨g, cap, cur, h3, h4, h5, h6⟩⟩ := h
  · exact ⟨h1, .inl h2⟩
  · exact ⟨h1, .inr ⟨g, cap, cur, h3, by omega, h5, h6⟩⟩
/-- What Without gives. -/
def wout (l : List Nd) (ids : List Int) : List Nd := l.filter fun x => !ids.contains x.id
theorem wout_yes {l : List Nd} {ids : List Int} {k : Nat} (hk : k < l.length) (h : l[k].id ∉ ids) : wout (l.take (k + 1)) ids = wout (l.take k) ids ++ [l[k]] := by
  unfold wout
  rw [List.take_succ_eq_append_getElem hk, List.filter_append]
  simp [h]
theorem wout_no {l : List Nd} {ids : List Int} {k : Nat} (hk : k < l.length) (h : l[k].id ∈ ids) : wout (l.take (k + 1)) ids = wout (l.take k) ids := by
  unfold wout
  rw [List.take_succ_eq_append_getElem hk, List.filter_append]
  simp [h]
def keysI (l : List Int) (z : Lit) : Prop := ∃ x ∈ l, z = .int .i64 x
theorem keysI_next {l : List Int} {k : Nat} (h : k < l.length) (z : Lit) : (z = .int .i64 l[k] ∨ keysI (l.take k) z) ↔ keysI (l.take (k + 1)) z := by
  unfold keysI
  rw [List.take_succ_eq_append_getElem h]
  simp only [List.mem_append, List.mem_singleton]
  constructor
  · rintro (h | ⟨x, hx, e⟩)
    · exact ⟨_, .inr rfl, h⟩
    · exact ⟨x, .inl hx, e⟩
  · rintro ⟨x, hx | rfl, e⟩
    · exact .inr ⟨x, hx, e⟩
    · exact .inl e
theorem keysI_mem {l : List Int} {x : Int} : keysI l (.int .i64 x) ↔ x ∈ l := by
  constructor
  · rintro ⟨y, hy, e⟩
    injection e with _ e
    rw [e]; exact hy
  · exact fun h => ⟨x, h, rfl⟩
end
section
open Go.RowKit Go.Maps

theorem ownsMap_block {H : Type} {P : Program} {w w' : World} {k : TypeId} {R : Value → Option (DataW H × List MemPlace)} {b n : Nat} {D : DataW H} (h : w.ownsMap P k R b n D) (e : w'.heap[b]? = w.heap[b]?) : w'.ownsMap P k R b n D := by
  obtain ⟨es, clock, hb, F, hs, hD⟩ := h
  exact ⟨es, clock, e.trans hb, F, hs, hD⟩

set_option maxRecDepth 100000 in
set_option maxHeartbeats 3200000 in
theorem without_any (A A2 : Option Addr) (l : List Nd) (c c2 : Nat) (ids : List Int) (w : World) (hl : Nds w w.heap.size A l) (hi : Ins w w.heap.size A2 ids) (hn : l.length ≤ 1000) (hm : ids.length ≤ 1000) (hid : ∀ x ∈ l, -9223372036854775808 ≤ x.id ∧ x.id ≤ 9223372036854775807) :
    Calls Tryz.prog 45 #[.slice A l.length c, .slice A2 ids.length c2] w (NdsP (wout l ids) w) := by
  obtain ⟨inf, hif, hif1, hif2, hif3⟩ := infoN_parts
  have hmm := @run_makeMap Tryz.prog
  go_enter Tryz.func45, Tryz.ntmps45
  go_wp2_with fail
  go_loopw [14] (fun i wr => ∃ (k : Nat) (D : DataW Unit), k ≤ ids.length ∧ i = .int .i64 (k : Int) ∧ wr.ownsMap Tryz.prog 3 (plainElem Tryz.prog 4) w.heap.size k D ∧ Hid (SetD D (keysI (ids.take k))) ∧ Below w.heap.size w wr ∧ w.heap.size + 1 ≤ wr.heap.size) (fun i _ => ids.length - (intOf i).toNat)
  case atStart =>
    exact ⟨0, .map [], by omega, rfl, World.ownsMap_made _ _ _ _, Lib.hid (SetD.nil.congr fun z => by simp [keysI]), (Below.refl _ _).alloc (Nat.le_refl _) _, by rw [World.size_alloc]; omega⟩
  case round =>
    obtain ⟨k, D, hk, rfl, hmap, HS, hB, hsz⟩ := hrel
    by_cases hlt : k < ids.length
    · obtain ⟨b, o, hA2, hb, hv, f1⟩ := hi.at_ hlt
      subst hA2
      have HI := Lib.hid (fun z => keysI_next hlt z)
      replace f1 := (hB.cell (p := ⟨b, o + k, none⟩) hb).trans f1
      generalize ids[k] = y at *
      have i0 : (0 : Int) ≤ (k : Int) := by omega
      have i1 : (k : Int) < (ids.length : Int) := by omega
      have hk1 : keyOf Tryz.prog 3 (.int .i64 y) = some (.int .i64 y) := keyOf_int_mk Tryz.underlying3 (WalkArith.wf_i64 (by omega))
      go_wp2_with (at_mapUpdate; refine wpList_mapUpdate_own _ rfl _ _ _ 104 rfl 3 4 lawInt Tryz.underlying104 _ w.heap.size k D rfl hmap (by unfold maxLen; omega) _ _ _ rfl rfl hk1 (.lit (.bool true)) [] (plainElem_bool Tryz.underlying4 _) ?_; intro w1 hm3 hgr3; have hs3 := hgr3.size; have hB3 := hB.grown hgr3 hB.size (fun j e => (by have := Option.some.inj e; omega)))
      exact ⟨⟨k + 1, _, hlt, by go_num, hm3, Lib.hid ((HS.out.put (k := .int .i64 y) hmap.isMap trivial).congr HI.out), hB3, by omega⟩, by simp [intOf]; omega⟩
    · have HZ : Hid (SetD D (keysI ids)) := Lib.hid (by
        have := HS.out
        rwa [List.take_of_length_le (by omega)] at this)
      clear HS
      go_wp2_with fail
      go_loopw [8, 23] (fun bv i wz => ∃ (v1 : Value) (q : Nat) (l1 : List Nd), v1 = bv ∧ q ≤ l.length ∧ i = .int .i64 (q : Int) ∧ OwnN wz (w.heap.size + 1) v1 l1 ∧ wz.ownsMap Tryz.prog 3 (plainElem Tryz.prog 4) w.heap.size k D ∧ Below w.heap.size w wz ∧ w.heap.size + 1 ≤ wz.heap.size ∧ Hid (l1 = wout (l.take q) ids) ∧ l1.length ≤ q) (fun _ i _ => l.length - (intOf i).toNat)
      case atStart => exact ⟨_, 0, [], rfl, by omega, rfl, OwnN.nil _ _, hmap, hB, hsz, Lib.hid (by simp [wout]), by simp⟩
      case round =>
        clear hmap hB hsz
        obtain ⟨v1, q, l1, rfl, hq, rfl, ho1, hmap, hB, hsz, HL, hlen⟩ := hrel
        by_cases hlt2 : q < l.length
        · obtain ⟨b, o, hA2, hb, f1, f2, f3⟩ := hl.at_ hlt2
          subst hA2
          have hyw := hid _ (List.getElem_mem hlt2)
          have HY := Lib.hid (fun (hy : l[q].id ∉ ids) => wout_yes hlt2 hy)
          have HNo := Lib.hid (fun (hy : l[q].id ∈ ids) => wout_no hlt2 hy)
          replace f1 := (hB.cell (p := ⟨b, o + q * 3, none⟩) hb).trans f1
          replace f2 := (hB.cell (p := ⟨b, o + q * 3 + 1, none⟩) hb).trans f2
          replace f3 := (hB.cell (p := ⟨b, o + q * 3 + 2, none⟩) hb).trans f3
          generalize l[q] = y at *
          obtain ⟨yi, yk, yw⟩ := y
          have i0 : (0 : Int) ≤ (q : Int) := by omega
          have i1 : (q : Int) < (l.length : Int) := by omega
          obtain ⟨A3, c3, hv3, -⟩ := ho1.read
          have hoa := ho1.below ((Below.refl _ _).alloc (Nat.le_refl _) (.cells #[.int .i64 yi, .string yk, .int .u32 (yw : Int)] 25))
          have hBa := hB.alloc hB.size (.cells #[.int .i64 yi, .string yk, .int .u32 (yw : Int)] 25)
          have hma := hmap.alloc (.cells #[.int .i64 yi, .string yk, .int .u32 (yw : Int)] 25)
          have hX := Has.new wr 25 #[.int .i64 yi, .string yk, .int .u32 (yw : Int)]
          have x0 := hX.cell 0
          have x1 := hX.cell 1
          have x2 := hX.cell 2
          have hsa : (wr.alloc (.cells #[.int .i64 yi, .string yk, .int .u32 (yw : Int)] 25)).heap.size = wr.heap.size + 1 := World.size_alloc _ _
          subst hv3
          have hk1 : keyOf Tryz.prog 3 (.int .i64 yi) = some (.int .i64 yi) := keyOf_int_mk Tryz.underlying3 (WalkArith.wf_i64 (by simpa using hyw))
          obtain ⟨y1, hr1, hat1⟩ := look_bool lawInt Tryz.underlying104 Tryz.underlying4 (zeroBool _) hma hk1
          have q1 := HZ.out.at_ (k := .int .i64 yi) trivial hat1
          rw [keysI_mem] at q1
          clear hat1 hX hyw
          cases y1
          · have HF := Lib.hid (HY.out fun h => by have := q1.2 h; cases this)
            have HMA := Lib.hid hma
            clear q1 HY HNo
            go_wp2_with (at_builtin; refine wpList_pushN rfl _ _ 28 rfl (w.heap.size + 1) inf Tryz.underlying28 hif hif1 hif2 hif3 (.slice A3 l1.length c3) l1 _ ⟨yi, yk, yw⟩ rfl hoa (by rw [World.size_alloc]; rfl) (by omega) (by omega) ?_; intro v2 w6 ho6 hb6; obtain ⟨l2, hl2⟩ : ∃ l2, l2 = l1 ++ [(⟨yi, yk, yw⟩ : Nd)] := ⟨_, rfl⟩; rw [← hl2] at ho6; have hln2 : l2.length = l1.length + 1 := (by rw [hl2]; simp); have HL2 := Lib.hid hl2; have HLN := Lib.hid hln2; clear hl2 hln2; obtain ⟨A4, c4, rfl, -⟩ := ho6.read)
            exact ⟨⟨_, q + 1, l2, rfl, hlt2, by go_num, ho6, ownsMap_block HMA.out (hb6.block _ (Nat.lt_succ_self _)), hBa.trans (hb6.mono (by omega)), by have := hb6.size; omega, Lib.hid (by rw [HL2.out, HL.out, HF.out]), by have := HLN.out; omega⟩, by simp [intOf]; omega⟩
          · have HF := Lib.hid (HNo.out (q1.1 rfl))
            have HMA := Lib.hid hma
            clear q1 HY HNo
            go_wp2_with fail
            exact ⟨⟨_, q + 1, l1, rfl, hlt2, by go_num, hoa, HMA.out, hBa, by omega, Lib.hid (by rw [HL.out, HF.out]), by omega⟩, by simp [intOf]; omega⟩
        · have hL2 : l1 = wout l ids := by rw [HL.out, List.take_of_length_le (by omega)]
          obtain ⟨A3, c3, rfl, -⟩ := ho1.read
          have HL2 := Lib.hid hL2
          clear hL2 HL
          go_wp2_with fail
          go_ret
          rw [← HL2.out]
          exact ⟨A3, c3, rfl, ho1.low (by omega), hB⟩

theorem ask_kl {s : List Nd} (hs : Asc s) (key : ByteArray) {i : Nat} (hi : i < s.length) : kl key s[i].key = decide (abv s key ≤ i) := by
  by_cases h : abv s key ≤ i
  · rw [abv_hi hs hi h]; simp [h]
  · rw [abv_lo (s := s) (key := key) (j := i) (by omega)]; simp [h]

end
section
open Go.RowKit

/-- The first node with a number. -/
def fndV (l : List Nd) (id : Int) : Nd := (l[plc l id]?).getD Nd.none
theorem fnd_yes {l : List Nd} {id : Int} {k : Nat} (hk : k < l.length) (h1 : l[k].id = id) (h2 : ∀ j (h : j < k), (l[j]'(by omega)).id ≠ id) : fndV l id = l[k] ∧ decide (plc l id < l.length) = true := by
  unfold fndV
  rw [plc_uniq hk h1 h2, List.getElem?_eq_getElem hk]
  exact ⟨rfl, by simpa using hk⟩
theorem fnd_no {l : List Nd} {id : Int} (h : ∀ j (h : j < l.length), l[j].id ≠ id) : fndV l id = Nd.none ∧ decide (plc l id < l.length) = false := by
  unfold fndV
  rw [plc_none h, List.getElem?_eq_none (Nat.le_refl _)]
  exact ⟨rfl, by simp⟩
/-- What Find gives. -/
def FndP (l : List Nd) (id : Int) (w : World) (e : Ending) (w' : World) : Prop := e = .returned (.tuple #[(fndV l id).val, .bool (decide (plc l id < l.length))]) ∧ Below w.heap.size w w'

set_option maxRecDepth 100000 in
set_option maxHeartbeats 1600000 in
theorem rfind_any (A : Option Addr) (l : List Nd) (c : Nat) (id : Int) (w : World) (hl : Nds w w.heap.size A l) (hn : l.length ≤ 100000) :
    Calls Tryz.prog 40 #[.slice A l.length c, .int .i64 id] w (FndP l id w) := by
  have hb0 := (Below.refl w.heap.size w).alloc (Nat.le_refl _) (.cells #[.int .i64 0, .string ⟨#[]⟩, .int .u32 0] 25)
  have hX := Has.new w 25 #[.int .i64 0, .string ⟨#[]⟩, .int .u32 0]
  have HX := Lib.hid hX
  have HB0 := Lib.hid hb0
  have HNO := Lib.hid (fnd_no (l := l) (id := id))
  have HYES := Lib.hid (fun (k : Nat) (hk : k < l.length) => fnd_yes (l := l) (id := id) hk)
  unfold FndP
  generalize fndV l id = V at *
  generalize decide (plc l id < l.length) = D at *
  clear hX hb0
  go_enter Tryz.func40, Tryz.ntmps40
  go_wp2_with fail
  generalize hw1 : (w.alloc (.cells #[.int .i64 0, .string ⟨#[]⟩, .int .u32 0] 25)) = w1 at *
  go_loopw [6] (fun i wr => ∃ k : Nat, k ≤ l.length ∧ i = .int .i64 (k : Int) ∧ w1 = wr ∧ Hid (∀ j (_ : j < k) (h : j < l.length), l[j].id ≠ id)) (fun i _ => l.length - (intOf i).toNat)
  case atStart => exact ⟨0, Nat.zero_le _, rfl, rfl, Lib.hid (fun j h => absurd h (by omega))⟩
  case round =>
    obtain ⟨k, hk, rfl, rfl, HK⟩ := hrel
    have x0 := HX.out.cell 0
    have x1 := HX.out.cell 1
    have x2 := HX.out.cell 2
    have z := fun o => HX.out.frozen o
    by_cases hlt : k < l.length
    · obtain ⟨b, o, hA2, hbl, f1, f2, f3⟩ := hl.at_ hlt
      subst hA2
      replace f1 := (HB0.out.cell (p := ⟨b, o + k * 3, none⟩) hbl).trans f1
      replace f2 := (HB0.out.cell (p := ⟨b, o + k * 3 + 1, none⟩) hbl).trans f2
      replace f3 := (HB0.out.cell (p := ⟨b, o + k * 3 + 2, none⟩) hbl).trans f3
      have HYK := Lib.hid (HYES.out k hlt)
      have HNK := Lib.hid (fun (h : l[k].id ≠ id) (j : Nat) (h1 : j < k + 1) (h2 : j < l.length) => (by
        by_cases e : j = k
        · subst e; exact h
        · exact HK.out j (by omega) h2 : l[j].id ≠ id))
      generalize l[k] = y at *
      obtain ⟨yi, yk, yw⟩ := y
      have i0 : (0 : Int) ≤ (k : Int) := by omega
      have i1 : (k : Int) < (l.length : Int) := by omega
      by_cases he : yi = id
      · subst he
        have HV := Lib.hid (HYK.out rfl fun j h => HK.out j h (by omega))
        have e1 : (yi == yi) = true := by simp
        clear HYK HNK HK HYES HNO
        go_wp2_with fail
        refine bodyPost_ret (v := .tuple #[.agg #[.int .i64 yi, .string yk, .int .u32 (yw : Int)], .bool true]) (by simp [results, Tryz.results40, go_sem, *]) rfl ⟨by rw [HV.out.1, HV.out.2], ?_⟩
        exact ((HB0.out.setCell (Nat.le_refl _) _).setCell (Nat.le_refl _) _).setCell (Nat.le_refl _) _
      · have HZ := Lib.hid (HNK.out he)
        have e1 : (yi == id) = false := by simpa using he
        clear HYK HNK HK
        go_wp2_with fail
        exact ⟨⟨k + 1, hlt, by go_num, trivial, HZ⟩, by simp [intOf]; omega⟩
    · have HV := Lib.hid (HNO.out fun j h => HK.out j (by omega) h)
      have i1 : ¬ (k : Int) < (l.length : Int) := by omega
      clear HK HYES HNO
      go_wp2_with fail
      refine bodyPost_ret (v := .tuple #[.agg #[.int .i64 0, .string ⟨#[]⟩, .int .u32 0], .bool false]) (by simp [results, Tryz.results40, go_sem, *]) rfl ⟨by rw [HV.out.1, HV.out.2]; rfl, ?_⟩
      exact ((HB0.out.setCell (Nat.le_refl _) _).setCell (Nat.le_refl _) _).setCell (Nat.le_refl _) _

set_option maxRecDepth 100000 in
set_option maxHeartbeats 1600000 in
theorem rhas_any (A : Option Addr) (ids : List Int) (c : Nat) (id : Int) (w : World) (hl : Ins w w.heap.size A ids) (hn : ids.length ≤ 100000) :
    Calls Tryz.prog 68 #[.slice A ids.length c, .int .i64 id] w fun e w' => e = .returned (.bool (ids.contains id)) ∧ w = w' := by
  have HNO : Hid ((∀ j (h : j < ids.length), ids[j] ≠ id) → ids.contains id = false) := Lib.hid fun h => by
    rw [← Bool.not_eq_true, List.contains_iff_mem]
    intro hm
    obtain ⟨j, hj, e⟩ := List.getElem_of_mem hm
    exact h j hj e
  have HYES : Hid (∀ j (h : j < ids.length), ids[j] = id → ids.contains id = true) := Lib.hid fun j h e => by
    rw [List.contains_iff_mem, ← e]
    exact List.getElem_mem h
  generalize ids.contains id = V at *
  go_enter Tryz.func68, Tryz.ntmps68
  go_wp2_with fail
  go_loopw [5] (fun i wr => ∃ k : Nat, k ≤ ids.length ∧ i = .int .i64 (k : Int) ∧ w = wr ∧ Hid (∀ j (_ : j < k) (h : j < ids.length), ids[j] ≠ id)) (fun i _ => ids.length - (intOf i).toNat)
  case atStart => exact ⟨0, Nat.zero_le _, rfl, rfl, Lib.hid (fun j h => absurd h (by omega))⟩
  case round =>
    obtain ⟨k, hk, rfl, rfl, HK⟩ := hrel
    by_cases hlt : k < ids.length
    · obtain ⟨b, o, hA2, hbl, _, f1⟩ := hl.at_ hlt
      subst hA2
      have HYK := Lib.hid (HYES.out k hlt)
      have HNK := Lib.hid (fun (h : ids[k] ≠ id) (j : Nat) (h1 : j < k + 1) (h2 : j < ids.length) => (by
        by_cases e : j = k
        · subst e; exact h
        · exact HK.out j (by omega) h2 : ids[j] ≠ id))
      generalize ids[k] = y at *
      have i0 : (0 : Int) ≤ (k : Int) := by omega
      have i1 : (k : Int) < (ids.length : Int) := by omega
      by_cases he : y = id
      · subst he
        have HV := Lib.hid (HYK.out rfl)
        have e1 : (y == y) = true := by simp
        clear HYK HNK HK HYES HNO
        go_wp2_with fail
        go_ret
        exact ⟨ret_bool HV.out.symm, rfl⟩
      · have HZ := Lib.hid (HNK.out he)
        have e1 : (y == id) = false := by simpa using he
        clear HYK HNK HK
        go_wp2_with fail
        exact ⟨⟨k + 1, hlt, by go_num, trivial, HZ⟩, by simp [intOf]; omega⟩
    · have HV := Lib.hid (HNO.out fun j h => HK.out j (by omega) h)
      have i1 : ¬ (k : Int) < (ids.length : Int) := by omega
      clear HK HYES HNO
      go_wp2_with fail
      go_ret
      exact ⟨ret_bool HV.out.symm, rfl⟩

set_option maxRecDepth 100000 in
set_option maxHeartbeats 1600000 in
theorem rwithout_any (A A2 : Option Addr) (l : List Nd) (c c2 : Nat) (ids : List Int) (w : World) (hl : Nds w w.heap.size A l) (hi : Ins w w.heap.size A2 ids) (hn : l.length ≤ 1000) (hm : ids.length ≤ 1000) :
    Calls Tryz.prog 48 #[.slice A l.length c, .slice A2 ids.length c2] w (NdsP (wout l ids) w) := by
  obtain ⟨inf, hif, hif1, hif2, hif3⟩ := infoN_parts
  have HHA := Lib.hid (fun (W : World) (k : Below w.heap.size w W) (id : Int) => rhas_any A2 ids c2 id W ((hi.keep k.block).more k.size) (by omega))
  go_enter Tryz.func48, Tryz.ntmps48
  go_wp2_with fail
  go_loopw [5, 6] (fun b i wr => ∃ (v1 : Value) (k : Nat) (l1 : List Nd), v1 = b ∧ k ≤ l.length ∧ i = .int .i64 (k : Int) ∧ OwnN wr w.heap.size v1 l1 ∧ Below w.heap.size w wr ∧ Hid (l1 = wout (l.take k) ids) ∧ l1.length ≤ k) (fun _ i _ => l.length - (intOf i).toNat)
  case atStart => exact ⟨_, 0, [], rfl, by omega, rfl, OwnN.nil _ _, Below.refl _ _, Lib.hid (by simp [wout]), by simp⟩
  case round =>
    obtain ⟨v1, k, l1, rfl, hk, rfl, ho1, hB, HL, hlen⟩ := hrel
    by_cases hlt : k < l.length
    · obtain ⟨b, o, hA2, hb, f1, f2, f3⟩ := hl.at_ hlt
      subst hA2
      have HY := Lib.hid (fun (hy : l[k].id ∉ ids) => wout_yes hlt hy)
      have HNo := Lib.hid (fun (hy : l[k].id ∈ ids) => wout_no hlt hy)
      have HC := HHA.out wr hB l[k].id
      replace f1 := (hB.cell (p := ⟨b, o + k * 3, none⟩) hb).trans f1
      replace f2 := (hB.cell (p := ⟨b, o + k * 3 + 1, none⟩) hb).trans f2
      replace f3 := (hB.cell (p := ⟨b, o + k * 3 + 2, none⟩) hb).trans f3
      generalize l[k] = y at *
      obtain ⟨yi, yk, yw⟩ := y
      have i0 : (0 : Int) ≤ (k : Int) := by omega
      have i1 : (k : Int) < (l.length : Int) := by omega
      cases hc : ids.contains yi
      · have hni : yi ∉ ids := fun h => by rw [← List.contains_iff_mem, hc] at h; cases h
        have HZ : Hid (l1 ++ [⟨yi, yk, yw⟩] = wout (l.take (k + 1)) ids) := Lib.hid (by rw [HL.out, HY.out hni])
        simp only [hc] at HC
        have HC := Lib.hid HC
        clear hc hni HY HNo
        go_wp2_with fail
        refine (HC.out).mono ?_
        rintro e w' ⟨rfl, rfl⟩
        have hlen2 : l1.length < 1000000 := by omega
        go_wp2_with (at_builtin; refine wpList_pushN rfl _ _ 28 rfl w.heap.size inf Tryz.underlying28 hif hif1 hif2 hif3 v1 l1 wr ⟨yi, yk, yw⟩ rfl ho1 rfl hlen2 hB.size ?_; intro v2 w2 ho2 hb2)
        exact ⟨⟨v2, k + 1, _, rfl, hlt, by go_num, ho2, hB.trans hb2, HZ, by simp; omega⟩, by simp [intOf]; omega⟩
      · have hni : yi ∈ ids := by rw [← List.contains_iff_mem, hc]
        have HZ : Hid (l1 = wout (l.take (k + 1)) ids) := Lib.hid (by rw [HL.out, HNo.out hni])
        simp only [hc] at HC
        have HC := Lib.hid HC
        clear hc hni HY HNo
        go_wp2_with fail
        refine (HC.out).mono ?_
        rintro e w' ⟨rfl, rfl⟩
        go_wp2_with fail
        exact ⟨⟨v1, k + 1, l1, rfl, hlt, by go_num, ho1, hB, HZ, by omega⟩, by simp [intOf]; omega⟩
    · have HZ : Hid (l1 = wout l ids) := Lib.hid (by rw [HL.out, List.take_of_length_le (by omega)])
      have i1 : ¬ (k : Int) < (l.length : Int) := by omega
      obtain rfl := HZ.out
      obtain ⟨A3, c3, rfl, _⟩ := ho1.read
      go_wp2_with fail
      go_ret
      exact ⟨A3, c3, rfl, ho1, hB⟩
end
end Go.Proofs.YtjokbdhineilcaaGreatDoor
