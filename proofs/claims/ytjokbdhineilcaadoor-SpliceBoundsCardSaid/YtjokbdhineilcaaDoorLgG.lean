/-
  Find, Rank and Interval of package roster, for rosters of 1 to 19 nodes: what they answer. Condition: the nodes can be read.
  Owner and Without of package roster, for rosters of 1 to 19 nodes and lists of numbers: what they answer. Condition: the nodes and the numbers can be read.
  Without and Owner of package roster: what they answer. Conditions: the nodes and the numbers can be read; for Owner, a roster of 1 to 19 nodes.
  Find of both packages, Has and Without of the reference of chapter 5: what they answer. Conditions: the nodes and the numbers can be read.
-/
import Derived.Test.YtjokbdhineilcaaDoorLgA
import Derived.Test.YtjokbdhineilcaaDoorKfA
namespace Go.Proofs.YtjokbdhineilcaaDoor
section
open Go.RowKit

set_option maxRecDepth 100000 in
set_option maxHeartbeats 800000 in
theorem lit_any (x : Nd) (id : Int) (B : Nat) (w : World) (hB : w.cell? ⟨B, 0, none⟩ = some (.int .i64 id)) (hl : B < w.heap.size) :
    Calls Tryd.prog 99 #[.agg #[.int .i64 x.id, .string x.key, .int .u32 (x.word : Int)], .pointer (some ⟨B, 0, none⟩)] w fun e w' => e = .returned (.bool (x.id == id)) ∧ Below w.heap.size w w' := by
  have hX := Has.new w 30 #[.int .i64 x.id, .string x.key, .int .u32 (x.word : Int)]
  have x0 := hX.cell 0
  have hb := (Below.refl w.heap.size w).alloc (Nat.le_refl _) (.cells #[.int .i64 x.id, .string x.key, .int .u32 (x.word : Int)] 30)
  have hB' := (hb.cell (p := ⟨B, 0, none⟩) hl).trans hB
  clear hX hB
  go_enter Tryd.func99, Tryd.ntmps99
  go_wp2_with fail
  go_ret
  exact ⟨rfl, hb⟩

def plcI (s : List Nd) (id : Int) : Int := if plc s id < s.length then (plc s id : Int) else -1
theorem plcI_no {s : List Nd} {id : Int} (h : ∀ j (h : j < s.length), s[j].id ≠ id) : plcI s id = -1 := by
  unfold plcI; rw [plc_none h, if_neg (Nat.lt_irrefl _)]
theorem plcI_yes {s : List Nd} {id : Int} {k : Nat} (hk : k < s.length) (h1 : s[k].id = id) (h2 : ∀ j (h : j < k), (s[j]'(by omega)).id ≠ id) : plcI s id = (k : Int) := by
  unfold plcI; rw [plc_uniq hk h1 h2, if_pos hk]

set_option maxRecDepth 100000 in
set_option maxHeartbeats 1600000 in
theorem idx_any (A : Option Addr) (l : List Nd) (c : Nat) (id : Int) (B : Nat) (w : World) (hl : Nds w w.heap.size A l) (hn : l.length ≤ 100000) (hB : w.cell? ⟨B, 0, none⟩ = some (.int .i64 id)) (hBl : B < w.heap.size) :
    Calls Tryd.prog 98 #[.slice A l.length c, .func (.func 99) #[] #[.pointer (some ⟨B, 0, none⟩)]] w fun e w' => e = .returned (.int .i64 (plcI l id)) ∧ Below w.heap.size w w' := by
  have HN := Lib.hid (plcI_no (s := l) (id := id))
  have HY := Lib.hid (fun (k : Nat) (hk : k < l.length) => plcI_yes (s := l) (id := id) hk)
  generalize plcI l id = Z at *
  go_enter Tryd.func98, Tryd.ntmps98
  go_wp2_with fail
  go_loopw [8] (fun i wr => ∃ k : Nat, k ≤ l.length ∧ i = .int .i64 (k : Int) ∧ Below w.heap.size w wr ∧ Hid (∀ j (_ : j < k) (h : j < l.length), l[j].id ≠ id)) (fun i _ => l.length - (intOf i).toNat)
  case atStart => exact ⟨0, Nat.zero_le _, rfl, Below.refl _ _, Lib.hid (fun j h => absurd h (by omega))⟩
  case round =>
    obtain ⟨k, hk, rfl, hb, HK⟩ := hrel
    by_cases hlt : k < l.length
    · obtain ⟨b, o, hA2, hbl, f1, f2, f3⟩ := hl.at_ hlt
      subst hA2
      replace f1 := (hb.cell (p := ⟨b, o + k * 3, none⟩) hbl).trans f1
      replace f2 := (hb.cell (p := ⟨b, o + k * 3 + 1, none⟩) hbl).trans f2
      replace f3 := (hb.cell (p := ⟨b, o + k * 3 + 2, none⟩) hbl).trans f3
      have HLK := Lib.hid (HY.out k hlt)
      have HNK := Lib.hid (fun (h : l[k].id ≠ id) (j : Nat) (h1 : j < k + 1) (h2 : j < l.length) => (by
        by_cases e : j = k
        · subst e; exact h
        · exact HK.out j (by omega) h2 : l[j].id ≠ id))
      have HL := Lib.hid (lit_any l[k] id B wr ((hb.cell (p := ⟨B, 0, none⟩) hBl).trans hB) (Nat.lt_of_lt_of_le hBl hb.size))
      generalize l[k] = y at *
      obtain ⟨yi, yk, yw⟩ := y
      have i0 : (0 : Int) ≤ (k : Int) := by omega
      have i1 : (k : Int) < (l.length : Int) := by omega
      by_cases he : yi = id
      · subst he
        have HZ := Lib.hid (HLK.out rfl fun j h => HK.out j h (by omega))
        have e1 : (yi == yi) = true := by simp
        simp only [e1] at HL
        clear HNK HLK HK HN HY e1
        go_wp2_with fail
        refine (HL.out).mono ?_
        rintro e w2 ⟨rfl, hb2⟩
        go_wp2_with fail
        go_ret
        exact ⟨ret_int HZ.out.symm, hb.trans (hb2.mono hb.size)⟩
      · have HZ := Lib.hid (HNK.out he)
        have e1 : (yi == id) = false := by simpa using he
        simp only [e1] at HL
        clear HNK HLK HK HY e1
        go_wp2_with fail
        refine (HL.out).mono ?_
        rintro e w2 ⟨rfl, hb2⟩
        go_wp2_with fail
        exact ⟨⟨k + 1, hlt, by go_num, hb.trans (hb2.mono hb.size), HZ⟩, by simp [intOf]; omega⟩
    · have HZ := Lib.hid (HN.out fun j h => HK.out j (by omega) h)
      clear HN HY HK
      go_wp2_with fail
      go_ret
      exact ⟨ret_int HZ.out.symm, hb⟩

set_option maxRecDepth 100000 in
set_option maxHeartbeats 800000 in
theorem place_any (A : Option Addr) (l : List Nd) (c : Nat) (id : Int) (w : World) (hl : Nds w w.heap.size A l) (hn : l.length ≤ 100000) :
    Calls Tryd.prog 81 #[.slice A l.length c, .int .i64 id] w fun e w' => e = .returned (.int .i64 (plcI l id)) ∧ Below w.heap.size w w' := by
  have hb := (Below.refl w.heap.size w).alloc (Nat.le_refl _) (.cells #[.int .i64 id] 3)
  have hX := Has.new w 3 #[.int .i64 id]
  have H := Lib.hid (idx_any A l c id w.heap.size _ ((hl.below hb).more hb.size) hn (hX.cell 0) hX.lt)
  clear hX
  go_enter Tryd.func81, Tryd.ntmps81
  go_wp2_with fail
  refine (H.out).mono ?_
  rintro e w2 ⟨rfl, hb2⟩
  go_wp2_with fail
  go_ret
  exact ⟨rfl, hb.trans (hb2.mono hb.size)⟩

theorem ros_wide {l : List Nd} (h : chkV l = 0) : ∀ x ∈ l, x.word < 4294967296 := fun x hx => by
  have := List.all_eq_true.1 (chkV_zero.1 h).2.1 x hx
  simp [Nd.ok] at this
  omega
/-- What the call under Rank and Interval gives. -/
def RkP (l : List Nd) (id : Int) (w : World) (e : Ending) (w' : World) : Prop :=
  (plc (srt l) id < (srt l).length ∧ ∃ A c, e = .returned (.tuple #[.slice A (srt l).length c, .int .i64 (plc (srt l) id : Int), .bool true]) ∧ Nds w' w'.heap.size A (srt l) ∧ Below w.heap.size w w') ∨
  (¬ plc (srt l) id < (srt l).length ∧ e = .returned (.tuple #[.slice none 0 0, .int .i64 0, .bool false]) ∧ Below w.heap.size w w')

end
section
open Go.RowKit

theorem gt_kl (y key : ByteArray) : (!Op.bytesLess y.toList key.toList && !y.toList == key.toList) = kl key y := by
  show (!kl y key && !y.toList == key.toList) = kl key y
  cases h : kl y key
  · by_cases e : y = key
    · subst e
      simp [kl_irrefl]
    · have h1 : ¬ y.toList = key.toList := fun k => e (toList_inj k)
      cases k : kl key y
      · exact absurd (kl_tri h k) e
      · simp [h1]
  · simp [kl_asymm h]
/-- A function value that answers p at each index below n, in every world behind w. -/
def AskN (f : Nat) (lb : Array Value) (p : Nat → Bool) (n : Nat) (w : World) : Prop := ∀ W, Below w.heap.size w W → ∀ i : Nat, i < n → Calls Tryd.prog f (#[.int .i64 (i : Int)] ++ lb) W fun e W' => e = .returned (.bool (p i)) ∧ Below W.heap.size W W'

theorem Nd.ok_vk {x : Nd} (h : Nd.ok x = true) : x.key.size ≤ 64 := by
  simp [Nd.ok, vk] at h
  omega
/-- A slice of numbers below block B, as it is read. -/
def Ins (w : World) (B : Nat) (A : Option Addr) (l : List Int) : Prop :=
  l ≠ [] → ∃ b o, A = some ⟨b, o, none⟩ ∧ b < B ∧ ∀ i (h : i < l.length), (-9223372036854775808 ≤ l[i] ∧ l[i] ≤ 9223372036854775807) ∧ w.cell? ⟨b, o + i, none⟩ = some (.int .i64 l[i])
theorem Ins.keep {w w' : World} {B : Nat} {A : Option Addr} {l : List Int} (h : Ins w B A l) (k : ∀ i, i < B → w'.heap[i]? = w.heap[i]?) : Ins w' B A l := fun hn => by
  obtain ⟨b, o, e, hb, hc⟩ := h hn
  exact ⟨b, o, e, hb, fun i hi => ⟨(hc i hi).1, (World.cell?_of_block (k b hb)).trans (hc i hi).2⟩⟩
theorem Ins.more {w : World} {B B' : Nat} {A : Option Addr} {l : List Int} (h : Ins w B A l) (hB : B ≤ B') : Ins w B' A l := fun hn => by
  obtain ⟨b, o, e, hb, hc⟩ := h hn
  exact ⟨b, o, e, by omega, hc⟩
theorem Ins.at_ {w : World} {B : Nat} {A : Option Addr} {l : List Int} (h : Ins w B A l) {i : Nat} (hi : i < l.length) : ∃ b o, A = some ⟨b, o, none⟩ ∧ b < B ∧ (-9223372036854775808 ≤ l[i] ∧ l[i] ≤ 9223372036854775807) ∧ w.cell? ⟨b, o + i, none⟩ = some (.int .i64 l[i]) := by
  obtain ⟨b, o, e, hb, hc⟩ := h (by intro e; rw [e] at hi; simp at hi)
  exact ⟨b, o, e, hb, (hc i hi).1, (hc i hi).2⟩
theorem OwnN.low {w : World} {base base' : Nat} {v : Value} {l : List Nd} (h : OwnN w base v l) (hb : base' ≤ base) : OwnN w base' v l := by
  obtain ⟨h1, h2 | ⟨g, cap, cur, h3, h4, h5, h6⟩⟩ := h
  · exact ⟨h1, .inl h2⟩
  · exact ⟨h1, .inr ⟨g, cap, cur, h3, by omega, h5, h6⟩⟩
/-- What Without gives. -/
def wout (l : List Nd) (ids : List Int) : List Nd := l.filter fun x => !ids.contains x.id
theorem wout_yes {l : List Nd} {ids : List Int} {k : Nat} (hk : k < l.length) (h : l[k].id ∉ ids) : wout (l.take (k + 1)) ids = wout (l.take k) ids ++ [l[k]] := by
  unfold wout
  rw [List.take_succ_eq_append_getElem hk, List.filter_append]
  simp [h]
theorem wout_no {l : List Nd} {ids : List Int} {k : Nat} (hk : k < l.length) (h : l[k].id ∈ ids) : wout (l.take (k + 1)) ids = wout (l.take k) ids := by
  unfold wout
  rw [List.take_succ_eq_append_getElem hk, List.filter_append]
  simp [h]
def keysI (l : List Int) (z : Lit) : Prop := ∃ x ∈ l, z = .int .i64 x
theorem keysI_next {l : List Int} {k : Nat} (h : k < l.length) (z : Lit) : (z = .int .i64 l[k] ∨ keysI (l.take k) z) ↔ keysI (l.take (k + 1)) z := by
  unfold keysI
  rw [List.take_succ_eq_append_getElem h]
  simp only [List.mem_append, List.mem_singleton]
  constructor
  · rintro (h | ⟨x, hx, e⟩)
    · exact ⟨_, .inr rfl, h⟩
    · exact ⟨x, .inl hx, e⟩
  · rintro ⟨x, hx | rfl, e⟩
    · exact .inr ⟨x, hx, e⟩
    · exact .inl e
theorem keysI_mem {l : List Int} {x : Int} : keysI l (.int .i64 x) ↔ x ∈ l := by
  constructor
  · rintro ⟨y, hy, e⟩
    injection e with _ e
    rw [e]; exact hy
  · exact fun h => ⟨x, h, rfl⟩
end
section
open Go.RowKit Go.Maps

theorem ownsMap_block {H : Type} {P : Program} {w w' : World} {k : TypeId} {R : Value → Option (DataW H × List MemPlace)} {b n : Nat} {D : DataW H} (h : w.ownsMap P k R b n D) (e : w'.heap[b]? = w.heap[b]?) : w'.ownsMap P k R b n D := by
  obtain ⟨es, clock, hb, F, hs, hD⟩ := h
  exact ⟨es, clock, e.trans hb, F, hs, hD⟩

set_option maxRecDepth 100000 in
set_option maxHeartbeats 3200000 in
theorem without_any (A A2 : Option Addr) (l : List Nd) (c c2 : Nat) (ids : List Int) (w : World) (hl : Nds w w.heap.size A l) (hi : Ins w w.heap.size A2 ids) (hn : l.length ≤ 1000) (hm : ids.length ≤ 1000) (hid : ∀ x ∈ l, -9223372036854775808 ≤ x.id ∧ x.id ≤ 9223372036854775807) :
    Calls Tryd.prog 9 #[.slice A l.length c, .slice A2 ids.length c2] w (NdsP (wout l ids) w) := by
  obtain ⟨inf, hif, hif1, hif2, hif3⟩ := infoN_parts
  have hmm := @run_makeMap Tryd.prog
  go_enter Tryd.func9, Tryd.ntmps9
  go_wp2_with fail
  go_loopw [14] (fun i wr => ∃ (k : Nat) (D : DataW Unit), k ≤ ids.length ∧ i = .int .i64 (k : Int) ∧ wr.ownsMap Tryd.prog 3 (plainElem Tryd.prog 4) w.heap.size k D ∧ Hid (SetD D (keysI (ids.take k))) ∧ Below w.heap.size w wr ∧ w.heap.size + 1 ≤ wr.heap.size) (fun i _ => ids.length - (intOf i).toNat)
  case atStart =>
    exact ⟨0, .map [], by omega, rfl, World.ownsMap_made _ _ _ _, Lib.hid (SetD.nil.congr fun z => by simp [keysI]), (Below.refl _ _).alloc (Nat.le_refl _) _, by rw [World.size_alloc]; omega⟩
  case round =>
    obtain ⟨k, D, hk, rfl, hmap, HS, hB, hsz⟩ := hrel
    by_cases hlt : k < ids.length
    · obtain ⟨b, o, hA2, hb, hv, f1⟩ := hi.at_ hlt
      subst hA2
      have HI := Lib.hid (fun z => keysI_next hlt z)
      replace f1 := (hB.cell (p := ⟨b, o + k, none⟩) hb).trans f1
      generalize ids[k] = y at *
      have i0 : (0 : Int) ≤ (k : Int) := by omega
      have i1 : (k : Int) < (ids.length : Int) := by omega
      have hk1 : keyOf Tryd.prog 3 (.int .i64 y) = some (.int .i64 y) := keyOf_int_mk Tryd.underlying3 (WalkArith.wf_i64 (by omega))
      go_wp2_with (at_mapUpdate; refine wpList_mapUpdate_own _ rfl _ _ _ 54 rfl 3 4 lawInt Tryd.underlying54 _ w.heap.size k D rfl hmap (by unfold maxLen; omega) _ _ _ rfl rfl hk1 (.lit (.bool true)) [] (plainElem_bool Tryd.underlying4 _) ?_; intro w1 hm3 hgr3; have hs3 := hgr3.size; have hB3 := hB.grown hgr3 hB.size (fun j e => (by have := Option.some.inj e; omega)))
      exact ⟨⟨k + 1, _, hlt, by go_num, hm3, Lib.hid ((HS.out.put (k := .int .i64 y) hmap.isMap trivial).congr HI.out), hB3, by omega⟩, by simp [intOf]; omega⟩
    · have HZ : Hid (SetD D (keysI ids)) := Lib.hid (by
        have := HS.out
        rwa [List.take_of_length_le (by omega)] at this)
      clear HS
      go_wp2_with fail
      go_loopw [8, 23] (fun bv i wz => ∃ (v1 : Value) (q : Nat) (l1 : List Nd), v1 = bv ∧ q ≤ l.length ∧ i = .int .i64 (q : Int) ∧ OwnN wz (w.heap.size + 1) v1 l1 ∧ wz.ownsMap Tryd.prog 3 (plainElem Tryd.prog 4) w.heap.size k D ∧ Below w.heap.size w wz ∧ w.heap.size + 1 ≤ wz.heap.size ∧ Hid (l1 = wout (l.take q) ids) ∧ l1.length ≤ q) (fun _ i _ => l.length - (intOf i).toNat)
      case atStart => exact ⟨_, 0, [], rfl, by omega, rfl, OwnN.nil _ _, hmap, hB, hsz, Lib.hid (by simp [wout]), by simp⟩
      case round =>
        clear hmap hB hsz
        obtain ⟨v1, q, l1, rfl, hq, rfl, ho1, hmap, hB, hsz, HL, hlen⟩ := hrel
        by_cases hlt2 : q < l.length
        · obtain ⟨b, o, hA2, hb, f1, f2, f3⟩ := hl.at_ hlt2
          subst hA2
          have hyw := hid _ (List.getElem_mem hlt2)
          have HY := Lib.hid (fun (hy : l[q].id ∉ ids) => wout_yes hlt2 hy)
          have HNo := Lib.hid (fun (hy : l[q].id ∈ ids) => wout_no hlt2 hy)
          replace f1 := (hB.cell (p := ⟨b, o + q * 3, none⟩) hb).trans f1
          replace f2 := (hB.cell (p := ⟨b, o + q * 3 + 1, none⟩) hb).trans f2
          replace f3 := (hB.cell (p := ⟨b, o + q * 3 + 2, none⟩) hb).trans f3
          generalize l[q] = y at *
          obtain ⟨yi, yk, yw⟩ := y
          have i0 : (0 : Int) ≤ (q : Int) := by omega
          have i1 : (q : Int) < (l.length : Int) := by omega
          obtain ⟨A3, c3, hv3, -⟩ := ho1.read
          have hoa := ho1.below ((Below.refl _ _).alloc (Nat.le_refl _) (.cells #[.int .i64 yi, .string yk, .int .u32 (yw : Int)] 30))
          have hBa := hB.alloc hB.size (.cells #[.int .i64 yi, .string yk, .int .u32 (yw : Int)] 30)
          have hma := hmap.alloc (.cells #[.int .i64 yi, .string yk, .int .u32 (yw : Int)] 30)
          have hX := Has.new wr 30 #[.int .i64 yi, .string yk, .int .u32 (yw : Int)]
          have x0 := hX.cell 0
          have x1 := hX.cell 1
          have x2 := hX.cell 2
          have hsa : (wr.alloc (.cells #[.int .i64 yi, .string yk, .int .u32 (yw : Int)] 30)).heap.size = wr.heap.size + 1 := World.size_alloc _ _
          subst hv3
          have hk1 : keyOf Tryd.prog 3 (.int .i64 yi) = some (.int .i64 yi) := keyOf_int_mk Tryd.underlying3 (WalkArith.wf_i64 (by simpa using hyw))
          obtain ⟨y1, hr1, hat1⟩ := look_bool lawInt Tryd.underlying54 Tryd.underlying4 (zeroBool _) hma hk1
          have q1 := HZ.out.at_ (k := .int .i64 yi) trivial hat1
          rw [keysI_mem] at q1
          clear hat1 hX hyw
          cases y1
          · have HF := Lib.hid (HY.out fun h => by have := q1.2 h; cases this)
            have HMA := Lib.hid hma
            clear q1 HY HNo
            go_wp2_with (at_builtin; refine wpList_pushN rfl _ _ 25 rfl (w.heap.size + 1) inf Tryd.underlying25 hif hif1 hif2 hif3 (.slice A3 l1.length c3) l1 _ ⟨yi, yk, yw⟩ rfl hoa (by rw [World.size_alloc]; rfl) (by omega) (by omega) ?_; intro v2 w6 ho6 hb6; obtain ⟨l2, hl2⟩ : ∃ l2, l2 = l1 ++ [(⟨yi, yk, yw⟩ : Nd)] := ⟨_, rfl⟩; rw [← hl2] at ho6; have hln2 : l2.length = l1.length + 1 := (by rw [hl2]; simp); have HL2 := Lib.hid hl2; have HLN := Lib.hid hln2; clear hl2 hln2; obtain ⟨A4, c4, rfl, -⟩ := ho6.read)
            exact ⟨⟨_, q + 1, l2, rfl, hlt2, by go_num, ho6, ownsMap_block HMA.out (hb6.block _ (Nat.lt_succ_self _)), hBa.trans (hb6.mono (by omega)), by have := hb6.size; omega, Lib.hid (by rw [HL2.out, HL.out, HF.out]), by have := HLN.out; omega⟩, by simp [intOf]; omega⟩
          · have HF := Lib.hid (HNo.out (q1.1 rfl))
            have HMA := Lib.hid hma
            clear q1 HY HNo
            go_wp2_with fail
            exact ⟨⟨_, q + 1, l1, rfl, hlt2, by go_num, hoa, HMA.out, hBa, by omega, Lib.hid (by rw [HL.out, HF.out]), by omega⟩, by simp [intOf]; omega⟩
        · have hL2 : l1 = wout l ids := by rw [HL.out, List.take_of_length_le (by omega)]
          obtain ⟨A3, c3, rfl, -⟩ := ho1.read
          have HL2 := Lib.hid hL2
          clear hL2 HL
          go_wp2_with fail
          go_ret
          rw [← HL2.out]
          exact ⟨A3, c3, rfl, ho1.low (by omega), hB⟩

theorem ask_kl {s : List Nd} (hs : Asc s) (key : ByteArray) {i : Nat} (hi : i < s.length) : kl key s[i].key = decide (abv s key ≤ i) := by
  by_cases h : abv s key ≤ i
  · rw [abv_hi hs hi h]; simp [h]
  · rw [abv_lo (s := s) (key := key) (j := i) (by omega)]; simp [h]

end
section
open Go.RowKit

/-- The first node with a number. -/
def fndV (l : List Nd) (id : Int) : Nd := (l[plc l id]?).getD Nd.none
theorem fnd_yes {l : List Nd} {id : Int} {k : Nat} (hk : k < l.length) (h1 : l[k].id = id) (h2 : ∀ j (h : j < k), (l[j]'(by omega)).id ≠ id) : fndV l id = l[k] ∧ decide (plc l id < l.length) = true := by
  unfold fndV
  rw [plc_uniq hk h1 h2, List.getElem?_eq_getElem hk]
  exact ⟨rfl, by simpa using hk⟩
theorem fnd_no {l : List Nd} {id : Int} (h : ∀ j (h : j < l.length), l[j].id ≠ id) : fndV l id = Nd.none ∧ decide (plc l id < l.length) = false := by
  unfold fndV
  rw [plc_none h, List.getElem?_eq_none (Nat.le_refl _)]
  exact ⟨rfl, by simp⟩
/-- What Find gives. -/
def FndP (l : List Nd) (id : Int) (w : World) (e : Ending) (w' : World) : Prop := e = .returned (.tuple #[(fndV l id).val, .bool (decide (plc l id < l.length))]) ∧ Below w.heap.size w w'

set_option maxRecDepth 100000 in
set_option maxHeartbeats 1600000 in
theorem find_any (A : Option Addr) (l : List Nd) (c : Nat) (id : Int) (w : World) (hl : Nds w w.heap.size A l) (hn : l.length ≤ 100000) :
    Calls Tryd.prog 65 #[.slice A l.length c, .int .i64 id] w (FndP l id w) := by
  have hb0 := (Below.refl w.heap.size w).alloc (Nat.le_refl _) (.cells #[.int .i64 0, .string ByteArray.empty, .int .u32 0] 30)
  have hX := Has.new w 30 #[.int .i64 0, .string ByteArray.empty, .int .u32 0]
  have HP := place_any A l c id _ ((hl.below hb0).more hb0.size) hn
  have HX := Lib.hid hX
  have HB0 := Lib.hid hb0
  unfold FndP
  by_cases hf : plc l id < l.length
  · have hz : plcI l id = (plc l id : Int) := if_pos hf
    rw [hz] at HP
    have HP := Lib.hid HP
    obtain ⟨b, o, hA2, hbl, f1, f2, f3⟩ := hl.at_ hf
    subst hA2
    have HV : Hid (fndV l id = l[plc l id]) := Lib.hid (by unfold fndV; rw [List.getElem?_eq_getElem hf]; rfl)
    have hd : decide (plc l id < l.length) = true := by simpa using hf
    rw [hd]
    generalize l[plc l id] = y at *
    generalize plc l id = k at *
    generalize fndV l id = V at *
    obtain ⟨yi, yk, yw⟩ := y
    have i0 : (0 : Int) ≤ (k : Int) := by omega
    have i1 : (k : Int) < (l.length : Int) := by omega
    have i2 : ¬ (k : Int) < 0 := by omega
    clear hz hd hl hX hb0
    go_enter Tryd.func65, Tryd.ntmps65
    go_wp2_with fail
    refine (HP.out).mono ?_
    rintro e w1 ⟨rfl, hb1⟩
    have X1 := HX.out.below hb1
    have x0 := X1.cell 0
    have x1 := X1.cell 1
    have x2 := X1.cell 2
    have z := fun o => X1.frozen o
    have hB1 := HB0.out.trans (hb1.mono HB0.out.size)
    replace f1 := (hB1.cell (p := ⟨b, o + k * 3, none⟩) hbl).trans f1
    replace f2 := (hB1.cell (p := ⟨b, o + k * 3 + 1, none⟩) hbl).trans f2
    replace f3 := (hB1.cell (p := ⟨b, o + k * 3 + 2, none⟩) hbl).trans f3
    have HB1 := Lib.hid hB1
    clear hb1 X1 hB1
    go_wp2_with fail
    refine bodyPost_ret (v := .tuple #[.agg #[.int .i64 yi, .string yk, .int .u32 (yw : Int)], .bool true]) (by simp [results, Tryd.results65, go_sem, *]) rfl ⟨by rw [HV.out], ?_⟩
    exact ((HB1.out.setCell (Nat.le_refl _) _).setCell (Nat.le_refl _) _).setCell (Nat.le_refl _) _
  · have hz : plcI l id = -1 := if_neg hf
    rw [hz] at HP
    have HP := Lib.hid HP
    have HV : Hid (fndV l id = Nd.none) := Lib.hid (by unfold fndV; rw [List.getElem?_eq_none (by omega)]; rfl)
    have hd : decide (plc l id < l.length) = false := by simpa using hf
    rw [hd]
    generalize fndV l id = V at *
    clear hz hd hl hX hb0 hf
    go_enter Tryd.func65, Tryd.ntmps65
    go_wp2_with fail
    refine (HP.out).mono ?_
    rintro e w1 ⟨rfl, hb1⟩
    have X1 := HX.out.below hb1
    have x0 := X1.cell 0
    have x1 := X1.cell 1
    have x2 := X1.cell 2
    have z := fun o => X1.frozen o
    have HB1 := Lib.hid (HB0.out.trans (hb1.mono HB0.out.size))
    clear hb1 X1
    go_wp2_with fail
    refine bodyPost_ret (v := .tuple #[.agg #[.int .i64 0, .string ⟨#[]⟩, .int .u32 0], .bool false]) (by simp [results, Tryd.results65, go_sem, *]) rfl ⟨by rw [HV.out]; rfl, ?_⟩
    exact ((HB1.out.setCell (Nat.le_refl _) _).setCell (Nat.le_refl _) _).setCell (Nat.le_refl _) _

end
end Go.Proofs.YtjokbdhineilcaaDoor
