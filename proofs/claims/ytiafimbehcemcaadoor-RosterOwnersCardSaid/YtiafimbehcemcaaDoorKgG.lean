/-
  Find, Rank and Interval of package roster, for rosters of 1 to 19 nodes: what they answer. Condition: the nodes can be read.
-/
import Derived.Test.YtiafimbehcemcaaDoorKgF
import Derived.Test.YtiafimbehcemcaaDoorKfA
namespace Go.Proofs.YtiafimbehcemcaaDoor
open Go.RowKit

set_option maxRecDepth 100000 in
set_option maxHeartbeats 800000 in
theorem lit_any (x : Nd) (id : Int) (B : Nat) (w : World) (hB : w.cell? ⟨B, 0, none⟩ = some (.int .i64 id)) (hl : B < w.heap.size) :
    Calls Tryd.prog 146 #[.agg #[.int .i64 x.id, .string x.key, .int .u32 (x.word : Int)], .pointer (some ⟨B, 0, none⟩)] w fun e w' => e = .returned (.bool (x.id == id)) ∧ Below w.heap.size w w' := by
  have hX := Has.new w 60 #[.int .i64 x.id, .string x.key, .int .u32 (x.word : Int)]
  have x0 := hX.cell 0
  have hb := (Below.refl w.heap.size w).alloc (Nat.le_refl _) (.cells #[.int .i64 x.id, .string x.key, .int .u32 (x.word : Int)] 60)
  have hB' := (hb.cell (p := ⟨B, 0, none⟩) hl).trans hB
  clear hX hB
  go_enter Tryd.func146, Tryd.ntmps146
  go_wp2_with fail
  go_ret
  exact ⟨rfl, hb⟩

def plcI (s : List Nd) (id : Int) : Int := if plc s id < s.length then (plc s id : Int) else -1
theorem plcI_no {s : List Nd} {id : Int} (h : ∀ j (h : j < s.length), s[j].id ≠ id) : plcI s id = -1 := by
  unfold plcI; rw [plc_none h, if_neg (Nat.lt_irrefl _)]
theorem plcI_yes {s : List Nd} {id : Int} {k : Nat} (hk : k < s.length) (h1 : s[k].id = id) (h2 : ∀ j (h : j < k), (s[j]'(by omega)).id ≠ id) : plcI s id = (k : Int) := by
  unfold plcI; rw [plc_uniq hk h1 h2, if_pos hk]

set_option maxRecDepth 100000 in
set_option maxHeartbeats 1600000 in
theorem idx_any (A : Option Addr) (l : List Nd) (c : Nat) (id : Int) (B : Nat) (w : World) (hl : Nds w w.heap.size A l) (hn : l.length ≤ 100000) (hB : w.cell? ⟨B, 0, none⟩ = some (.int .i64 id)) (hBl : B < w.heap.size) :
    Calls Tryd.prog 126 #[.slice A l.length c, .func (.func 146) #[] #[.pointer (some ⟨B, 0, none⟩)]] w fun e w' => e = .returned (.int .i64 (plcI l id)) ∧ Below w.heap.size w w' := by
  have HN := Lib.hid (plcI_no (s := l) (id := id))
  have HY := Lib.hid (fun (k : Nat) (hk : k < l.length) => plcI_yes (s := l) (id := id) hk)
  generalize plcI l id = Z at *
  go_enter Tryd.func126, Tryd.ntmps126
  go_wp2_with fail
  go_loopw [8] (fun i wr => ∃ k : Nat, k ≤ l.length ∧ i = .int .i64 (k : Int) ∧ Below w.heap.size w wr ∧ Hid (∀ j (_ : j < k) (h : j < l.length), l[j].id ≠ id)) (fun i _ => l.length - (intOf i).toNat)
  case atStart => exact ⟨0, Nat.zero_le _, rfl, Below.refl _ _, Lib.hid (fun j h => absurd h (by omega))⟩
  case round =>
    obtain ⟨k, hk, rfl, hb, HK⟩ := hrel
    by_cases hlt : k < l.length
    · obtain ⟨b, o, hA2, hbl, f1, f2, f3⟩ := hl.at_ hlt
      subst hA2
      replace f1 := (hb.cell (p := ⟨b, o + k * 3, none⟩) hbl).trans f1
      replace f2 := (hb.cell (p := ⟨b, o + k * 3 + 1, none⟩) hbl).trans f2
      replace f3 := (hb.cell (p := ⟨b, o + k * 3 + 2, none⟩) hbl).trans f3
      have HLK := Lib.hid (HY.out k hlt)
      have HNK := Lib.hid (fun (h : l[k].id ≠ id) (j : Nat) (h1 : j < k + 1) (h2 : j < l.length) => (by
        by_cases e : j = k
        · subst e; exact h
        · exact HK.out j (by omega) h2 : l[j].id ≠ id))
      have HL := Lib.hid (lit_any l[k] id B wr ((hb.cell (p := ⟨B, 0, none⟩) hBl).trans hB) (Nat.lt_of_lt_of_le hBl hb.size))
      generalize l[k] = y at *
      obtain ⟨yi, yk, yw⟩ := y
      have i0 : (0 : Int) ≤ (k : Int) := by omega
      have i1 : (k : Int) < (l.length : Int) := by omega
      by_cases he : yi = id
      · subst he
        have HZ := Lib.hid (HLK.out rfl fun j h => HK.out j h (by omega))
        have e1 : (yi == yi) = true := by simp
        simp only [e1] at HL
        clear HNK HLK HK HN HY e1
        go_wp2_with fail
        refine (HL.out).mono ?_
        rintro e w2 ⟨rfl, hb2⟩
        go_wp2_with fail
        go_ret
        exact ⟨ret_int HZ.out.symm, hb.trans (hb2.mono hb.size)⟩
      · have HZ := Lib.hid (HNK.out he)
        have e1 : (yi == id) = false := by simpa using he
        simp only [e1] at HL
        clear HNK HLK HK HY e1
        go_wp2_with fail
        refine (HL.out).mono ?_
        rintro e w2 ⟨rfl, hb2⟩
        go_wp2_with fail
        exact ⟨⟨k + 1, hlt, by go_num, hb.trans (hb2.mono hb.size), HZ⟩, by simp [intOf]; omega⟩
    · have HZ := Lib.hid (HN.out fun j h => HK.out j (by omega) h)
      clear HN HY HK
      go_wp2_with fail
      go_ret
      exact ⟨ret_int HZ.out.symm, hb⟩

set_option maxRecDepth 100000 in
set_option maxHeartbeats 800000 in
theorem place_any (A : Option Addr) (l : List Nd) (c : Nat) (id : Int) (w : World) (hl : Nds w w.heap.size A l) (hn : l.length ≤ 100000) :
    Calls Tryd.prog 100 #[.slice A l.length c, .int .i64 id] w fun e w' => e = .returned (.int .i64 (plcI l id)) ∧ Below w.heap.size w w' := by
  have hb := (Below.refl w.heap.size w).alloc (Nat.le_refl _) (.cells #[.int .i64 id] 3)
  have hX := Has.new w 3 #[.int .i64 id]
  have H := Lib.hid (idx_any A l c id w.heap.size _ ((hl.below hb).more hb.size) hn (hX.cell 0) hX.lt)
  clear hX
  go_enter Tryd.func100, Tryd.ntmps100
  go_wp2_with fail
  refine (H.out).mono ?_
  rintro e w2 ⟨rfl, hb2⟩
  go_wp2_with fail
  go_ret
  exact ⟨rfl, hb.trans (hb2.mono hb.size)⟩

theorem ros_wide {l : List Nd} (h : chkV l = 0) : ∀ x ∈ l, x.word < 4294967296 := fun x hx => by
  have := List.all_eq_true.1 (chkV_zero.1 h).2.1 x hx
  simp [Nd.ok] at this
  omega
/-- What the call under Rank and Interval gives. -/
def RkP (l : List Nd) (id : Int) (w : World) (e : Ending) (w' : World) : Prop :=
  (plc (srt l) id < (srt l).length ∧ ∃ A c, e = .returned (.tuple #[.slice A (srt l).length c, .int .i64 (plc (srt l) id : Int), .bool true]) ∧ Nds w' w'.heap.size A (srt l) ∧ Below w.heap.size w w') ∨
  (¬ plc (srt l) id < (srt l).length ∧ e = .returned (.tuple #[.slice none 0 0, .int .i64 0, .bool false]) ∧ Below w.heap.size w w')

set_option maxRecDepth 100000 in
set_option maxHeartbeats 1600000 in
theorem ranked_any (A : Option Addr) (l : List Nd) (c : Nat) (id : Int) (w : World) (hl : Nds w w.heap.size A l) (h0 : l ≠ []) (hn : l.length < 20) (hchk : chkV l = 0) :
    Calls Tryd.prog 116 #[.slice A l.length c, .int .i64 id] w (RkP l id w) := by
  have HC := Lib.hid ((check_any A l c w hl (ros_wide hchk)).mono fun e w' h => (⟨by rw [h.1, hchk], h.2⟩ : e = .returned (.int .i64 0) ∧ Below w.heap.size w w'))
  have HS := Lib.hid (fun (w1 : World) (k : Below w.heap.size w w1) => sort_any A l c w1 ((hl.below k).more k.size) h0 hn)
  have HA := (chkV_zero.1 hchk).2.2
  have hsl : (srt l).length < 20 := by rw [(srt_srt l).len]; exact hn
  have HE : Hid (∀ s, Srt l s → s = srt l) := Lib.hid fun s h => srt_of h HA
  unfold RkP
  generalize srt l = S at *
  clear hl h0 hchk HA
  go_enter Tryd.func116, Tryd.ntmps116
  go_wp2_with fail
  refine (HC.out).mono ?_
  rintro e w1 ⟨rfl, hb1⟩
  go_wp2_with fail
  refine (HS.out w1 hb1).mono ?_
  rintro e w2 ⟨s, hs, A2, c2, rfl, ho, hb2⟩
  obtain rfl := HE.out s hs
  obtain ⟨_, _, er, hr⟩ := ho.read
  injection er with e1 _ e2
  subst e1 e2
  have B2 := hb1.trans (hb2.mono hb1.size)
  have HP := Lib.hid (place_any A2 s c2 id w2 hr (by omega))
  clear HS HC HE ho hb1 hb2 hs
  by_cases hf : plc s id < s.length
  · have hz : plcI s id = (plc s id : Int) := if_pos hf
    rw [hz] at HP
    obtain ⟨k, hk⟩ : ∃ k, k = plc s id := ⟨_, rfl⟩
    rw [← hk] at HP hf
    have HK := Lib.hid hk
    clear hz hk
    have k0 : ¬ (k : Int) < 0 := by omega
    go_wp2_with fail
    refine (HP.out).mono ?_
    rintro e w3 ⟨rfl, hb3⟩
    have hr3 := (hr.below hb3).more hb3.size
    have B3 := B2.trans (hb3.mono B2.size)
    go_wp2_with fail
    go_ret3
    exact .inl ⟨by rw [← HK.out]; exact hf, A2, c2, by rw [← HK.out]; rfl, hr3, B3⟩
  · have hz : plcI s id = -1 := if_neg hf
    rw [hz] at HP
    clear hz
    go_wp2_with fail
    refine (HP.out).mono ?_
    rintro e w3 ⟨rfl, hb3⟩
    have B3 := B2.trans (hb3.mono B2.size)
    go_wp2_with fail
    go_ret3
    exact .inr ⟨hf, rfl, B3⟩

set_option maxRecDepth 100000 in
set_option maxHeartbeats 1600000 in
theorem rank_any (A : Option Addr) (l : List Nd) (c : Nat) (id : Int) (w : World) (hl : Nds w w.heap.size A l) (h0 : l ≠ []) (hn : l.length < 20) (hchk : chkV l = 0) :
    Calls Tryd.prog 57 #[.slice A l.length c, .int .i64 id] w fun e w' => e = .returned (.tuple #[.int .i64 (rnkV (srt l) id : Int), .bool (decide (plc (srt l) id < (srt l).length))]) ∧ Below w.heap.size w w' := by
  have HR := Lib.hid (ranked_any A l c id w hl h0 hn hchk)
  have HV : Hid (rnkV (srt l) id = if plc (srt l) id < (srt l).length then plc (srt l) id else 0) := Lib.hid rfl
  generalize rnkV (srt l) id = V at *
  obtain ⟨D, hD⟩ : ∃ D, D = decide (plc (srt l) id < (srt l).length) := ⟨_, rfl⟩
  rw [← hD]
  have HD := Lib.hid hD
  clear hD
  go_enter Tryd.func57, Tryd.ntmps57
  go_wp2_with fail
  refine (HR.out).mono ?_
  rintro e w1 (⟨hf, A1, c1, rfl, hr, hb⟩ | ⟨hf, rfl, hb⟩)
  · have e1 : V = plc (srt l) id := by rw [HV.out, if_pos hf]
    have e2 : D = true := by rw [HD.out]; simpa using hf
    subst e1 e2
    clear hr hf HV HD
    go_wp2_with fail
    go_ret2
    exact ⟨rfl, hb⟩
  · have e1 : V = 0 := by rw [HV.out, if_neg hf]
    have e2 : D = false := by rw [HD.out]; simpa using hf
    subst e1 e2
    clear hf HV HD
    go_wp2_with fail
    go_ret2
    exact ⟨rfl, hb⟩

set_option maxRecDepth 100000 in
set_option maxHeartbeats 3200000 in
theorem interval_any (A : Option Addr) (l : List Nd) (c : Nat) (id : Int) (w : World) (hl : Nds w w.heap.size A l) (h0 : l ≠ []) (hn : l.length < 20) (hchk : chkV l = 0) :
    Calls Tryd.prog 55 #[.slice A l.length c, .int .i64 id] w fun e w' => e = .returned (.tuple #[(ivlV (srt l) id).val, .bool (decide (plc (srt l) id < (srt l).length))]) ∧ Below w.heap.size w w' := by
  have hb0 := (Below.refl w.heap.size w).alloc (Nat.le_refl _) (.cells #[.string ByteArray.empty, .bool false, .string ByteArray.empty, .bool false] 74)
  have hX := Has.new w 74 #[.string ByteArray.empty, .bool false, .string ByteArray.empty, .bool false]
  have HR := Lib.hid (ranked_any A l c id _ ((hl.below hb0).more hb0.size) h0 hn hchk)
  have HV : Hid (ivlV (srt l) id = if plc (srt l) id < (srt l).length then ivlAt (srt l) (plc (srt l) id) else Rg.zero) := Lib.hid rfl
  have hsl : (srt l).length < 20 := by rw [(srt_srt l).len]; exact hn
  generalize ivlV (srt l) id = V at *
  obtain ⟨D, hD⟩ : ∃ D, D = decide (plc (srt l) id < (srt l).length) := ⟨_, rfl⟩
  rw [← hD]
  have HD := Lib.hid hD
  have HX := Lib.hid hX
  clear hD hX hl h0 hchk
  unfold RkP at HR
  generalize srt l = s at *
  go_enter Tryd.func55, Tryd.ntmps55
  go_wp2_with fail
  refine (HR.out).mono ?_
  rintro e w1 (⟨hf, A1, c1, rfl, hr, hb⟩ | ⟨hf, rfl, hb⟩)
  · have hX1 := HX.out.below hb
    have x0 := hX1.cell 0
    have x1 := hX1.cell 1
    have x2 := hX1.cell 2
    have x3 := hX1.cell 3
    have z0 := hX1.frozen 0
    have z1 := hX1.frozen 1
    have z2 := hX1.frozen 2
    have z3 := hX1.frozen 3
    have hV : V = ivlAt s (plc s id) := by rw [HV.out, if_pos hf]
    have e2 : D = true := by rw [HD.out]; simpa using hf
    subst e2
    clear HD HV HR
    obtain ⟨k, hk⟩ : ∃ k, k = plc s id := ⟨_, rfl⟩
    rw [← hk] at hf hV ⊢
    have HV := Lib.hid hV
    clear hk hV
    have hkn : k < s.length := hf
    have hk0 : (0 : Int) ≤ (k : Int) := by omega
    have hk1 : (k : Int) < (s.length : Int) := by omega
    have gx : ∀ ob : Obj, Has (w1.alloc ob) w.heap.size 74 #[.string ByteArray.empty, .bool false, .string ByteArray.empty, .bool false] := fun ob => hX1.alloc ob
    have gx0 := fun ob => (gx ob).cell 0
    have gx1 := fun ob => (gx ob).cell 1
    have gx2 := fun ob => (gx ob).cell 2
    have gx3 := fun ob => (gx ob).cell 3
    have gz := fun ob o => (gx ob).frozen o
    have HG : Hid (∀ ob u0 u1 u2 u3, Below w.heap.size w (((((w1.alloc ob).setCell ⟨w.heap.size, 0, none⟩ u0).setCell ⟨w.heap.size, 1, none⟩ u1).setCell ⟨w.heap.size, 2, none⟩ u2).setCell ⟨w.heap.size, 3, none⟩ u3)) := Lib.hid fun ob u0 u1 u2 u3 => by
      have h1 : Below w.heap.size w (w1.alloc ob) := (hb0.trans (hb.mono hb0.size)).alloc (hb0.trans (hb.mono hb0.size)).size ob
      exact (((h1.setCell (Nat.le_refl _) u0).setCell (Nat.le_refl _) u1).setCell (Nat.le_refl _) u2).setCell (Nat.le_refl _) u3
    clear x0 x1 x2 x3 z0 z1 z2 z3 hf gx hX1
    by_cases hp : 0 < k
    · have hpz : (0 : Int) < (k : Int) := by omega
      by_cases hk1n : k + 1 < s.length
      · have hkz : (k : Int) + 1 < (s.length : Int) := by omega
        have hkz0 : (0 : Int) ≤ (k : Int) + 1 := by omega
        obtain ⟨b, o, hA, hbl, g1, g2, g3⟩ := hr.at_ hkn
        subst hA
        have ga : ∀ ob : Obj, (w1.alloc ob).cell? ⟨b, o + k * 3 + 1, none⟩ = some (.string s[k].key) := fun ob => (((Below.refl w1.heap.size w1).alloc (Nat.le_refl _) ob).cell (p := ⟨b, o + k * 3 + 1, none⟩) hbl).trans g2
        obtain ⟨b2, o2, hA2, hbl2, q1, q2, q3⟩ := hr.at_ hk1n
        injection hA2 with hA2
        injection hA2 with e1 e2
        subst e1 e2
        have gb : ∀ ob : Obj, (w1.alloc ob).cell? ⟨b, o + (k + 1) * 3 + 1, none⟩ = some (.string s[k + 1].key) := fun ob => (((Below.refl w1.heap.size w1).alloc (Nat.le_refl _) ob).cell (p := ⟨b, o + (k + 1) * 3 + 1, none⟩) hbl2).trans q2
        have HI : Hid (V = ⟨⟨s[k].key, false⟩, ⟨s[k + 1].key, false⟩⟩) := Lib.hid (by rw [HV.out]; unfold ivlAt; rw [if_neg (by omega), if_pos (by omega), keyAt_lt hkn, keyAt_lt hk1n])
        clear HV
        generalize s[k].key = kk at *
        generalize s[k + 1].key = kn at *
        clear hr g1 g2 g3
        go_wp2_with fail
        refine bodyPost_ret (v := .tuple #[.agg #[.string kk, .bool false, .string kn, .bool false], .bool true]) (by simp [results, Tryd.results55, go_sem, *]) rfl ⟨by rw [HI.out], HG.out _ _ _ _ _⟩
      · have hkz : ¬ (k : Int) + 1 < (s.length : Int) := by omega
        obtain ⟨b, o, hA, hbl, g1, g2, g3⟩ := hr.at_ hkn
        subst hA
        have ga : ∀ ob : Obj, (w1.alloc ob).cell? ⟨b, o + k * 3 + 1, none⟩ = some (.string s[k].key) := fun ob => (((Below.refl w1.heap.size w1).alloc (Nat.le_refl _) ob).cell (p := ⟨b, o + k * 3 + 1, none⟩) hbl).trans g2
        have HI : Hid (V = ⟨⟨s[k].key, false⟩, ⟨ByteArray.empty, true⟩⟩) := Lib.hid (by rw [HV.out]; unfold ivlAt; rw [if_neg (by omega), if_neg (by omega), keyAt_lt hkn])
        clear HV
        generalize s[k].key = kk at *
        clear hr g1 g2 g3
        go_wp2_with fail
        refine bodyPost_ret (v := .tuple #[.agg #[.string kk, .bool false, .string ⟨#[]⟩, .bool true], .bool true]) (by simp [results, Tryd.results55, go_sem, *]) rfl ⟨by rw [HI.out]; rfl, HG.out _ _ _ _ _⟩
    · obtain rfl : k = 0 := by omega
      by_cases hk1n : 0 + 1 < s.length
      · have hkz : (1 : Int) < (s.length : Int) := by omega
        obtain ⟨b, o, hA2, hbl2, q1, q2, q3⟩ := hr.at_ hk1n
        subst hA2
        have gb : ∀ ob : Obj, (w1.alloc ob).cell? ⟨b, o + (0 + 1) * 3 + 1, none⟩ = some (.string s[0 + 1].key) := fun ob => (((Below.refl w1.heap.size w1).alloc (Nat.le_refl _) ob).cell (p := ⟨b, o + (0 + 1) * 3 + 1, none⟩) hbl2).trans q2
        simp only [Nat.zero_add, Nat.one_mul] at gb
        have HI : Hid (V = ⟨⟨ByteArray.empty, false⟩, ⟨s[0 + 1].key, false⟩⟩) := Lib.hid (by rw [HV.out]; unfold ivlAt; rw [if_pos (by omega), if_pos (by omega), keyAt_lt hk1n])
        clear HV
        generalize s[0 + 1].key = kn at *
        clear hr
        go_wp2_with fail
        refine bodyPost_ret (v := .tuple #[.agg #[.string ⟨#[]⟩, .bool false, .string kn, .bool false], .bool true]) (by simp [results, Tryd.results55, go_sem, *]) rfl ⟨by rw [HI.out]; rfl, HG.out _ _ _ _ _⟩
      · have hkz : ¬ (1 : Int) < (s.length : Int) := by omega
        have HI : Hid (V = ⟨⟨ByteArray.empty, false⟩, ⟨ByteArray.empty, true⟩⟩) := Lib.hid (by rw [HV.out]; unfold ivlAt; rw [if_pos (by omega), if_neg (by omega)])
        clear HV
        clear hr
        go_wp2_with fail
        refine bodyPost_ret (v := .tuple #[.agg #[.string ⟨#[]⟩, .bool false, .string ⟨#[]⟩, .bool true], .bool true]) (by simp [results, Tryd.results55, go_sem, *]) rfl ⟨by rw [HI.out]; rfl, HG.out _ _ _ _ _⟩
  · have hX1 := HX.out.below hb
    have x0 := hX1.cell 0
    have x1 := hX1.cell 1
    have x2 := hX1.cell 2
    have x3 := hX1.cell 3
    have gz := fun o => hX1.frozen o
    have HB := Lib.hid (hb0.trans (hb.mono hb0.size))
    have hV : V = Rg.zero := by rw [HV.out, if_neg hf]
    have e2 : D = false := by rw [HD.out]; simpa using hf
    subst e2
    have HV2 := Lib.hid hV
    clear HD HV HR hf hX1 hV
    go_wp2_with fail
    refine bodyPost_ret (v := .tuple #[.agg #[.string ⟨#[]⟩, .bool false, .string ⟨#[]⟩, .bool false], .bool false]) (by simp [results, Tryd.results55, go_sem, *]) rfl ⟨by rw [HV2.out]; rfl, (((HB.out.setCell (Nat.le_refl _) _).setCell (Nat.le_refl _) _).setCell (Nat.le_refl _) _).setCell (Nat.le_refl _) _⟩
end Go.Proofs.YtiafimbehcemcaaDoor
