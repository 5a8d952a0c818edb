/-
  OddRoster and Down of the tape: what they give. Conditions: the tape; 'letters' is as the program's text lays it; the nodes can be read.
-/
import Derived.Test.YtjokbdhineilcaaGreatDoorLgJ
import Derived.Test.YtjokbdhineilcaaGreatDoorLhE
import Derived.Deep.RegionLaw
import Derived.Deep.RegionHeld3
namespace Go.Proofs.YtjokbdhineilcaaGreatDoor
open Go.RowKit

theorem pick_new (g : Nat) (w1 : World) (ht : Tape w1 g) (vs : List Int) (hn : 0 < vs.length) (hm : vs.length ≤ 1000) :
    Calls Tryz.prog 11 #[.pointer (some ⟨g, 0, none⟩), .slice (some ⟨w1.heap.size, 0, none⟩) vs.length vs.length] (w1.alloc (.cells (vs.map (Value.int .i64)).toArray 3)) (PickP vs g (w1.alloc (.cells (vs.map (Value.int .i64)).toArray 3))) := by
  have hg := ht.lt
  have hV := Has.new w1 3 (vs.map (Value.int .i64)).toArray
  refine pick_any g w1.heap.size vs.length vs _ (ht.below ((Below.refl _ _).alloc (Nat.le_refl _) _)) hn hm (by simp) (by omega) (fun i hi => ?_)
  rw [hV.cell]
  simp [hi]
/-- What OddRoster gives. -/
def OddP (n g : Nat) (w : World) (e : Ending) (w' : World) : Prop := ∃ A c l, e = .returned (.slice A (l : List Nd).length c) ∧ OwnN w' w.heap.size (.slice A l.length c) l ∧ l.length ≤ n + 1 ∧ (∀ x ∈ l, x.wide) ∧ TStep w g w'
theorem oddP_mk {n g : Nat} {w w' : World} {v : Value} {l : List Nd} (ho : OwnN w' w.heap.size v l) (hn : l.length ≤ n + 1) (hw : ∀ x ∈ l, x.wide) (hs : TStep w g w') : OddP n g w (.returned v) w' := by
  obtain ⟨A, c, rfl, _⟩ := ho.read
  exact ⟨A, c, l, rfl, ho, hn, hw, hs⟩
theorem wide_snoc {l : List Nd} {x : Nd} (h : ∀ y ∈ l, y.wide) (k : x.wide) : ∀ y ∈ l ++ [x], y.wide := fun y hy => by
  rcases List.mem_append.1 hy with h1 | h1
  · exact h y h1
  · rw [List.mem_singleton.1 h1]; exact k
theorem wide_set {l : List Nd} {i : Nat} {x : Nd} (h : ∀ y ∈ l, y.wide) (k : x.wide) : ∀ y ∈ l.set i x, y.wide := fun y hy => by
  rcases List.mem_or_eq_of_mem_set hy with h1 | h1
  · exact h y h1
  · rw [h1]; exact k

theorem flatN_set0 : ∀ (l : List Nd) (pad : List Value) (i : Nat) (h : i < l.length) (v : Int), (flatN l ++ pad).set (i * 3) (.int .i64 v) = flatN (l.set i ⟨v, l[i].key, l[i].word⟩) ++ pad
  | [], _, _, h, _ => by simp at h
  | x :: l, pad, 0, _, v => rfl
  | x :: l, pad, i + 1, h, v => by
    have ih := flatN_set0 l pad i (by simpa using h) v
    rw [show (i + 1) * 3 = i * 3 + 3 by omega]
    show [_, _, _] ++ (flatN l ++ pad).set (i * 3) _ = _
    rw [ih]
    rfl
theorem flatN_set1 : ∀ (l : List Nd) (pad : List Value) (i : Nat) (h : i < l.length) (v : ByteArray), (flatN l ++ pad).set (i * 3 + 1) (.string v) = flatN (l.set i ⟨l[i].id, v, l[i].word⟩) ++ pad
  | [], _, _, h, _ => by simp at h
  | x :: l, pad, 0, _, v => rfl
  | x :: l, pad, i + 1, h, v => by
    have ih := flatN_set1 l pad i (by simpa using h) v
    rw [show (i + 1) * 3 + 1 = i * 3 + 1 + 3 by omega]
    show [_, _, _] ++ (flatN l ++ pad).set (i * 3 + 1) _ = _
    rw [ih]
    rfl
theorem flatN_set2 : ∀ (l : List Nd) (pad : List Value) (i : Nat) (h : i < l.length) (v : Nat), (flatN l ++ pad).set (i * 3 + 2) (.int .u32 (v : Int)) = flatN (l.set i ⟨l[i].id, l[i].key, v⟩) ++ pad
  | [], _, _, h, _ => by simp at h
  | x :: l, pad, 0, _, v => rfl
  | x :: l, pad, i + 1, h, v => by
    have ih := flatN_set2 l pad i (by simpa using h) v
    rw [show (i + 1) * 3 + 2 = i * 3 + 2 + 3 by omega]
    show [_, _, _] ++ (flatN l ++ pad).set (i * 3 + 2) _ = _
    rw [ih]
    rfl
theorem has_tstep {w w' : World} {g G : Nat} {t : TypeId} {cs : Array Value} (h : Has w G t cs) (hne : G ≠ g) (k : TStep w g w') : Has w' G t cs := (k.2.block G h.lt (fun e => hne (Option.some.inj e))).trans h

set_option maxRecDepth 100000 in
set_option maxHeartbeats 3200000 in
theorem oddRoster_nil (A : Option Addr) (c : Nat) (g : Nat) (w : World) (ht : Tape w g) (hl : Lets w) (hne : 0 ≠ g) :
    Calls Tryz.prog 12 #[.pointer (some ⟨g, 0, none⟩), .slice A 0 c] w (OddP 0 g w) := by
  have hg := ht.lt
  obtain ⟨inf, hif, hif1, hif2, hif3⟩ := infoN_parts
  have HP := Lib.hid (fun (w1 : World) (h : Tape w1 g) => pick_new g w1 h [0, 1, -1] (by simp) (by simp))
  have HP2 := Lib.hid (fun (w1 : World) (h : Tape w1 g) => pick_new g w1 h [0, 65536] (by simp) (by simp))
  have hst := TStep.refl ht
  have hq : ([] : List Nd).length + 0 ≤ 1000000 := by simp
  have hn0 : Nds w w.heap.size A [] := Nds.nil A
  clear ht
  go_enter Tryz.func12, Tryz.ntmps12
  go_wp2_with (at_builtin; refine wpList_pushNs rfl (.const (.slice none 0 0)) (.tmp 6) 28 rfl w.heap.size inf Tryz.underlying28 hif hif1 hif2 hif3 (.slice none 0 0) [] rfl (OwnN.nil _ _) w.heap.size A [] 0 c rfl rfl hn0 hq (Nat.le_refl _) ?_; intro v1 w1 ho1 hb1; obtain ⟨A1, c1, e1, -⟩ := ho1.read; replace e1 : v1 = .slice A1 0 c1 := e1; subst e1)
  have s1 := hst.below hb1
  have H1 := Lib.hid (HP.out w1 s1.1)
  clear HP hb1 hst
  refine (H1.out).mono ?_
  rintro e w2 ⟨v, hv, rfl, hst2⟩
  have s2 := (s1.alloc _).trans hst2
  have o2 := (ho1.below ((Below.refl _ _).alloc (Nat.le_refl _) _)).step hg hst2
  have hv' : -1 ≤ v ∧ v ≤ 1 := by simp at hv; omega
  clear s1 ho1 hst2 hv H1
  go_wp2_with fail
  refine (oddKey_any g _ s2.1 (hl.step hne s2) hne).mono ?_
  rintro e w3 ⟨key, _, rfl, hst3⟩
  have s3 := s2.trans hst3
  have o3 := o2.step hg hst3
  have H2 := Lib.hid (HP2.out w3 s3.1)
  clear s2 o2 hst3 HP2
  go_wp2_with fail
  refine (H2.out).mono ?_
  rintro e w4 ⟨v2, hv2, rfl, hst4⟩
  have s4 := (s3.alloc _).trans hst4
  have o4 := (o3.below ((Below.refl _ _).alloc (Nat.le_refl _) _)).step hg hst4
  obtain ⟨wd, rfl, hwd⟩ : ∃ wd : Nat, v2 = (wd : Int) ∧ wd ≤ 65536 := ⟨v2.toNat, by simp at hv2; omega, by simp at hv2; omega⟩
  have hcv : IntKind.u32.wrap (wd : Int) = (wd : Int) := IntWalk.u32_in _ (by omega)
  have hsz := s4.2.size
  clear s3 o3 hst4 hv2 H2
  go_wp2_with (at_builtin; refine wpList_pushN rfl _ _ 28 rfl w.heap.size inf Tryz.underlying28 hif hif1 hif2 hif3 (.slice A1 0 c1) ([] ++ []) w4 ⟨v, key, wd⟩ rfl o4 rfl (by simp) hsz ?_; intro v5 w5 ho5 hb5)
  go_ret
  exact oddP_mk ho5 (by simp) (wide_snoc (fun y hy => by cases hy) ⟨⟨by show _ ≤ v; omega, by show v ≤ _; omega⟩, by show wd < _; omega⟩) (s4.below_base hg hb5)
set_option maxRecDepth 100000 in
set_option maxHeartbeats 3200000 in
theorem oddRoster_cons (A : Option Addr) (l : List Nd) (c : Nat) (g : Nat) (w : World) (ht : Tape w g) (hl : Lets w) (hne : 0 ≠ g) (hnd : Nds w w.heap.size A l) (h0 : l ≠ []) (hn : l.length ≤ 1000) (hw : ∀ x ∈ l, x.wide) :
    Calls Tryz.prog 12 #[.pointer (some ⟨g, 0, none⟩), .slice A l.length c] w (OddP l.length g w) := by
  have hg := ht.lt
  obtain ⟨inf, hif, hif1, hif2, hif3⟩ := infoN_parts
  obtain ⟨n, hn'⟩ : ∃ n, n = l.length := ⟨_, rfl⟩
  have HN := Lib.hid hn'
  have hn1 : 1 ≤ n := by rw [hn']; exact List.length_pos_iff.2 h0
  rw [← hn'] at hn ⊢
  have hst := TStep.refl ht
  have hq : ([] : List Nd).length + n ≤ 1000000 := by simp; omega
  have hnz : ((n : Int) == 0) = false := by simp; omega
  have HP1 := Lib.hid (fun (w1 : World) (h : Tape w1 g) => pick_new g w1 h [0, -1, 2147483648, 2147483647, -9223372036854775808] (by simp) (by simp))
  have HP2 := Lib.hid (fun (w1 : World) (h : Tape w1 g) => pick_new g w1 h [65536, 4294967295, 5] (by simp) (by simp))
  have HW := Lib.hid hw
  clear ht hn' hw
  go_enter Tryz.func12, Tryz.ntmps12
  go_wp2_with (at_builtin; refine wpList_pushNs rfl (.const (.slice none 0 0)) (.tmp 6) 28 rfl w.heap.size inf Tryz.underlying28 hif hif1 hif2 hif3 (.slice none 0 0) [] rfl (OwnN.nil _ _) w.heap.size A l n c HN.out.symm rfl hnd hq (Nat.le_refl _) ?_; intro v1 w1 ho1 hb1; rw [List.nil_append] at ho1; obtain ⟨G, cap, pad, e1, hG, hH, hback⟩ := ho1.row h0; rw [← HN.out] at e1; subst e1)
  have s1 := hst.below hb1
  have hGg : G ≠ g := by omega
  have HBK := Lib.hid (fun (W : World) (m : List Nd) (h1 : m.length = l.length) (h2 : Has W G 25 (flatN m ++ pad).toArray) => hback W m h1 h2)
  clear hback ho1 hb1 hst hnd hq
  refine (next_any g _ _ s1.1 (by omega)).mono ?_
  rintro e w2 ⟨r, r0, r1, rfl, hst2⟩
  obtain ⟨q, rfl⟩ : ∃ q : Nat, r = (q : Int) := ⟨r.toNat, by omega⟩
  have hqn : q < n := by omega
  have s2 := s1.trans hst2
  have H2 := has_tstep hH hGg hst2
  have hz1 : (q : Int) < (n : Int) := by omega
  clear r1 s1 hst2 hH
  go_wp2_with fail
  refine (next_any g _ _ s2.1 (by omega)).mono ?_
  rintro e w3 ⟨r2, r20, r21, rfl, hst3⟩
  have s3 := s2.trans hst3
  have H3 := has_tstep H2 hGg hst3
  have hql : q < l.length := by rw [← HN.out]; exact hqn
  have hwq := HW.out _ (List.getElem_mem hql)
  have HS0 := Lib.hid (flatN_set0 l pad q hql)
  have HS1 := Lib.hid (flatN_set1 l pad q hql)
  have HS2 := Lib.hid (flatN_set2 l pad q hql)
  have hf := flatN_at l q hql
  have hcell : ∀ (W : World), Has W G 25 (flatN l ++ pad).toArray → W.cell? ⟨G, q * 3, none⟩ = some (.int .i64 l[q].id) ∧ W.cell? ⟨G, q * 3 + 1, none⟩ = some (.string l[q].key) ∧ W.cell? ⟨G, q * 3 + 2, none⟩ = some (.int .u32 (l[q].word : Int)) := fun W h => by
    have hlen := flatN_len l
    have ht : ∀ j u, j < (flatN l).length → (flatN l)[j]? = some u → W.cell? ⟨G, j, none⟩ = some u := fun j u hj hu => by
      rw [h.cell, List.getElem?_toArray, List.getElem?_append_left hj, hu]
    exact ⟨ht _ _ (by omega) hf.1, ht _ _ (by omega) hf.2.1, ht _ _ (by omega) hf.2.2⟩
  generalize l[q] = x at *
  obtain ⟨xi, xk, xw⟩ := x
  obtain ⟨hwi, hww⟩ := hwq
  simp only at hwi hww hcell
  have HCE := Lib.hid hcell
  have hr2 : r2 = 0 ∨ r2 = 1 ∨ r2 = 2 ∨ r2 = 3 ∨ r2 = 4 ∨ r2 = 5 := by omega
  clear s2 hst3 H2 r20 r21 hf hcell
  rcases hr2 with rfl | rfl | rfl | rfl | rfl | rfl
  · have HQ := Lib.hid (HP1.out w3 s3.1)
    clear HP1 HP2
    go_wp2_with fail
    refine (HQ.out).mono ?_
    rintro e w4 ⟨v, hv, rfl, hst4⟩
    have s4 := (s3.alloc _).trans hst4
    have H4 := has_tstep (H3.alloc _) hGg hst4
    obtain ⟨z0, z1, z2⟩ := HCE.out _ H4
    have hfz := fun o => H4.frozen o
    have hv' : -9223372036854775808 ≤ v ∧ v ≤ 9223372036854775807 := by simp at hv; omega
    have H5 := H4.set_ (q * 3) (.int .i64 v)
    simp only [List.setIfInBounds_toArray] at H5
    rw [HS0.out] at H5
    have HO := Lib.hid (HBK.out _ _ (List.length_set ..) H5)
    have HS := Lib.hid (s4.set (p := ⟨G, q * 3, none⟩) hG hg (.int .i64 v))
    clear hst4 s3 s4 H3 H4 H5 hv HQ
    go_wp2_with fail
    go_ret
    have ho := HO.out
    rw [List.length_set, ← HN.out] at ho
    exact oddP_mk ho (by rw [List.length_set, ← HN.out]; omega) (wide_set HW.out ⟨hv', hww⟩) HS.out
  · clear HP1 HP2
    go_wp2_with fail
    refine (oddKey_any g _ s3.1 (hl.step hne s3) hne).mono ?_
    rintro e w4 ⟨key, _, rfl, hst4⟩
    have s4 := s3.trans hst4
    have H4 := has_tstep H3 hGg hst4
    obtain ⟨z0, z1, z2⟩ := HCE.out _ H4
    have hfz := fun o => H4.frozen o
    have H5 := H4.set_ (q * 3 + 1) (.string key)
    simp only [List.setIfInBounds_toArray] at H5
    rw [HS1.out] at H5
    have HO := Lib.hid (HBK.out _ _ (List.length_set ..) H5)
    have HS := Lib.hid (s4.set (p := ⟨G, q * 3 + 1, none⟩) hG hg (.string key))
    clear hst4 s3 s4 H3 H4 H5
    go_wp2_with fail
    go_ret
    have ho := HO.out
    rw [List.length_set, ← HN.out] at ho
    exact oddP_mk ho (by rw [List.length_set, ← HN.out]; omega) (wide_set HW.out ⟨hwi, hww⟩) HS.out
  · have HQ := Lib.hid (HP2.out w3 s3.1)
    clear HP1 HP2
    go_wp2_with fail
    refine (HQ.out).mono ?_
    rintro e w4 ⟨v, hv, rfl, hst4⟩
    have s4 := (s3.alloc _).trans hst4
    have H4 := has_tstep (H3.alloc _) hGg hst4
    obtain ⟨z0, z1, z2⟩ := HCE.out _ H4
    have hfz := fun o => H4.frozen o
    obtain ⟨wd, rfl, hwd⟩ : ∃ wd : Nat, v = (wd : Int) ∧ wd < 4294967296 := ⟨v.toNat, by simp at hv; omega, by simp at hv; omega⟩
    have hcv : IntKind.u32.wrap (wd : Int) = (wd : Int) := IntWalk.u32_in _ (by omega)
    have H5 := H4.set_ (q * 3 + 2) (.int .u32 (wd : Int))
    simp only [List.setIfInBounds_toArray] at H5
    rw [HS2.out] at H5
    have HO := Lib.hid (HBK.out _ _ (List.length_set ..) H5)
    have HS := Lib.hid (s4.set (p := ⟨G, q * 3 + 2, none⟩) hG hg (.int .u32 (wd : Int)))
    clear hst4 s3 s4 H3 H4 H5 hv HQ
    go_wp2_with fail
    go_ret
    have ho := HO.out
    rw [List.length_set, ← HN.out] at ho
    exact oddP_mk ho (by rw [List.length_set, ← HN.out]; omega) (wide_set HW.out ⟨hwi, hwd⟩) HS.out
  · have ho3 := HBK.out _ _ rfl H3
    rw [← HN.out] at ho3
    obtain ⟨z0, z1, z2⟩ := HCE.out _ H3
    have hsz := s3.2.size
    have hln : l.length < 1000000 := by rw [← HN.out]; omega
    clear HP1 HP2 H3
    go_wp2_with (at_builtin; refine wpList_pushN rfl _ _ 28 rfl w.heap.size inf Tryz.underlying28 hif hif1 hif2 hif3 (.slice (some ⟨G, 0, none⟩) n cap) l w3 ⟨xi, xk, xw⟩ rfl ho3 rfl hln hsz ?_; intro v5 w5 ho5 hb5)
    go_ret
    exact oddP_mk ho5 (by simp [HN.out]) (wide_snoc HW.out ⟨hwi, hww⟩) (s3.below_base hg hb5)
  · have s3d := s3.below ((Below.refl w3.heap.size w3).drew)
    have H3d : Has w3.drew G 25 (flatN l ++ pad).toArray := H3
    have HNX := Lib.hid (next_any g 50 w3.drew s3d.1 (by omega))
    have z1 : w3.drew.cell? ⟨G, q * 3 + 1, none⟩ = some (.string xk) := (HCE.out _ H3).2.1
    have HAF := Lib.hid (fun (w4 : World) (p : Int) (h : TStep w3.drew g w4) => (⟨(HCE.out _ (has_tstep H3d hGg h)).2.1, s3d.trans h, (HBK.out _ l rfl (has_tstep H3d hGg h)).below ((Below.refl _ _).alloc (Nat.le_refl _) (.cells #[.int .i64 (1 + p), .string xk, .int .u32 0] 25))⟩ : w4.cell? ⟨G, q * 3 + 1, none⟩ = some (.string xk) ∧ TStep w g w4 ∧ OwnN (w4.alloc (.cells #[.int .i64 (1 + p), .string xk, .int .u32 0] 25)) w.heap.size (.slice (some ⟨G, 0, none⟩) l.length cap) l))
    rw [← HN.out] at HAF
    have hln : l.length + 1 ≤ 1000000 := by rw [← HN.out]; omega
    clear HP1 HP2 H3 H3d
    go_wp2_with fail
    go_region_law (first | (go_simp; go_at_call 7; refine (HNX.out).mono ?_; rintro e w4 ⟨p, p0, p1, rfl, hst4⟩; have w3' : IntKind.i64.wrap (1 + p) = 1 + p := (IntWalk.i64_in _ (by omega)); obtain ⟨z1', s4, o4⟩ := HAF.out w4 p hst4; have hsz := (s4.alloc (.cells #[.int .i64 (1 + p), .string xk, .int .u32 0] 25)).2.size; have one4 := one_node w4 ⟨1 + p, xk, 0⟩) | (refine step_pushNs (w := w4.alloc (.cells #[.int .i64 (1 + p), .string xk, .int .u32 0] 25)) (o := ⟨some 86, _, _, _, _, _⟩) rfl (.tmp 76) (.tmp 85) 28 (by rfl) w.heap.size inf Tryz.underlying28 hif hif1 hif2 hif3 (.slice (some ⟨G, 0, none⟩) n cap) l (by simp [Act.eval]) o4 _ (some ⟨w4.heap.size, 0, none⟩) [⟨1 + p, xk, 0⟩] 1 1 rfl (by simp [Act.eval]) one4 hln hsz ?_; intro v5 w5 ho5 hb5))
    all_goals
      have s5 := (s4.alloc (.cells #[.int .i64 (1 + p), .string xk, .int .u32 0] 25)).below_base hg hb5
      have HO := Lib.hid ho5
      clear ho5 hb5 one4 o4 z1 z1'
      go_wp2_with fail
      go_ret
      exact oddP_mk HO.out (by simp [HN.out]) (wide_snoc HW.out ⟨⟨by show _ ≤ 1 + p; omega, by show 1 + p ≤ _; omega⟩, by show 0 < _; omega⟩) s5
  · have s3d := s3.below ((Below.refl w3.heap.size w3).drew)
    have H3d : Has w3.drew G 25 (flatN l ++ pad).toArray := H3
    have HNX := Lib.hid (key_any g w3.drew s3d.1 (hl.step hne s3d) hne)
    have z1 : w3.drew.cell? ⟨G, q * 3, none⟩ = some (.int .i64 xi) := (HCE.out _ H3).1
    have HAF := Lib.hid (fun (w4 : World) (key : ByteArray) (h : TStep w3.drew g w4) => (⟨(HCE.out _ (has_tstep H3d hGg h)).1, s3d.trans h, (HBK.out _ l rfl (has_tstep H3d hGg h)).below ((Below.refl _ _).alloc (Nat.le_refl _) (.cells #[.int .i64 xi, .string key, .int .u32 0] 25))⟩ : w4.cell? ⟨G, q * 3, none⟩ = some (.int .i64 xi) ∧ TStep w g w4 ∧ OwnN (w4.alloc (.cells #[.int .i64 xi, .string key, .int .u32 0] 25)) w.heap.size (.slice (some ⟨G, 0, none⟩) l.length cap) l))
    rw [← HN.out] at HAF
    have hln : l.length + 1 ≤ 1000000 := by rw [← HN.out]; omega
    clear HP1 HP2 H3 H3d
    go_wp2_with fail
    go_region_law (first | (go_simp; go_at_call 19; refine (HNX.out).mono ?_; rintro e w4 ⟨key, _, rfl, hst4⟩; obtain ⟨z1', s4, o4⟩ := HAF.out w4 key hst4; have hsz := (s4.alloc (.cells #[.int .i64 xi, .string key, .int .u32 0] 25)).2.size; have one4 := one_node w4 ⟨xi, key, 0⟩) | (refine step_pushNs (w := w4.alloc (.cells #[.int .i64 xi, .string key, .int .u32 0] 25)) (o := ⟨some 41, _, _, _, _, _⟩) rfl (.tmp 32) (.tmp 40) 28 (by rfl) w.heap.size inf Tryz.underlying28 hif hif1 hif2 hif3 (.slice (some ⟨G, 0, none⟩) n cap) l (by simp [Act.eval]) o4 _ (some ⟨w4.heap.size, 0, none⟩) [⟨xi, key, 0⟩] 1 1 rfl (by simp [Act.eval]) one4 hln hsz ?_; intro v5 w5 ho5 hb5))
    all_goals
      have s5 := (s4.alloc (.cells #[.int .i64 xi, .string key, .int .u32 0] 25)).below_base hg hb5
      have HO := Lib.hid ho5
      clear ho5 hb5 one4 o4 z1 z1'
      go_wp2_with fail
      go_ret
      exact oddP_mk HO.out (by simp [HN.out]) (wide_snoc HW.out ⟨hwi, by show 0 < _; omega⟩) s5
theorem oddRoster_any (A : Option Addr) (l : List Nd) (c : Nat) (g : Nat) (w : World) (ht : Tape w g) (hl : Lets w) (hne : 0 ≠ g) (hnd : Nds w w.heap.size A l) (hn : l.length ≤ 1000) (hw : ∀ x ∈ l, x.wide) :
    Calls Tryz.prog 12 #[.pointer (some ⟨g, 0, none⟩), .slice A l.length c] w (OddP l.length g w) := by
  by_cases h0 : l = []
  · subst h0
    exact oddRoster_nil A c g w ht hl hne
  · exact oddRoster_cons A l c g w ht hl hne hnd h0 hn hw

/-- A row of numbers of the call's own. -/
def OwnZ (w : World) (base : Nat) (v : Value) (l : List Int) : Prop := w.ownsRow base 3 1 v l.length (l.map (Value.int .i64)) ∧ ∀ x ∈ l, -9223372036854775808 ≤ x ∧ x ≤ 9223372036854775807
theorem OwnZ.nil (w : World) (base : Nat) : OwnZ w base (.slice none 0 0) [] := ⟨World.ownsRow_nil _ _ _ _, fun _ h => by cases h⟩
theorem OwnZ.keep {w w' : World} {base : Nat} {v : Value} {l : List Int} (h : OwnZ w base v l) (k : ∀ i, base ≤ i → i < w.heap.size → w'.heap[i]? = w.heap[i]?) : OwnZ w' base v l := by
  obtain ⟨⟨h1, h2 | ⟨g, cap, cur, h3, h4, h5, h6⟩⟩, hr⟩ := h
  · exact ⟨⟨h1, .inl h2⟩, hr⟩
  · exact ⟨⟨h1, .inr ⟨g, cap, cur, h3, h4, (k g h4 (Has.lt h5)).trans h5, h6⟩⟩, hr⟩
theorem OwnZ.below {w w' : World} {base : Nat} {v : Value} {l : List Int} (h : OwnZ w base v l) (k : Below w.heap.size w w') : OwnZ w' base v l := h.keep fun i _ hi => k.block i hi
theorem OwnZ.step {w w' : World} {base g : Nat} {v : Value} {l : List Int} (h : OwnZ w base v l) (hg : g < base) (k : TStep w g w') : OwnZ w' base v l := h.keep fun i h1 hi => k.2.block i hi (fun e => by have := Option.some.inj e; omega)
theorem OwnZ.read {w : World} {base : Nat} {v : Value} {l : List Int} (h : OwnZ w base v l) : ∃ A c, v = .slice A l.length c ∧ Ins w w.heap.size A l ∧ ∀ b o, A = some ⟨b, o, none⟩ → base ≤ b := by
  obtain ⟨⟨h1, ⟨rfl, h2⟩ | ⟨g, cap, cur, rfl, h4, h5, h6, h7, h8, h9⟩⟩, hr⟩ := h
  · have hl : l = [] := List.eq_nil_of_length_eq_zero h2
    subst hl
    exact ⟨none, 0, rfl, fun h => absurd rfl h, fun _ _ e => by cases e⟩
  · refine ⟨_, cap, rfl, fun _ => ⟨g, 0, rfl, Has.lt h5, fun i hi => ⟨hr _ (List.getElem_mem hi), ?_⟩⟩, fun b o e => by injection e with e; injection e with e _; omega⟩
    have hh : (l.map (Value.int .i64))[i]? = some (.int .i64 l[i]) := by simp [hi]
    rw [← h9, List.getElem?_take] at hh
    rw [Nat.zero_add, Has.cell h5, ← Array.getElem?_toList]
    split at hh
    · exact hh
    · cases hh
theorem infoI_parts : ∃ i, Tryz.prog.info? 3 = some i ∧ i.zero = some (.int .i64 0) ∧ i.size = 1 ∧ i.bytes = 8 := by
  have infoI : (Tryz.prog.info? 3).map (fun i => (i.zero, i.size, i.bytes)) = some (some (.int .i64 0), 1, 8) := by kernel_rfl
  obtain ⟨i, h, e⟩ := Option.map_eq_some_iff.1 infoI
  injection e with e1 e2
  injection e2 with e2 e3
  exact ⟨i, h, e1, e2, e3⟩
theorem wpList_pushZ {P : Program} {ops : Array Oper} {rest : List Oper} {o : Oper} {a : Act} {Q : Exit → Act → World → Prop} (hgd : o.guard = none) (s x : Operand) (t : TypeId)
    (ho : o.op = .call { callee := .builtin .append, args := #[s, x], argTypes := #[t, t] })
    (base : Nat) (i : TypeInfo) (ht : P.underlying t = some (.slice 3)) (hi : P.info? 3 = some i) (hz : i.zero = some (.int .i64 0)) (hsize : i.size = 1) (hby : i.bytes = 8)
    (v : Value) (l : List Int) (w0 : World) (f : Int) (hf : -9223372036854775808 ≤ f ∧ f ≤ 9223372036854775807) (hs : a.eval s = v) (hown : OwnZ w0 base v l) (hx : a.eval x = .slice (some ⟨w0.heap.size, 0, none⟩) 1 1) (hlen : l.length < 1000000) (hbase : base ≤ w0.heap.size)
    (h : ∀ v' w', OwnZ w' base v' (l ++ [f]) → Below base w0 w' → wpList P ops Q rest (a.put o.dst v') w') : wpList P ops Q (o :: rest) a (w0.alloc (.cells #[.int .i64 f] 3)) := by
  refine wpList_append_own_at _ hgd s x t ho base 3 i (.int .i64 0) 1 8 ht hi hz hsize hby rfl (by decide) v l.length (l.map (Value.int .i64)) hs (hown.below ((Below.refl _ _).alloc (Nat.le_refl _) _)).1 ⟨w0.heap.size, 0, none⟩ 1 1 [.int .i64 f] hx rfl ?_ ?_ (by unfold maxLen; omega) (by omega) (by simp; omega) ?_
  · intro j u hj
    have ea : (⟨w0.heap.size, 0, none⟩ : Addr).add j = ⟨w0.heap.size, 0 + j, none⟩ := by unfold Addr.add; split <;> simp_all
    rw [ea, Nat.zero_add, (Has.new w0 3 #[.int .i64 f]).cell, ← Array.getElem?_toList]
    exact hj
  · intro u hu
    simp at hu
    rw [hu]; rfl
  · intro v' w' ho' hg _ hat
    refine h v' w' ⟨?_, fun x hx => ?_⟩ ?_
    · rw [List.map_append, List.length_append]
      exact ho'
    · rcases List.mem_append.1 hx with h1 | h1
      · exact hown.2 x h1
      · rw [List.mem_singleton.1 h1]; exact hf
    · refine ((Below.refl _ _).alloc hbase _).trans ⟨hg.os, hg.tape, hg.output, hg.size, fun j hj => hg.block j (by rw [World.size_alloc]; omega) ?_⟩
      intro e
      obtain ⟨⟨_, ⟨rfl, _⟩ | ⟨g', cap', cur, rfl, h4, h5, _⟩⟩, _⟩ := hown
      · cases e
      · have : j = g' := Option.some.inj e
        omega
/-- ID again, with the bounds of what it gives. -/
def IdR (g : Nat) (w : World) (e : Ending) (w' : World) : Prop := ∃ v : Int, (-9223372036854775808 ≤ v ∧ v ≤ 9223372036854775807) ∧ e = .returned (.int .i64 v) ∧ TStep w g w'
set_option maxRecDepth 100000 in
set_option maxHeartbeats 1600000 in
theorem idr_any (A : Option Addr) (l : List Nd) (c : Nat) (g : Nat) (w : World) (ht : Tape w g) (hl : Nds w w.heap.size A l) (hn : l.length ≤ 100000) (hA : ∀ b o, A = some ⟨b, o, none⟩ → b ≠ g) (hw : ∀ x ∈ l, x.wide) :
    Calls Tryz.prog 10 #[.pointer (some ⟨g, 0, none⟩), .slice A l.length c] w (IdR g w) := by
  have hg := ht.lt
  have HPK := Lib.hid (fun (w1 : World) (h : Tape w1 g) => pick_new g w1 h [0, -1, 999, 4611686018427387904, 1] (by simp) (by simp))
  by_cases h0 : l = []
  · subst h0
    have hst := TStep.refl ht
    have HP := Lib.hid (HPK.out w ht)
    clear hA hl HPK
    go_enter Tryz.func10, Tryz.ntmps10
    go_wp2_with fail
    refine (HP.out).mono ?_
    rintro e w2 ⟨v, hv, rfl, hst2⟩
    have hv' : -9223372036854775808 ≤ v ∧ v ≤ 9223372036854775807 := by simp at hv; omega
    clear hv
    go_wp2_with fail
    go_ret
    exact ⟨v, hv', rfl, (hst.alloc _).trans hst2⟩
  · have hl1 : 1 ≤ l.length := List.length_pos_iff.2 h0
    have hl0 : ((l.length : Int) == 0) = false := by simp; omega
    go_enter Tryz.func10, Tryz.ntmps10
    go_wp2_with fail
    refine (bool_any g _ _ ht (by omega) (by omega)).mono ?_
    rintro e w1 ⟨b, rfl, hst⟩
    cases b
    · clear HPK
      go_wp2_with fail
      refine (next_any g _ _ hst.1 (by omega)).mono ?_
      rintro e w2 ⟨r, r0, r1, rfl, hst2⟩
      have s2 := hst.trans hst2
      obtain ⟨k, rfl⟩ : ∃ k : Nat, r = (k : Int) := ⟨r.toNat, by omega⟩
      have hk : k < l.length := by omega
      obtain ⟨b, o, rfl, hb, f1, f2, f3⟩ := hl.at_ hk
      have F1 := (World.cell?_of_block (a := ⟨b, o + k * 3, none⟩) (s2.2.block b hb (fun e => hA b o rfl (Option.some.inj e)))).trans f1
      have hwk := (hw _ (List.getElem_mem hk)).1
      generalize l[k] = y at *
      obtain ⟨yi, yk, yw⟩ := y
      have k1 : (k : Int) < (l.length : Int) := by omega
      clear f1 f2 f3 r1 hst hst2 hl hl0 hA
      go_wp2_with fail
      go_ret
      exact ⟨yi, hwk, rfl, s2⟩
    · have HP := Lib.hid (HPK.out w1 hst.1)
      clear HPK hl hA
      go_wp2_with fail
      refine (HP.out).mono ?_
      rintro e w2 ⟨v, hv, rfl, hst2⟩
      have hv' : -9223372036854775808 ≤ v ∧ v ≤ 9223372036854775807 := by simp at hv; omega
      clear hv
      go_wp2_with fail
      go_ret
      exact ⟨v, hv', rfl, (hst.alloc _).trans hst2⟩
theorem nds_step {w w' : World} {g : Nat} {A : Option Addr} {l : List Nd} (h : Nds w w.heap.size A l) (hA : ∀ b o, A = some ⟨b, o, none⟩ → b ≠ g) (k : TStep w g w') : Nds w' w'.heap.size A l := fun hn => by
  obtain ⟨b, o, e, hb, hc⟩ := h hn
  have hk := k.2.block b hb (fun e2 => hA b o e (Option.some.inj e2))
  exact ⟨b, o, e, Nat.lt_of_lt_of_le hb k.2.size, fun i hi => ⟨(World.cell?_of_block hk).trans (hc i hi).1, (World.cell?_of_block hk).trans (hc i hi).2.1, (World.cell?_of_block hk).trans (hc i hi).2.2⟩⟩
/-- What Down gives. -/
def DownP (n g : Nat) (w : World) (e : Ending) (w' : World) : Prop := ∃ A c l, e = .returned (.slice A (l : List Int).length c) ∧ OwnZ w' w.heap.size (.slice A l.length c) l ∧ l.length ≤ n ∧ TStep w g w'
end Go.Proofs.YtjokbdhineilcaaGreatDoor
