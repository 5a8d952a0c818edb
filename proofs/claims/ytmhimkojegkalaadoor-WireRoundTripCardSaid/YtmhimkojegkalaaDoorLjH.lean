/-
  Slices of links, and EncodeLinks of package wire: the bytes, in new memory, or the error. Condition: the links can be read.
  EncodeLinks of the reference of layer 3: the bytes, in new memory, or the error. Condition: the links can be read.
-/
import Derived.Test.YtmhimkojegkalaaDoorLjB
import Derived.Test.YtmhimkojegkalaaDoorLjR
import Derived.Test.YtmhimkojegkalaaDoorLbU
namespace Go.Proofs.YtmhimkojegkalaaDoor
section
open Go.RowKit


set_option maxRecDepth 100000 in
set_option maxHeartbeats 1600000 in
theorem putLink_any (base : Nat) (v : Value) (l : List UInt8) (x : Lk) (w : World) (ho : OwnB w base v l) (hb : base ≤ w.heap.size) (hx : x.fit) (hl : l.length ≤ 90000000) :
    Calls Tryd.prog 78 #[v, .agg #[.int .i64 x.left, .int .i64 x.right]] w (PutP base v (l ++ encLk x) w) := by
  have hX := Has.new w 61 #[.int .i64 x.left, .int .i64 x.right]
  have x0 := hX.cell 0
  have x1 := hX.cell 1
  have hg := hX.lt
  have hbA := (Below.refl w.heap.size w).alloc (Nat.le_refl _) (.cells #[.int .i64 x.left, .int .i64 x.right] 61)
  have hoA := ho.below hbA
  have hne : v.ownBlock ≠ some w.heap.size := fun e => by have := (ho.base_le e).2; omega
  have hPA : Push w v (w.alloc (.cells #[.int .i64 x.left, .int .i64 x.right] 61)) v := Push.pre hbA (Push.refl _ _)
  have hbs := Nat.le_trans hb hbA.size
  have hE1 := enc_len10 (zig_lt hx.1.1 hx.1.2)
  have HPC := Lib.hid (fun (wz : World) (v' : Value) (p : Addr) (h : Push (w.alloc (.cells #[.int .i64 x.left, .int .i64 x.right] 61)) v wz v') (hp : p.block = w.heap.size) => push_cell (p := p) (by rw [hp]; exact hg) (by rw [hp]; exact hne) h)
  have HE1 := Lib.hid hE1
  have HBS := Lib.hid hbs
  have HOA := Lib.hid hoA
  have HPA := Lib.hid hPA
  have X0 := Lib.hid x0
  have X1 := Lib.hid x1
  unfold encLk
  obtain ⟨⟨hx1, hx2⟩, ⟨hx3, hx4⟩⟩ := hx
  obtain ⟨xi, xk⟩ := x
  simp only at *
  clear hE1 hbs hoA hPA x0 x1 hbA hX
  go_enter Tryd.func78, Tryd.ntmps78
  go_upto_region 1 with fail
  generalize w.alloc (.cells #[.int .i64 xi, .int .i64 xk] 61) = W at *
  have b0 := X0.out
  have b1 := X1.out
  simp only [List.getElem?_toArray, List.getElem?_cons_zero, List.getElem?_cons_succ] at b0 b1
  have HC : Hid (∀ wz v', Push W v wz v' → wz.cell? ⟨w.heap.size, 0, none⟩ = some (.int .i64 xi) ∧ wz.cell? ⟨w.heap.size, 1, none⟩ = some (.int .i64 xk)) := Lib.hid fun wz v' h => ⟨(HPC.out wz v' _ h rfl).trans b0, (HPC.out wz v' _ h rfl).trans b1⟩
  generalize w.heap.size = G at *
  have hS0 := HC.out W v (Push.refl _ _)
  clear X0 X1 HPC b0 b1
  go_region_held3 (fun w' => w'.cell? ⟨G, 0, none⟩ = some (.int .i64 xi) ∧ w'.cell? ⟨G, 1, none⟩ = some (.int .i64 xk)) (first | exact hS2 | exact hS1 | exact hS0) ((first | (go_at_call 75; refine (putInt_any base v l xi W.drew (show OwnB W.drew base v l from HOA.out) (show base ≤ W.drew.heap.size from HBS.out) hx1 hx2 (by omega)).mono ?_; rintro e w2 ⟨v2, rfl, ho2, hp2⟩; replace hp2 : Push W v w2 v2 := Push.pre (Below.refl W.heap.size W).drew hp2; have hS1 := HC.out _ _ hp2) | (go_at_call 75; refine (putInt_any base _ _ xk _ ho2 (Nat.le_trans HBS.out hp2.1.size) hx3 hx4 (by have := HE1.out; simp; omega)).mono ?_; rintro e w3 ⟨v3, rfl, ho3, hp3⟩; have hS2 := HC.out _ _ (hp2.trans hp3))))
  have HPW := Lib.hid (HPA.out.trans (hp2.trans hp3))
  clear hS0 hS1 hS2 hp2 hp3 ho2 HC HOA HPA HBS
  rw [List.append_assoc] at ho3
  have HO4 := Lib.hid ho3
  clear ho3
  go_wp2_with fail
  go_ret
  exact putP_mk HO4.out HPW.out

theorem encLk_len {x : Lk} (h : x.fit) : (encLk x).length ≤ 20 := by
  unfold encLk
  rw [List.length_append]
  have := enc_len10 (zig_lt h.1.1 h.1.2)
  have := enc_len10 (zig_lt h.2.1 h.2.2)
  omega

set_option maxRecDepth 100000 in
set_option maxHeartbeats 1600000 in
theorem putLinks_any (base : Nat) (v : Value) (l0 : List UInt8) (A : Option Addr) (l : List Lk) (c : Nat) (w : World) (ho0 : OwnB w base v l0) (hb0 : base ≤ w.heap.size) (hl0 : l0.length ≤ 10000000) (hl : Lks w base A l) (hn : l.length ≤ 1000) (hw : ∀ x ∈ l, x.fit) :
    Calls Tryd.prog 77 #[v, .slice A l.length c, .func (.func 78) #[] #[]] w (PutP base v (l0 ++ (encU l.length ++ l.flatMap encLk)) w) := by
  have HW := Lib.hid hw
  have HLEN : Hid (∀ k, ((l.take k).flatMap encLk).length ≤ 1000 * 20) := Lib.hid fun k => by
    have := flat_len (f := encLk) (m := 20) (l := l.take k) (fun x hx => encLk_len (hw x (List.mem_of_mem_take hx)))
    rw [List.length_take] at this
    have h2 : min k l.length * 20 ≤ 1000 * 20 := Nat.mul_le_mul_right _ (by omega)
    omega
  have HEU := Lib.hid (enc_len10 (m := l.length) (by omega))
  have HPU := Lib.hid (putUint_any base v l0 l.length w ho0 hb0 (by omega) (by omega))
  have HO0 := Lib.hid ho0
  clear hw ho0
  go_enter Tryd.func77, Tryd.ntmps77
  go_wp2_with fail
  refine (HPU.out).mono ?_
  rintro e w1 ⟨v1, rfl, ho1, hp1⟩
  clear HPU
  go_wp2_with fail
  go_loopw [0, 16] (fun vv vi wr => ∃ (v2 : Value) (k : Nat), v2 = vv ∧ vi = .int .i64 (k : Int) ∧ k ≤ l.length ∧ OwnB wr base v2 (l0 ++ (encU l.length ++ (l.take k).flatMap encLk)) ∧ Push w v wr v2) (fun _ vi _ => l.length - (intOf vi).toNat)
  case atStart => exact ⟨v1, 0, rfl, rfl, Nat.zero_le _, by rw [List.take_zero, List.flatMap_nil, List.append_nil]; exact ho1, hp1⟩
  case round =>
    clear ho1 hp1
    obtain ⟨v2, k, rfl, rfl, hk, ho, hp⟩ := hrel
    by_cases hlt : k < l.length
    · obtain ⟨b, o, hA2, hbl, f1, f2⟩ := hl.at_ hlt
      subst hA2
      have hb := hp.below HO0.out hb0
      replace f1 := (hb.cell (p := ⟨b, o + k * 2, none⟩) hbl).trans f1
      replace f2 := (hb.cell (p := ⟨b, o + k * 2 + 1, none⟩) hbl).trans f2
      have hwd := HW.out _ (List.getElem_mem hlt)
      have HT : Hid ((l.take (k + 1)).flatMap encLk = (l.take k).flatMap encLk ++ encLk l[k]) := Lib.hid (by rw [List.take_succ_eq_append_getElem hlt, List.flatMap_append]; simp)
      generalize l[k] = y at *
      obtain ⟨yi, yk⟩ := y
      have hA := (Below.refl wr.heap.size wr).alloc (Nat.le_refl _) (.cells #[.int .i64 yi, .int .i64 yk] 61)
      have HP := Lib.hid (putLink_any base v2 _ ⟨yi, yk⟩ (wr.alloc (.cells #[.int .i64 yi, .int .i64 yk] 61)) (ho.below hA) (Nat.le_trans hb.size hA.size |> Nat.le_trans hb0) hwd (by rw [List.length_append, List.length_append]; have := HLEN.out k; have := HEU.out; omega))
      have HPA := Lib.hid (hp.post hA)
      have i0 : (0 : Int) ≤ (k : Int) := by omega
      have i1 : (k : Int) < (l.length : Int) := by omega
      clear hwd hA ho hb hp
      go_wp2_with fail
      refine (HP.out).mono ?_
      rintro e w2 ⟨v3, rfl, ho3, hp3⟩
      have HP3 := Lib.hid (HPA.out.trans hp3)
      have HO3 : Hid (OwnB w2 base v3 (l0 ++ (encU l.length ++ (l.take (k + 1)).flatMap encLk))) := Lib.hid (by
        rw [List.append_assoc, List.append_assoc] at ho3
        rw [HT.out]
        exact ho3)
      clear ho3 hp3 HT HPA HP
      go_wp2_with fail
      exact ⟨⟨v3, k + 1, rfl, by go_num, hlt, HO3.out, HP3.out⟩, by simp [intOf]; omega⟩
    · have i1 : ¬ (k : Int) < (l.length : Int) := by omega
      rw [List.take_of_length_le (by omega)] at ho
      have HO := Lib.hid ho
      clear ho
      go_wp2_with fail
      go_ret
      exact putP_mk HO.out hp

theorem encLd_len {x : Ld} (h : x.fit) : (encLd x).length ≤ 400 := by
  unfold encLd
  rw [List.length_append, List.length_append]
  have h1 := enc_len10 (zig_lt h.1.1 h.1.2)
  have h2 := enc_len10 (m := x.levels.length) (by have := h.2.1; omega)
  have h3 := flat_len (f := encLk) (m := 20) (l := x.levels) (fun y hy => encLk_len (h.2.2 y hy))
  have h4 : x.levels.length * 20 ≤ 17 * 20 := Nat.mul_le_mul_right _ h.2.1
  omega

set_option maxRecDepth 100000 in
set_option maxHeartbeats 1600000 in
theorem putLinked_any (base : Nat) (v : Value) (l : List UInt8) (x : Ld) (A : Option Addr) (c : Nat) (w : World) (ho : OwnB w base v l) (hb : base ≤ w.heap.size) (hx : x.fit) (hl : l.length ≤ 9000000) (hy : Lks w base A x.levels) :
    Calls Tryd.prog 45 #[v, .agg #[.int .i64 x.id, .slice A x.levels.length c]] w (PutP base v (l ++ encLd x) w) := by
  have hX := Has.new w 64 #[.int .i64 x.id, .slice A x.levels.length c]
  have x0 := hX.cell 0
  have x1 := hX.cell 1
  have hg := hX.lt
  have hbA := (Below.refl w.heap.size w).alloc (Nat.le_refl _) (.cells #[.int .i64 x.id, .slice A x.levels.length c] 64)
  have hoA := ho.below hbA
  have hyA := hy.below (hbA.mono hb)
  have hne : v.ownBlock ≠ some w.heap.size := fun e => by have := (ho.base_le e).2; omega
  have hPA : Push w v (w.alloc (.cells #[.int .i64 x.id, .slice A x.levels.length c] 64)) v := Push.pre hbA (Push.refl _ _)
  have hbs := Nat.le_trans hb hbA.size
  have hE1 := enc_len10 (zig_lt hx.1.1 hx.1.2)
  have HPC := Lib.hid (fun (wz : World) (v' : Value) (p : Addr) (h : Push (w.alloc (.cells #[.int .i64 x.id, .slice A x.levels.length c] 64)) v wz v') (hp : p.block = w.heap.size) => push_cell (p := p) (by rw [hp]; exact hg) (by rw [hp]; exact hne) h)
  have HE1 := Lib.hid hE1
  have HBS := Lib.hid hbs
  have HOA := Lib.hid hoA
  have HYA := Lib.hid hyA
  have HPA := Lib.hid hPA
  have X0 := Lib.hid x0
  have X1 := Lib.hid x1
  unfold encLd
  obtain ⟨⟨hx1, hx2⟩, hx3, hx4⟩ := hx
  obtain ⟨xi, ys⟩ := x
  simp only at *
  have HX4 := Lib.hid hx4
  clear hE1 hbs hoA hPA x0 x1 hbA hX hyA hy hx4
  go_enter Tryd.func45, Tryd.ntmps45
  go_upto_region 1 with fail
  generalize w.alloc (.cells #[.int .i64 xi, .slice A ys.length c] 64) = W at *
  have b0 := X0.out
  have b1 := X1.out
  simp only [List.getElem?_toArray, List.getElem?_cons_zero, List.getElem?_cons_succ] at b0 b1
  have HC : Hid (∀ wz v', Push W v wz v' → wz.cell? ⟨w.heap.size, 0, none⟩ = some (.int .i64 xi) ∧ wz.cell? ⟨w.heap.size, 1, none⟩ = some (.slice A ys.length c)) := Lib.hid fun wz v' h => ⟨(HPC.out wz v' _ h rfl).trans b0, (HPC.out wz v' _ h rfl).trans b1⟩
  generalize w.heap.size = G at *
  have hS0 := HC.out W v (Push.refl _ _)
  clear X0 X1 HPC b0 b1
  go_region_held3 (fun w' => w'.cell? ⟨G, 0, none⟩ = some (.int .i64 xi) ∧ w'.cell? ⟨G, 1, none⟩ = some (.slice A ys.length c)) (first | exact hS2 | exact hS1 | exact hS0) ((first | (go_at_call 75; refine (putInt_any base v l xi W.drew (show OwnB W.drew base v l from HOA.out) (show base ≤ W.drew.heap.size from HBS.out) hx1 hx2 (by omega)).mono ?_; rintro e w2 ⟨v2, rfl, ho2, hp2⟩; replace hp2 : Push W v w2 v2 := Push.pre (Below.refl W.heap.size W).drew hp2; have hS1 := HC.out _ _ hp2) | (go_at_call 77; refine (putLinks_any base v2 _ A ys c w2 ho2 (Nat.le_trans HBS.out hp2.1.size) (by have := HE1.out; rw [List.length_append]; omega) (HYA.out.below (hp2.below HOA.out HBS.out)) (by omega) HX4.out).mono ?_; rintro e w3 ⟨v3, rfl, ho3, hp3⟩; have hS2 := HC.out _ _ (hp2.trans hp3))))
  have HPW := Lib.hid (HPA.out.trans (hp2.trans hp3))
  clear hS0 hS1 hS2 hp2 hp3 ho2 HC HOA HPA HBS HYA
  rw [List.append_assoc] at ho3
  have HO4 := Lib.hid ho3
  clear ho3
  go_wp2_with fail
  go_ret
  exact putP_mk HO4.out HPW.out

set_option maxRecDepth 100000 in
set_option maxHeartbeats 800000 in
theorem hasMany_any (i : Int) (A : Option Addr) (n c : Nat) (w : World) :
    Calls Tryd.prog 43 #[.agg #[.int .i64 i, .slice A n c]] w fun e w' => e = .returned (.bool (decide (17 < n))) ∧ Below w.heap.size w w' := by
  have hX := Has.new w 64 #[.int .i64 i, .slice A n c]
  have x1 := hX.cell 1
  have hb := (Below.refl w.heap.size w).alloc (Nat.le_refl _) (.cells #[.int .i64 i, .slice A n c] 64)
  clear hX
  go_enter Tryd.func43, Tryd.ntmps43
  go_wp2_with fail
  go_ret
  exact ⟨ret_bool (by rw [Bool.eq_iff_iff]; simp; omega), hb⟩

/-- Has some node too many levels? -/
def manyL (l : List Ld) : Bool := l.any (fun x => decide (17 < x.levels.length))
set_option maxRecDepth 100000 in
set_option maxHeartbeats 1600000 in
theorem idxMany_any (A : Option Addr) (l : List Ld) (c : Nat) (w : World) (hl : Lds w w.heap.size A l) (hn : l.length ≤ 100000) :
    Calls Tryd.prog 76 #[.slice A l.length c, .func (.func 43) #[] #[]] w fun e w' => ∃ z : Int, e = .returned (.int .i64 z) ∧ decide (0 ≤ z) = manyL l ∧ Below w.heap.size w w' := by
  go_enter Tryd.func76, Tryd.ntmps76
  go_wp2_with fail
  go_loopw [8] (fun i wr => ∃ k : Nat, k ≤ l.length ∧ i = .int .i64 (k : Int) ∧ Below w.heap.size w wr ∧ Hid (manyL (l.take k) = false)) (fun i _ => l.length - (intOf i).toNat)
  case atStart => exact ⟨0, Nat.zero_le _, rfl, Below.refl _ _, Lib.hid rfl⟩
  case round =>
    obtain ⟨k, hk, rfl, hb, HK⟩ := hrel
    by_cases hlt : k < l.length
    · obtain ⟨b, o, hA2, hbl, f1, A', c', f2, _, _, _⟩ := hl.at_ hlt
      subst hA2
      replace f1 := (hb.cell (p := ⟨b, o + k * 2, none⟩) hbl).trans f1
      replace f2 := (hb.cell (p := ⟨b, o + k * 2 + 1, none⟩) hbl).trans f2
      have HL := Lib.hid (hasMany_any l[k].id A' l[k].levels.length c' wr)
      have HY : Hid (17 < l[k].levels.length → manyL l = true) := Lib.hid fun h => List.any_eq_true.2 ⟨l[k], List.getElem_mem hlt, by simpa using h⟩
      have HN : Hid (¬ 17 < l[k].levels.length → manyL (l.take (k + 1)) = false) := Lib.hid fun h => by
        unfold manyL
        rw [List.take_succ_eq_append_getElem hlt, List.any_append]
        have := HK.out
        unfold manyL at this
        rw [this]
        simp
        omega
      generalize l[k].levels.length = m at *
      generalize l[k].id = yi at *
      have i0 : (0 : Int) ≤ (k : Int) := by omega
      have i1 : (k : Int) < (l.length : Int) := by omega
      by_cases he : 17 < m
      · have HZ := Lib.hid (HY.out he)
        have e1 : decide (17 < m) = true := by simpa using he
        simp only [e1] at HL
        clear HY HN HK e1 he
        go_wp2_with fail
        refine (HL.out).mono ?_
        rintro e w2 ⟨rfl, hb2⟩
        go_wp2_with fail
        go_ret
        exact ⟨k, rfl, by rw [HZ.out]; simp, hb.trans (hb2.mono hb.size)⟩
      · have HZ := Lib.hid (HN.out he)
        have e1 : decide (17 < m) = false := by simpa using he
        simp only [e1] at HL
        clear HY HN HK e1 he
        go_wp2_with fail
        refine (HL.out).mono ?_
        rintro e w2 ⟨rfl, hb2⟩
        go_wp2_with fail
        exact ⟨⟨k + 1, hlt, by go_num, hb.trans (hb2.mono hb.size), HZ⟩, by simp [intOf]; omega⟩
    · have HZ : Hid (manyL l = false) := Lib.hid (by have := HK.out; rwa [List.take_of_length_le (by omega)] at this)
      clear HK
      go_wp2_with fail
      go_ret
      exact ⟨-1, rfl, by rw [HZ.out]; rfl, hb⟩
set_option maxRecDepth 100000 in
set_option maxHeartbeats 800000 in
theorem contMany_any (A : Option Addr) (l : List Ld) (c : Nat) (w : World) (hl : Lds w w.heap.size A l) (hn : l.length ≤ 100000) :
    Calls Tryd.prog 42 #[.slice A l.length c, .func (.func 43) #[] #[]] w fun e w' => e = .returned (.bool (manyL l)) ∧ Below w.heap.size w w' := by
  have H := Lib.hid (idxMany_any A l c w hl hn)
  clear hl
  go_enter Tryd.func42, Tryd.ntmps42
  go_wp2_with fail
  refine (H.out).mono ?_
  rintro e w1 ⟨z, rfl, hz, hb⟩
  have HZ := Lib.hid hz
  clear hz
  go_wp2_with fail
  go_ret
  exact ⟨ret_bool HZ.out, hb⟩

/-- What comes in fits its Go types. -/
def Ld.wide (x : Ld) : Prop := (-9223372036854775808 ≤ x.id ∧ x.id ≤ 9223372036854775807) ∧ ∀ y ∈ x.levels, Lk.fit y
set_option maxRecDepth 100000 in
set_option maxHeartbeats 1600000 in
theorem putLinkeds_any (A : Option Addr) (l : List Ld) (c : Nat) (w : World) (hl : Lds w w.heap.size A l) (hn : l.length ≤ 64) (hw : ∀ x ∈ l, x.fit) :
    Calls Tryd.prog 44 #[.slice none 0 0, .slice A l.length c, .func (.func 45) #[] #[]] w (NewB (encLds l) w) := by
  have HW := Lib.hid hw
  have HLEN : Hid (∀ k, ((l.take k).flatMap encLd).length ≤ 64 * 400) := Lib.hid fun k => by
    have := flat_len (f := encLd) (m := 400) (l := l.take k) (fun x hx => encLd_len (hw x (List.mem_of_mem_take hx)))
    rw [List.length_take] at this
    have h2 : min k l.length * 400 ≤ 64 * 400 := Nat.mul_le_mul_right _ (by omega)
    omega
  clear hw
  go_enter Tryd.func44, Tryd.ntmps44
  go_wp2_with fail
  refine (putUint_any w.heap.size (.slice none 0 0) [] l.length w (OwnB.nil _ _) (Nat.le_refl _) (by omega) (by simp)).mono ?_
  rintro e w1 ⟨v1, rfl, ho1, hp1⟩
  have hb1 := hp1.below (OwnB.nil _ _) (Nat.le_refl _)
  have HEU := Lib.hid (enc_len10 (m := l.length) (by omega))
  clear hp1
  go_wp2_with fail
  go_loopw [0, 16] (fun v vi wr => ∃ (v2 : Value) (k : Nat), v2 = v ∧ vi = .int .i64 (k : Int) ∧ k ≤ l.length ∧ OwnB wr w.heap.size v2 (encU l.length ++ (l.take k).flatMap encLd) ∧ Below w.heap.size w wr) (fun _ vi _ => l.length - (intOf vi).toNat)
  case atStart => exact ⟨v1, 0, rfl, rfl, Nat.zero_le _, by rw [List.take_zero, List.flatMap_nil, List.append_nil]; exact ho1, hb1⟩
  case round =>
    clear ho1 hb1
    obtain ⟨v2, k, rfl, rfl, hk, ho, hb⟩ := hrel
    by_cases hlt : k < l.length
    · obtain ⟨b, o, hA2, hbl, f1, A', c', f2, _, _, hLk⟩ := hl.at_ hlt
      subst hA2
      replace f1 := (hb.cell (p := ⟨b, o + k * 2, none⟩) hbl).trans f1
      replace f2 := (hb.cell (p := ⟨b, o + k * 2 + 1, none⟩) hbl).trans f2
      have hwd := HW.out _ (List.getElem_mem hlt)
      have HT : Hid ((l.take (k + 1)).flatMap encLd = (l.take k).flatMap encLd ++ encLd l[k]) := Lib.hid (by rw [List.take_succ_eq_append_getElem hlt, List.flatMap_append]; simp)
      generalize l[k] = y at *
      obtain ⟨yi, ys⟩ := y
      have hA := (Below.refl wr.heap.size wr).alloc (Nat.le_refl _) (.cells #[.int .i64 yi, .slice A' ys.length c'] 64)
      have HP := Lib.hid (putLinked_any w.heap.size v2 _ ⟨yi, ys⟩ A' c' (wr.alloc (.cells #[.int .i64 yi, .slice A' ys.length c'] 64)) (ho.below hA) (Nat.le_trans hb.size hA.size) hwd (by rw [List.length_append]; have := HLEN.out k; have := HEU.out; omega) (hLk.below (hb.trans (hA.mono hb.size))))
      have HBA := Lib.hid (hb.trans (hA.mono hb.size))
      have HOA := Lib.hid (ho.below hA)
      have i0 : (0 : Int) ≤ (k : Int) := by omega
      have i1 : (k : Int) < (l.length : Int) := by omega
      clear hwd hA ho hb hLk
      go_wp2_with fail
      refine (HP.out).mono ?_
      rintro e w2 ⟨v3, rfl, ho3, hp3⟩
      have HB3 := Lib.hid (HBA.out.trans (hp3.below HOA.out HBA.out.size))
      have HO3 : Hid (OwnB w2 w.heap.size v3 (encU l.length ++ (l.take (k + 1)).flatMap encLd)) := Lib.hid (by rw [HT.out, ← List.append_assoc]; exact ho3)
      clear ho3 hp3 HT HBA HOA HP
      go_wp2_with fail
      exact ⟨⟨v3, k + 1, rfl, by go_num, hlt, HO3.out, HB3.out⟩, by simp [intOf]; omega⟩
    · have i1 : ¬ (k : Int) < (l.length : Int) := by omega
      rw [List.take_of_length_le (by omega)] at ho
      have HO := Lib.hid ho
      clear ho
      go_wp2_with fail
      go_ret
      exact newB_mk HO.out hb

def okLds (l : List Ld) : Bool := decide (l.length ≤ 64) && !manyL l
theorem okLds_fit {l : List Ld} (h : okLds l = true) (hw : ∀ x ∈ l, x.wide) : l.length ≤ 64 ∧ ∀ x ∈ l, x.fit := by
  unfold okLds manyL at h
  rw [Bool.and_eq_true, decide_eq_true_eq, Bool.not_eq_true', List.any_eq_false] at h
  exact ⟨h.1, fun x hx => ⟨(hw x hx).1, by have := h.2 x hx; simpa using this, (hw x hx).2⟩⟩
set_option maxRecDepth 100000 in
set_option maxHeartbeats 1600000 in
theorem encodeLinks_any (A : Option Addr) (l : List Ld) (c : Nat) (w : World) (hl : Lds w w.heap.size A l) (hn : l.length ≤ 100000) (hw : ∀ x ∈ l, x.wide) :
    Calls Tryd.prog 14 #[.slice A l.length c] w (EncP (okLds l) (encLds l) w) := by
  by_cases h64 : l.length ≤ 64
  · have hz : ¬ (64 : Int) < (l.length : Int) := by omega
    have HC := Lib.hid (contMany_any A l c w hl hn)
    cases hL : manyL l
    · have hok : okLds l = true := by unfold okLds; rw [hL]; simpa using h64
      have HP := Lib.hid (fun (w1 : World) (k : Below w.heap.size w w1) => putLinkeds_any A l c w1 ((hl.below k).more k.size) h64 (okLds_fit hok hw).2)
      rw [hL] at HC
      rw [hok]
      clear hok hL hl hw
      generalize encLds l = E at *
      go_enter Tryd.func14, Tryd.ntmps14
      go_wp2_with fail
      refine (HC.out).mono ?_
      rintro e w1 ⟨rfl, hb1⟩
      go_wp2_with fail
      refine (HP.out w1 hb1).mono ?_
      rintro e w2 ⟨v, rfl, ho, hb2⟩
      have HO := Lib.hid (ho.less hb1.size)
      have HB := Lib.hid (hb1.trans (hb2.mono hb1.size))
      clear ho hb1 hb2
      go_wp2_with fail
      go_ret2
      exact ⟨v, rfl, HO.out, HB.out⟩
    · have hok : okLds l = false := by unfold okLds; rw [hL]; simp
      rw [hL] at HC
      rw [hok]
      clear hok hL hl hw
      go_enter Tryd.func14, Tryd.ntmps14
      go_wp2_with fail
      refine (HC.out).mono ?_
      rintro e w1 ⟨rfl, hb1⟩
      go_wp2_with fail
      go_ret2
      exact ⟨_, rfl, OwnB.nil _ _, hb1⟩
  · have hz : (64 : Int) < (l.length : Int) := by omega
    have hok : okLds l = false := by unfold okLds; simp; omega
    rw [hok]
    clear hok hl hw
    go_enter Tryd.func14, Tryd.ntmps14
    go_wp2_with fail
    go_ret2
    exact ⟨_, rfl, OwnB.nil _ _, Below.refl _ _⟩
end
section
open Go.RowKit

set_option maxRecDepth 100000 in
set_option maxHeartbeats 3200000 in
theorem rencodeLinks_any (A : Option Addr) (l : List Ld) (c : Nat) (w : World) (hl : Lds w w.heap.size A l) (hn : l.length ≤ 100000) (hw : ∀ x ∈ l, x.wide) :
    Calls Tryd.prog 15 #[.slice A l.length c] w (EncP (okLds l) (encLds l) w) := by
  by_cases h64 : l.length ≤ 64
  · have hz : ¬ (64 : Int) < (l.length : Int) := by omega
    have HW := Lib.hid hw
    have HLEN : Hid (∀ k, manyL (l.take k) = false → ((l.take k).flatMap encLd).length ≤ 64 * 400) := Lib.hid fun k hk => by
      have hks : ∀ x ∈ l.take k, x.fit := fun x hx => by
        unfold manyL at hk
        rw [List.any_eq_false] at hk
        have := hk x hx
        exact ⟨(hw x (List.mem_of_mem_take hx)).1, by simpa using this, (hw x (List.mem_of_mem_take hx)).2⟩
      have := flat_len (f := encLd) (m := 400) (l := l.take k) (fun x hx => encLd_len (hks x hx))
      rw [List.length_take] at this
      have h2 : min k l.length * 400 ≤ 64 * 400 := Nat.mul_le_mul_right _ (by omega)
      omega
    clear hw
    go_enter Tryd.func15, Tryd.ntmps15
    go_wp2_with fail
    refine (appendUint_ref none [] 0 l.length w (Bys.nil _) (by simp) (by omega)).mono ?_
    rintro e w1 ⟨v1, rfl, ho1, hb1⟩
    have HEU := Lib.hid (enc_len10 (m := l.length) (by omega))
    go_wp2_with fail
    go_loopw [4, 5] (fun v vi wr => ∃ (v2 : Value) (k : Nat) (r : List UInt8), v2 = v ∧ vi = .int .i64 (k : Int) ∧ k ≤ l.length ∧ OwnB wr w.heap.size v2 r ∧ Below w.heap.size w wr ∧ Hid (r = encU l.length ++ (l.take k).flatMap encLd) ∧ Hid (manyL (l.take k) = false)) (fun _ vi _ => l.length - (intOf vi).toNat)
    case atStart => exact ⟨v1, 0, _, rfl, rfl, Nat.zero_le _, ho1, hb1, Lib.hid (by rw [List.take_zero, List.flatMap_nil, List.append_nil]; rfl), Lib.hid rfl⟩
    case round =>
      clear ho1 hb1
      obtain ⟨v2, k, r, rfl, rfl, hk, ho, hb, HR, HF⟩ := hrel
      by_cases hlt : k < l.length
      · obtain ⟨b, o, hA2, hbl, g1, A', c', g2, _, _, hLk⟩ := hl.at_ hlt
        subst hA2
        have f1 := (hb.cell (p := ⟨b, o + k * 2, none⟩) hbl).trans g1
        have f2 := (hb.cell (p := ⟨b, o + k * 2 + 1, none⟩) hbl).trans g2
        have hbw : b < wr.heap.size := Nat.lt_of_lt_of_le hbl hb.size
        have hwd := HW.out _ (List.getElem_mem hlt)
        have HT : Hid ((l.take (k + 1)).flatMap encLd = (l.take k).flatMap encLd ++ encLd l[k]) := Lib.hid (by rw [List.take_succ_eq_append_getElem hlt, List.flatMap_append]; simp)
        have HY : Hid (17 < l[k].levels.length → manyL l = true) := Lib.hid fun h => List.any_eq_true.2 ⟨l[k], List.getElem_mem hlt, by simpa using h⟩
        have HN : Hid (¬ 17 < l[k].levels.length → manyL (l.take (k + 1)) = false) := Lib.hid fun h => by
          unfold manyL
          rw [List.take_succ_eq_append_getElem hlt, List.any_append]
          have := HF.out
          unfold manyL at this
          rw [this]
          simp
          omega
        have hrl : r.length ≤ 26000 := by
          rw [HR.out, List.length_append]
          have := HLEN.out k HF.out
          have := HEU.out
          omega
        generalize l[k] = y at *
        obtain ⟨xi, ys⟩ := y
        simp only at f2 g2 hwd HY HN
        obtain ⟨⟨hx1, hx2⟩, hx3⟩ := hwd
        have i0 : (0 : Int) ≤ (k : Int) := by omega
        have i1 : (k : Int) < (l.length : Int) := by omega
        by_cases he : 17 < ys.length
        · have hok : okLds l = false := by unfold okLds; rw [HY.out he]; simp
          have HOK := Lib.hid hok
          have he1 : (17 : Int) < (ys.length : Int) := by omega
          clear HY HN HT HR HF HW HLEN hok
          go_wp2_with fail
          go_ret2
          rw [HOK.out]
          exact ⟨_, rfl, OwnB.nil _ _, hb⟩
        · have HZ := Lib.hid (HN.out he)
          have he1 : ¬ (17 : Int) < (ys.length : Int) := by omega
          have HR2 : Hid (r ++ encLd ⟨xi, ys⟩ = encU l.length ++ (l.take (k + 1)).flatMap encLd) := Lib.hid (by rw [HT.out, HR.out, List.append_assoc])
          obtain ⟨A1, c1, rfl, _, _, hRd⟩ := ho.read
          have HRD := Lib.hid hRd
          have HB := Lib.hid hb
          have HD := Lib.hid (Below.refl wr.heap.size wr).drew
          have HS : Hid (∀ wz, Below wr.heap.size wr wz → wz.cell? ⟨b, o + k * 2, none⟩ = some (.int .i64 xi) ∧ wz.cell? ⟨b, o + k * 2 + 1, none⟩ = some (.slice A' ys.length c')) := Lib.hid fun wz h => ⟨(h.cell (p := ⟨b, o + k * 2, none⟩) hbw).trans f1, (h.cell (p := ⟨b, o + k * 2 + 1, none⟩) hbw).trans f2⟩
          have HZI : Hid ((encU (zig xi)).length ≤ 10) := Lib.hid (enc_len10 (zig_lt hx1 hx2))
          have hys : ys.length ≤ 17 := by omega
          have e5 : IntKind.u64.wrap (ys.length : Int) = (ys.length : Int) := by rw [IntKind.wrap_u64]; omega
          have HEY := Lib.hid (enc_len10 (m := ys.length) (by omega))
          clear HY HN HT HR HF HW HLEN ho hb hRd HEU f1
          go_upto_region 9 with fail
          have hS0 := HS.out wr (Below.refl _ _)
          clear f2
          go_region_held3 (fun w' => w'.cell? ⟨b, o + k * 2, none⟩ = some (.int .i64 xi) ∧ w'.cell? ⟨b, o + k * 2 + 1, none⟩ = some (.slice A' ys.length c')) (first | exact hS2 | exact hS1 | exact hS0) ((first | (go_at_call 41; refine (appendInt_ref A1 r c1 xi wr.drew (show Bys wr.drew wr.drew.heap.size A1 r from HRD.out) (by omega) hx1 hx2).mono ?_; rintro e w2 ⟨v2, rfl, ho2, hb2⟩; replace hb2 : Below wr.heap.size wr w2 := HD.out.trans hb2; obtain ⟨r2, hr2, hr2l⟩ : ∃ r2, Hid (r2 = r ++ encU (zig xi)) ∧ r2.length ≤ 26100 := ⟨_, Lib.hid rfl, by rw [List.length_append]; have := HZI.out; omega⟩; rw [← hr2.out] at ho2; obtain ⟨A2, c2, rfl, _, _, hR2⟩ := ho2.read; have hS1 := HS.out _ hb2) | (go_at_call 39; refine (appendUint_ref A2 r2 c2 ys.length w2 hR2 (by omega) (by omega)).mono ?_; rintro e w3 ⟨v3, rfl, ho3, hb3⟩; replace ho3 := ho3.less (Nat.le_trans HB.out.size hb2.size); replace hb3 : Below wr.heap.size wr w3 := hb2.trans (hb3.mono hb2.size); have hS2 := HS.out _ hb3)))
          obtain ⟨p, hp, hpl⟩ : ∃ p, Hid (p = r ++ (encU (zig xi) ++ encU ys.length)) ∧ p.length ≤ 26200 := ⟨_, Lib.hid rfl, by rw [List.length_append, List.length_append]; have := HZI.out; have := HEY.out; omega⟩
          have HO3 : Hid (OwnB w3 w.heap.size v3 p) := Lib.hid (by rw [hr2.out, List.append_assoc, ← hp.out] at ho3; exact ho3)
          have HB3 := Lib.hid (HB.out.trans (hb3.mono HB.out.size))
          clear hS0 hS1 hS2 hb2 hb3 ho2 ho3 hR2 HS HD HRD e5 hr2 hr2l HB
          have HX3 := Lib.hid hx3
          clear hx3 hbw hrl
          go_wp2_with fail
          go_loopw [4, 6] (fun v vi wr => ∃ (v4 : Value) (i : Nat) (s : List UInt8), v4 = v ∧ vi = .int .i64 (i : Int) ∧ i ≤ ys.length ∧ OwnB wr w.heap.size v4 s ∧ Below w.heap.size w wr ∧ Hid (s = p ++ (ys.take i).flatMap encLk)) (fun _ vi _ => ys.length - (intOf vi).toNat)
          case atStart => exact ⟨v3, 0, p, rfl, rfl, Nat.zero_le _, HO3.out, HB3.out, Lib.hid (by rw [List.take_zero, List.flatMap_nil, List.append_nil])⟩
          case round =>
            clear HO3 HB3
            obtain ⟨v4, i, s, rfl, rfl, hi, ho, hb, HSS⟩ := hrel
            have f2 := (hb.cell (p := ⟨b, o + k * 2 + 1, none⟩) hbl).trans g2
            have hbw : b < wr.heap.size := Nat.lt_of_lt_of_le hbl hb.size
            by_cases hit : i < ys.length
            · obtain ⟨b2, o2, hA3, hbl2, y1, y2⟩ := hLk.at_ hit
              subst hA3
              have q1 := (hb.cell (p := ⟨b2, o2 + i * 2, none⟩) hbl2).trans y1
              have q2 := (hb.cell (p := ⟨b2, o2 + i * 2 + 1, none⟩) hbl2).trans y2
              have hbw2 : b2 < wr.heap.size := Nat.lt_of_lt_of_le hbl2 hb.size
              have hfit := HX3.out _ (List.getElem_mem hit)
              have HT2 : Hid ((ys.take (i + 1)).flatMap encLk = (ys.take i).flatMap encLk ++ encLk ys[i]) := Lib.hid (by rw [List.take_succ_eq_append_getElem hit, List.flatMap_append]; simp)
              have hsl : s.length ≤ 26700 := by
                rw [HSS.out, List.length_append]
                have := flat_len (f := encLk) (m := 20) (l := ys.take i) (fun x hx => encLk_len (HX3.out x (List.mem_of_mem_take hx)))
                rw [List.length_take] at this
                have h2 : min i ys.length * 20 ≤ 17 * 20 := Nat.mul_le_mul_right _ (by omega)
                omega
              generalize ys[i] = y at *
              obtain ⟨ya, yb⟩ := y
              obtain ⟨⟨ha1, ha2⟩, ⟨hb1, hb2'⟩⟩ := hfit
              simp only at ha1 ha2 hb1 hb2' q1 q2
              obtain ⟨A1, c1, rfl, _, _, hRd⟩ := ho.read
              have HRD := Lib.hid hRd
              have HB := Lib.hid hb
              have HD := Lib.hid (Below.refl wr.heap.size wr).drew
              have HS : Hid (∀ wz, Below wr.heap.size wr wz → wz.cell? ⟨b, o + k * 2 + 1, none⟩ = some (.slice (some ⟨b2, o2, none⟩) ys.length c') ∧ wz.cell? ⟨b2, o2 + i * 2, none⟩ = some (.int .i64 ya) ∧ wz.cell? ⟨b2, o2 + i * 2 + 1, none⟩ = some (.int .i64 yb)) := Lib.hid fun wz h => ⟨(h.cell (p := ⟨b, o + k * 2 + 1, none⟩) hbw).trans f2, (h.cell (p := ⟨b2, o2 + i * 2, none⟩) hbw2).trans q1, (h.cell (p := ⟨b2, o2 + i * 2 + 1, none⟩) hbw2).trans q2⟩
              have HZA : Hid ((encU (zig ya)).length ≤ 10) := Lib.hid (enc_len10 (zig_lt ha1 ha2))
              have HR3 : Hid (s ++ encLk ⟨ya, yb⟩ = p ++ (ys.take (i + 1)).flatMap encLk) := Lib.hid (by rw [HT2.out, HSS.out, List.append_assoc])
              have j0 : (0 : Int) ≤ (i : Int) := by omega
              have j1 : (i : Int) < (ys.length : Int) := by omega
              clear ho hb hRd HSS HT2 q1 q2 y1 y2
              go_upto_region 13 with fail
              have hS0 := HS.out wr (Below.refl _ _)
              clear f2
              go_region_held3 (fun w' => w'.cell? ⟨b, o + k * 2 + 1, none⟩ = some (.slice (some ⟨b2, o2, none⟩) ys.length c') ∧ w'.cell? ⟨b2, o2 + i * 2, none⟩ = some (.int .i64 ya) ∧ w'.cell? ⟨b2, o2 + i * 2 + 1, none⟩ = some (.int .i64 yb)) (first | exact hS2 | exact hS1 | exact hS0) ((first | (go_at_call 41; refine (appendInt_ref A4 r4 c4 yb w4 hR4 (by omega) hb1 hb2').mono ?_; rintro e w5 ⟨v6, rfl, ho5, hb5⟩; replace ho5 := ho5.less (Nat.le_trans HB.out.size hb4.size); replace hb5 : Below wr.heap.size wr w5 := hb4.trans (hb5.mono hb4.size); have hS2 := HS.out _ hb5) | (go_at_call 41; refine (appendInt_ref A1 s c1 ya wr.drew (show Bys wr.drew wr.drew.heap.size A1 s from HRD.out) (by omega) ha1 ha2).mono ?_; rintro e w4 ⟨v5, rfl, ho4, hb4⟩; replace hb4 : Below wr.heap.size wr w4 := HD.out.trans hb4; obtain ⟨r4, hr4, hr4l⟩ : ∃ r4, Hid (r4 = s ++ encU (zig ya)) ∧ r4.length ≤ 26800 := ⟨_, Lib.hid rfl, by rw [List.length_append]; have := HZA.out; omega⟩; rw [← hr4.out] at ho4; obtain ⟨A4, c4, rfl, _, _, hR4⟩ := ho4.read; have hS1 := HS.out _ hb4)))
              have HO5 : Hid (OwnB w5 w.heap.size v6 (s ++ encLk ⟨ya, yb⟩)) := Lib.hid (by rw [hr4.out, List.append_assoc] at ho5; exact ho5)
              have HB5 := Lib.hid (HB.out.trans (hb5.mono HB.out.size))
              clear hS0 hS1 hS2 hb4 hb5 ho4 ho5 hR4 HS HD HRD hr4 hr4l HB
              go_wp2_with fail
              exact ⟨⟨v6, i + 1, _, rfl, by go_num, hit, HO5.out, HB5.out, HR3⟩, by simp [intOf]; omega⟩
            · obtain rfl : i = ys.length := by omega
              have j1 : ¬ (ys.length : Int) < (ys.length : Int) := by omega
              have HRF : Hid (s = encU l.length ++ (l.take (k + 1)).flatMap encLd) := Lib.hid (by
                rw [← HR2.out, HSS.out, hp.out, List.take_length]
                show _ = r ++ (encU (zig xi) ++ (encU ys.length ++ ys.flatMap encLk))
                rw [List.append_assoc, List.append_assoc])
              have HO := Lib.hid ho
              clear ho HSS
              go_wp2_with fail
              exact ⟨⟨v4, k + 1, s, rfl, by go_num, hlt, HO.out, hb, HRF, HZ⟩, by simp [intOf]; omega⟩
      · have i1 : ¬ (k : Int) < (l.length : Int) := by omega
        have hok : okLds l = true := by
          have h1 := HF.out
          rw [List.take_of_length_le (by omega)] at h1
          unfold okLds
          rw [h1]
          simpa using h64
        have hr := HR.out
        rw [List.take_of_length_le (by omega)] at hr
        have HO : Hid (OwnB wr w.heap.size v2 (encLds l)) := Lib.hid (by unfold encLds; rw [← hr]; exact ho)
        have HOK := Lib.hid hok
        clear ho hr hok HF HR
        go_wp2_with fail
        go_ret2
        rw [HOK.out]
        exact ⟨v2, rfl, HO.out, hb⟩
  · have hz : (64 : Int) < (l.length : Int) := by omega
    have hok : okLds l = false := by unfold okLds; simp; omega
    rw [hok]
    clear hok hl hw
    go_enter Tryd.func15, Tryd.ntmps15
    go_wp2_with fail
    go_ret2
    exact ⟨_, rfl, OwnB.nil _ _, Below.refl _ _⟩
end
end Go.Proofs.YtmhimkojegkalaaDoor
