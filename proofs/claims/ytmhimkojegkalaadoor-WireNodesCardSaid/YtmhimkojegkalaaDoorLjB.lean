/-
  EncodeNodes of package wire: the bytes, in new memory, or the error. Condition: the nodes can be read.
  EncodeNodes of the reference of layer 3: the bytes, in new memory, or the error. Condition: the nodes can be read.
-/
import Derived.Test.YtmhimkojegkalaaDoorKjA
import Derived.Test.YtmhimkojegkalaaDoorLbU
import Derived.Test.YtmhimkojegkalaaDoorKdK
import Derived.Deep.RegionLaw
import Derived.Deep.RegionHeld3
import Derived.Deep.DeepCutAuto
import Derived.Deep.CutBlock
namespace Go.Proofs.YtmhimkojegkalaaDoor
section
open Go.RowKit

set_option maxRecDepth 100000 in
set_option maxHeartbeats 800000 in
theorem hasLong_any (x : Nd) (w : World) :
    Calls Tryd.prog 36 #[.agg #[.int .i64 x.id, .string x.key, .int .u32 (x.word : Int)]] w fun e w' => e = .returned (.bool (decide (64 < x.key.size))) ∧ Below w.heap.size w w' := by
  have hX := Has.new w 57 #[.int .i64 x.id, .string x.key, .int .u32 (x.word : Int)]
  have x1 := hX.cell 1
  have hb := (Below.refl w.heap.size w).alloc (Nat.le_refl _) (.cells #[.int .i64 x.id, .string x.key, .int .u32 (x.word : Int)] 57)
  clear hX
  go_enter Tryd.func36, Tryd.ntmps36
  go_wp2_with fail
  go_ret
  exact ⟨ret_bool (by rw [Bool.eq_iff_iff]; simp; omega), hb⟩

theorem push_cell {W wz : World} {v v' : Value} {p : Addr} (hp : p.block < W.heap.size) (hne : v.ownBlock ≠ some p.block) (h : Push W v wz v') : wz.cell? p = W.cell? p :=
  World.cell?_of_block (h.1.block p.block hp (fun e => hne e.symm))

set_option maxRecDepth 100000 in
set_option maxHeartbeats 1600000 in
theorem putNode_any (base : Nat) (v : Value) (l : List UInt8) (x : Nd) (w : World) (ho : OwnB w base v l) (hb : base ≤ w.heap.size) (hx1 : -9223372036854775808 ≤ x.id) (hx2 : x.id ≤ 9223372036854775807) (hx3 : x.word < 4294967296) (hx4 : x.key.size ≤ 1000) (hl : l.length ≤ 90000000) :
    Calls Tryd.prog 38 #[v, .agg #[.int .i64 x.id, .string x.key, .int .u32 (x.word : Int)]] w (PutP base v (l ++ encNd x) w) := by
  have hX := Has.new w 57 #[.int .i64 x.id, .string x.key, .int .u32 (x.word : Int)]
  have x0 := hX.cell 0
  have x1 := hX.cell 1
  have x2 := hX.cell 2
  have hg := hX.lt
  have hbA := (Below.refl w.heap.size w).alloc (Nat.le_refl _) (.cells #[.int .i64 x.id, .string x.key, .int .u32 (x.word : Int)] 57)
  have hoA := ho.below hbA
  have hne : v.ownBlock ≠ some w.heap.size := fun e => by have := (ho.base_le e).2; omega
  have hPA : Push w v (w.alloc (.cells #[.int .i64 x.id, .string x.key, .int .u32 (x.word : Int)] 57)) v := Push.pre hbA (Push.refl _ _)
  have hbs := Nat.le_trans hb hbA.size
  have hE1 := enc_len10 (zig_lt hx1 hx2)
  have hE2 : (encS x.key.data.toList).length ≤ 1010 := by
    have h3 : x.key.data.toList.length = x.key.size := by rw [Array.length_toList]; rfl
    unfold encS
    rw [List.length_append, h3]
    have := enc_len10 (m := x.key.size) (by omega)
    omega
  have HPC := Lib.hid (fun (wz : World) (v' : Value) (p : Addr) (h : Push (w.alloc (.cells #[.int .i64 x.id, .string x.key, .int .u32 (x.word : Int)] 57)) v wz v') (hp : p.block = w.heap.size) => push_cell (p := p) (by rw [hp]; exact hg) (by rw [hp]; exact hne) h)
  have HE1 := Lib.hid hE1
  have HE2 := Lib.hid hE2
  have HBS := Lib.hid hbs
  have HOA := Lib.hid hoA
  have HPA := Lib.hid hPA
  have X0 := Lib.hid x0
  have X1 := Lib.hid x1
  have X2 := Lib.hid x2
  unfold encNd
  obtain ⟨xi, xk, xw⟩ := x
  simp only at *
  clear hE1 hE2 hbs hoA hPA x0 x1 x2 hbA hX
  go_enter Tryd.func38, Tryd.ntmps38
  go_upto_region 1 with fail
  generalize w.alloc (.cells #[.int .i64 xi, .string xk, .int .u32 (xw : Int)] 57) = W at *
  have b0 := X0.out
  have b1 := X1.out
  have b2 := X2.out
  simp only [List.getElem?_toArray, List.getElem?_cons_zero, List.getElem?_cons_succ] at b0 b1 b2
  have HC : Hid (∀ wz v', Push W v wz v' → wz.cell? ⟨w.heap.size, 0, none⟩ = some (.int .i64 xi) ∧ wz.cell? ⟨w.heap.size, 1, none⟩ = some (.string xk) ∧ wz.cell? ⟨w.heap.size, 2, none⟩ = some (.int .u32 (xw : Int))) := Lib.hid fun wz v' h => ⟨(HPC.out wz v' _ h rfl).trans b0, (HPC.out wz v' _ h rfl).trans b1, (HPC.out wz v' _ h rfl).trans b2⟩
  generalize w.heap.size = G at *
  have hS0 := HC.out W v (Push.refl _ _)
  have e5 : IntKind.u64.wrap (xw : Int) = (xw : Int) := by rw [IntKind.wrap_u64]; omega
  clear X0 X1 X2 HPC b0 b1 b2
  go_region_held3 (fun w' => w'.cell? ⟨G, 0, none⟩ = some (.int .i64 xi) ∧ w'.cell? ⟨G, 1, none⟩ = some (.string xk) ∧ w'.cell? ⟨G, 2, none⟩ = some (.int .u32 (xw : Int))) (first | exact hS3 | exact hS2 | exact hS1 | exact hS0) ((first | (go_at_call 75; refine (putInt_any base v l xi W.drew (show OwnB W.drew base v l from HOA.out) (show base ≤ W.drew.heap.size from HBS.out) hx1 hx2 (by omega)).mono ?_; rintro e w2 ⟨v2, rfl, ho2, hp2⟩; replace hp2 : Push W v w2 v2 := Push.pre (Below.refl W.heap.size W).drew hp2; have hS1 := HC.out _ _ hp2) | (go_at_call 74; refine (putString_any base _ _ xk _ ho2 (Nat.le_trans HBS.out hp2.1.size) (by have := HE1.out; simp; omega) (by omega)).mono ?_; rintro e w3 ⟨v3, rfl, ho3, hp3⟩; have hS2 := HC.out _ _ (hp2.trans hp3)) | (go_at_call 73; refine (putUint_any base _ _ xw _ ho3 (Nat.le_trans HBS.out (hp2.trans hp3).1.size) (by omega) (by have := HE1.out; have := HE2.out; simp; omega)).mono ?_; rintro e w4 ⟨v4, rfl, ho4, hp4⟩; have hS3 := HC.out _ _ ((hp2.trans hp3).trans hp4))))
  have HPW := Lib.hid (HPA.out.trans ((hp2.trans hp3).trans hp4))
  clear hS0 hS1 hS2 hS3 hp2 hp3 hp4 ho2 ho3 HC HOA HPA HBS e5
  rw [List.append_assoc, List.append_assoc] at ho4
  have HO4 := Lib.hid ho4
  clear ho4
  go_wp2_with fail
  go_ret
  exact putP_mk HO4.out HPW.out

/-- Is some key too long? -/
def longK (l : List Nd) : Bool := l.any (fun x => decide (64 < x.key.size))
set_option maxRecDepth 100000 in
set_option maxHeartbeats 1600000 in
theorem idxLong_any (A : Option Addr) (l : List Nd) (c : Nat) (w : World) (hl : Nds w w.heap.size A l) (hn : l.length ≤ 100000) :
    Calls Tryd.prog 72 #[.slice A l.length c, .func (.func 36) #[] #[]] w fun e w' => ∃ z : Int, e = .returned (.int .i64 z) ∧ decide (0 ≤ z) = longK l ∧ Below w.heap.size w w' := by
  go_enter Tryd.func72, Tryd.ntmps72
  go_wp2_with fail
  go_loopw [8] (fun i wr => ∃ k : Nat, k ≤ l.length ∧ i = .int .i64 (k : Int) ∧ Below w.heap.size w wr ∧ Hid (longK (l.take k) = false)) (fun i _ => l.length - (intOf i).toNat)
  case atStart => exact ⟨0, Nat.zero_le _, rfl, Below.refl _ _, Lib.hid rfl⟩
  case round =>
    obtain ⟨k, hk, rfl, hb, HK⟩ := hrel
    by_cases hlt : k < l.length
    · obtain ⟨b, o, hA2, hbl, f1, f2, f3⟩ := hl.at_ hlt
      subst hA2
      replace f1 := (hb.cell (p := ⟨b, o + k * 3, none⟩) hbl).trans f1
      replace f2 := (hb.cell (p := ⟨b, o + k * 3 + 1, none⟩) hbl).trans f2
      replace f3 := (hb.cell (p := ⟨b, o + k * 3 + 2, none⟩) hbl).trans f3
      have HL := Lib.hid (hasLong_any l[k] wr)
      have HY : Hid (64 < l[k].key.size → longK l = true) := Lib.hid fun h => List.any_eq_true.2 ⟨l[k], List.getElem_mem hlt, by simpa using h⟩
      have HN : Hid (¬ 64 < l[k].key.size → longK (l.take (k + 1)) = false) := Lib.hid fun h => by
        unfold longK
        rw [List.take_succ_eq_append_getElem hlt, List.any_append]
        have := HK.out
        unfold longK at this
        rw [this]
        simp
        omega
      generalize l[k] = y at *
      obtain ⟨yi, yk, yw⟩ := y
      have i0 : (0 : Int) ≤ (k : Int) := by omega
      have i1 : (k : Int) < (l.length : Int) := by omega
      by_cases he : 64 < yk.size
      · have HZ := Lib.hid (HY.out he)
        have e1 : decide (64 < yk.size) = true := by simpa using he
        simp only [e1] at HL
        clear HY HN HK e1 he
        go_wp2_with fail
        refine (HL.out).mono ?_
        rintro e w2 ⟨rfl, hb2⟩
        go_wp2_with fail
        go_ret
        exact ⟨k, rfl, by rw [HZ.out]; simp, hb.trans (hb2.mono hb.size)⟩
      · have HZ := Lib.hid (HN.out he)
        have e1 : decide (64 < yk.size) = false := by simpa using he
        simp only [e1] at HL
        clear HY HN HK e1 he
        go_wp2_with fail
        refine (HL.out).mono ?_
        rintro e w2 ⟨rfl, hb2⟩
        go_wp2_with fail
        exact ⟨⟨k + 1, hlt, by go_num, hb.trans (hb2.mono hb.size), HZ⟩, by simp [intOf]; omega⟩
    · have HZ : Hid (longK l = false) := Lib.hid (by have := HK.out; rwa [List.take_of_length_le (by omega)] at this)
      clear HK
      go_wp2_with fail
      go_ret
      exact ⟨-1, rfl, by rw [HZ.out]; rfl, hb⟩
set_option maxRecDepth 100000 in
set_option maxHeartbeats 800000 in
theorem contLong_any (A : Option Addr) (l : List Nd) (c : Nat) (w : World) (hl : Nds w w.heap.size A l) (hn : l.length ≤ 100000) :
    Calls Tryd.prog 35 #[.slice A l.length c, .func (.func 36) #[] #[]] w fun e w' => e = .returned (.bool (longK l)) ∧ Below w.heap.size w w' := by
  have H := Lib.hid (idxLong_any A l c w hl hn)
  clear hl
  go_enter Tryd.func35, Tryd.ntmps35
  go_wp2_with fail
  refine (H.out).mono ?_
  rintro e w1 ⟨z, rfl, hz, hb⟩
  have HZ := Lib.hid hz
  clear hz
  go_wp2_with fail
  go_ret
  exact ⟨ret_bool HZ.out, hb⟩

theorem encNd_len {x : Nd} (hx1 : -9223372036854775808 ≤ x.id) (hx2 : x.id ≤ 9223372036854775807) (hx3 : x.word < 4294967296) (hx4 : x.key.size ≤ 1000) : (encNd x).length ≤ 1030 := by
  have h3 : x.key.data.toList.length = x.key.size := by rw [Array.length_toList]; rfl
  unfold encNd encS
  rw [List.length_append, List.length_append, List.length_append, h3]
  have := enc_len10 (zig_lt hx1 hx2)
  have := enc_len10 (m := x.key.size) (by omega)
  have := enc_len10 (m := x.word) (by omega)
  omega
theorem flat_len {α : Type} {f : α → List UInt8} {m : Nat} : ∀ {l : List α}, (∀ x ∈ l, (f x).length ≤ m) → (l.flatMap f).length ≤ l.length * m
  | [], _ => by simp
  | x :: l, h => by
    rw [List.flatMap_cons, List.length_append, List.length_cons, Nat.succ_mul]
    have h1 := h x List.mem_cons_self
    have h2 := flat_len (l := l) (fun y hy => h y (List.mem_cons_of_mem _ hy))
    omega

set_option maxRecDepth 100000 in
set_option maxHeartbeats 1600000 in
theorem putNodes_any (A : Option Addr) (l : List Nd) (c : Nat) (w : World) (hl : Nds w w.heap.size A l) (hn : l.length ≤ 1000) (hw : ∀ x ∈ l, x.wide) (hk : ∀ x ∈ l, x.key.size ≤ 1000) :
    Calls Tryd.prog 37 #[.slice none 0 0, .slice A l.length c, .func (.func 38) #[] #[]] w (NewB (encNs l) w) := by
  have HW := Lib.hid hw
  have HKK := Lib.hid hk
  have HLEN : Hid (∀ k, ((l.take k).flatMap encNd).length ≤ 1000 * 1030) := Lib.hid fun k => by
    have := flat_len (f := encNd) (m := 1030) (l := l.take k) (fun x hx => encNd_len (hw x (List.mem_of_mem_take hx)).1.1 (hw x (List.mem_of_mem_take hx)).1.2 (hw x (List.mem_of_mem_take hx)).2 (hk x (List.mem_of_mem_take hx)))
    rw [List.length_take] at this
    have h2 : min k l.length * 1030 ≤ 1000 * 1030 := Nat.mul_le_mul_right _ (by omega)
    omega
  clear hw hk
  go_enter Tryd.func37, Tryd.ntmps37
  go_wp2_with fail
  refine (putUint_any w.heap.size (.slice none 0 0) [] l.length w (OwnB.nil _ _) (Nat.le_refl _) (by omega) (by simp)).mono ?_
  rintro e w1 ⟨v1, rfl, ho1, hp1⟩
  have hb1 := hp1.below (OwnB.nil _ _) (Nat.le_refl _)
  have HEU := Lib.hid (enc_len10 (m := l.length) (by omega))
  clear hp1
  go_wp2_with fail
  go_loopw [0, 16] (fun v vi wr => ∃ (v2 : Value) (k : Nat), v2 = v ∧ vi = .int .i64 (k : Int) ∧ k ≤ l.length ∧ OwnB wr w.heap.size v2 (encU l.length ++ (l.take k).flatMap encNd) ∧ Below w.heap.size w wr) (fun _ vi _ => l.length - (intOf vi).toNat)
  case atStart => exact ⟨v1, 0, rfl, rfl, Nat.zero_le _, by rw [List.take_zero, List.flatMap_nil, List.append_nil]; exact ho1, hb1⟩
  case round =>
    clear ho1 hb1
    obtain ⟨v2, k, rfl, rfl, hk, ho, hb⟩ := hrel
    by_cases hlt : k < l.length
    · obtain ⟨b, o, hA2, hbl, f1, f2, f3⟩ := hl.at_ hlt
      subst hA2
      replace f1 := (hb.cell (p := ⟨b, o + k * 3, none⟩) hbl).trans f1
      replace f2 := (hb.cell (p := ⟨b, o + k * 3 + 1, none⟩) hbl).trans f2
      replace f3 := (hb.cell (p := ⟨b, o + k * 3 + 2, none⟩) hbl).trans f3
      have hwd := HW.out _ (List.getElem_mem hlt)
      have hky := HKK.out _ (List.getElem_mem hlt)
      have HT : Hid ((l.take (k + 1)).flatMap encNd = (l.take k).flatMap encNd ++ encNd l[k]) := Lib.hid (by rw [List.take_succ_eq_append_getElem hlt, List.flatMap_append]; simp)
      generalize l[k] = y at *
      obtain ⟨yi, yk, yw⟩ := y
      have hA := (Below.refl wr.heap.size wr).alloc (Nat.le_refl _) (.cells #[.int .i64 yi, .string yk, .int .u32 (yw : Int)] 57)
      have HP := Lib.hid (putNode_any w.heap.size v2 _ ⟨yi, yk, yw⟩ (wr.alloc (.cells #[.int .i64 yi, .string yk, .int .u32 (yw : Int)] 57)) (ho.below hA) (Nat.le_trans hb.size hA.size) hwd.1.1 hwd.1.2 hwd.2 hky (by rw [List.length_append]; have := HLEN.out k; have := HEU.out; omega))
      have HBA := Lib.hid (hb.trans (hA.mono hb.size))
      have HOA := Lib.hid (ho.below hA)
      have i0 : (0 : Int) ≤ (k : Int) := by omega
      have i1 : (k : Int) < (l.length : Int) := by omega
      clear hwd hky hA ho hb
      go_wp2_with fail
      refine (HP.out).mono ?_
      rintro e w2 ⟨v3, rfl, ho3, hp3⟩
      have HB3 := Lib.hid (HBA.out.trans (hp3.below HOA.out HBA.out.size))
      have HO3 : Hid (OwnB w2 w.heap.size v3 (encU l.length ++ (l.take (k + 1)).flatMap encNd)) := Lib.hid (by rw [HT.out, ← List.append_assoc]; exact ho3)
      clear ho3 hp3 HT HBA HOA HP
      go_wp2_with fail
      exact ⟨⟨v3, k + 1, rfl, by go_num, hlt, HO3.out, HB3.out⟩, by simp [intOf]; omega⟩
    · have i1 : ¬ (k : Int) < (l.length : Int) := by omega
      rw [List.take_of_length_le (by omega)] at ho
      have HO := Lib.hid ho
      clear ho
      go_wp2_with fail
      go_ret
      exact newB_mk HO.out hb

/-- What EncodeNodes answers. -/
def EncP (ok : Bool) (l : List UInt8) (w : World) (e : Ending) (w' : World) : Prop := ∃ v, e = .returned (.tuple #[v, .int .i64 (if ok then 0 else 3)]) ∧ OwnB w' w.heap.size v (if ok then l else []) ∧ Below w.heap.size w w'
def okNs (l : List Nd) : Bool := decide (l.length ≤ 64) && !longK l
theorem okNs_keys {l : List Nd} (h : okNs l = true) : l.length ≤ 64 ∧ ∀ x ∈ l, x.key.size ≤ 64 := by
  unfold okNs longK at h
  rw [Bool.and_eq_true, decide_eq_true_eq, Bool.not_eq_true', List.any_eq_false] at h
  exact ⟨h.1, fun x hx => by have := h.2 x hx; simpa using this⟩
set_option maxRecDepth 100000 in
set_option maxHeartbeats 1600000 in
theorem encodeNodes_any (A : Option Addr) (l : List Nd) (c : Nat) (w : World) (hl : Nds w w.heap.size A l) (hn : l.length ≤ 100000) (hw : ∀ x ∈ l, x.wide) :
    Calls Tryd.prog 12 #[.slice A l.length c] w (EncP (okNs l) (encNs l) w) := by
  by_cases h64 : l.length ≤ 64
  · have hz : ¬ (64 : Int) < (l.length : Int) := by omega
    have HC := Lib.hid (contLong_any A l c w hl hn)
    cases hL : longK l
    · have hok : okNs l = true := by unfold okNs; rw [hL]; simpa using h64
      have HP := Lib.hid (fun (w1 : World) (k : Below w.heap.size w w1) => putNodes_any A l c w1 ((hl.below k).more k.size) (by omega) hw (fun x hx => Nat.le_trans ((okNs_keys hok).2 x hx) (by omega)))
      rw [hL] at HC
      rw [hok]
      clear hok hL hl hw
      generalize encNs l = E at *
      go_enter Tryd.func12, Tryd.ntmps12
      go_wp2_with fail
      refine (HC.out).mono ?_
      rintro e w1 ⟨rfl, hb1⟩
      go_wp2_with fail
      refine (HP.out w1 hb1).mono ?_
      rintro e w2 ⟨v, rfl, ho, hb2⟩
      have HO := Lib.hid (ho.less hb1.size)
      have HB := Lib.hid (hb1.trans (hb2.mono hb1.size))
      clear ho hb1 hb2
      go_wp2_with fail
      go_ret2
      exact ⟨v, rfl, HO.out, HB.out⟩
    · have hok : okNs l = false := by unfold okNs; rw [hL]; simp
      rw [hL] at HC
      rw [hok]
      clear hok hL hl hw
      go_enter Tryd.func12, Tryd.ntmps12
      go_wp2_with fail
      refine (HC.out).mono ?_
      rintro e w1 ⟨rfl, hb1⟩
      go_wp2_with fail
      go_ret2
      exact ⟨_, rfl, OwnB.nil _ _, hb1⟩
  · have hz : (64 : Int) < (l.length : Int) := by omega
    have hok : okNs l = false := by unfold okNs; simp; omega
    rw [hok]
    clear hok hl hw
    go_enter Tryd.func12, Tryd.ntmps12
    go_wp2_with fail
    go_ret2
    exact ⟨_, rfl, OwnB.nil _ _, Below.refl _ _⟩
end
section
open Go.RowKit

set_option maxRecDepth 100000 in
set_option maxHeartbeats 3200000 in
theorem rencodeNodes_any (A : Option Addr) (l : List Nd) (c : Nat) (w : World) (hl : Nds w w.heap.size A l) (hn : l.length ≤ 100000) (hw : ∀ x ∈ l, x.wide) :
    Calls Tryd.prog 13 #[.slice A l.length c] w (EncP (okNs l) (encNs l) w) := by
  by_cases h64 : l.length ≤ 64
  · have hz : ¬ (64 : Int) < (l.length : Int) := by omega
    have HW := Lib.hid hw
    have HLEN : Hid (∀ k, longK (l.take k) = false → ((l.take k).flatMap encNd).length ≤ 64 * 1030) := Lib.hid fun k hk => by
      have hks : ∀ x ∈ l.take k, x.key.size ≤ 64 := fun x hx => by
        unfold longK at hk
        rw [List.any_eq_false] at hk
        have := hk x hx
        simpa using this
      have := flat_len (f := encNd) (m := 1030) (l := l.take k) (fun x hx => encNd_len (hw x (List.mem_of_mem_take hx)).1.1 (hw x (List.mem_of_mem_take hx)).1.2 (hw x (List.mem_of_mem_take hx)).2 (Nat.le_trans (hks x hx) (by omega)))
      rw [List.length_take] at this
      have h2 : min k l.length * 1030 ≤ 64 * 1030 := Nat.mul_le_mul_right _ (by omega)
      omega
    clear hw
    go_enter Tryd.func13, Tryd.ntmps13
    go_wp2_with fail
    refine (appendUint_ref none [] 0 l.length w (Bys.nil _) (by simp) (by omega)).mono ?_
    rintro e w1 ⟨v1, rfl, ho1, hb1⟩
    have HEU := Lib.hid (enc_len10 (m := l.length) (by omega))
    go_wp2_with fail
    go_loopw [4, 5] (fun v vi wr => ∃ (v2 : Value) (k : Nat) (r : List UInt8), v2 = v ∧ vi = .int .i64 (k : Int) ∧ k ≤ l.length ∧ OwnB wr w.heap.size v2 r ∧ Below w.heap.size w wr ∧ Hid (r = encU l.length ++ (l.take k).flatMap encNd) ∧ Hid (longK (l.take k) = false)) (fun _ vi _ => l.length - (intOf vi).toNat)
    case atStart => exact ⟨v1, 0, _, rfl, rfl, Nat.zero_le _, ho1, hb1, Lib.hid (by rw [List.take_zero, List.flatMap_nil, List.append_nil]; rfl), Lib.hid rfl⟩
    case round =>
      clear ho1 hb1
      obtain ⟨v2, k, r, rfl, rfl, hk, ho, hb, HR, HF⟩ := hrel
      by_cases hlt : k < l.length
      · obtain ⟨b, o, hA2, hbl, f1, f2, f3⟩ := hl.at_ hlt
        subst hA2
        replace f1 := (hb.cell (p := ⟨b, o + k * 3, none⟩) hbl).trans f1
        replace f2 := (hb.cell (p := ⟨b, o + k * 3 + 1, none⟩) hbl).trans f2
        replace f3 := (hb.cell (p := ⟨b, o + k * 3 + 2, none⟩) hbl).trans f3
        have hbw : b < wr.heap.size := Nat.lt_of_lt_of_le hbl hb.size
        have hwd := HW.out _ (List.getElem_mem hlt)
        have HT : Hid ((l.take (k + 1)).flatMap encNd = (l.take k).flatMap encNd ++ encNd l[k]) := Lib.hid (by rw [List.take_succ_eq_append_getElem hlt, List.flatMap_append]; simp)
        have HY : Hid (64 < l[k].key.size → longK l = true) := Lib.hid fun h => List.any_eq_true.2 ⟨l[k], List.getElem_mem hlt, by simpa using h⟩
        have HN : Hid (¬ 64 < l[k].key.size → longK (l.take (k + 1)) = false) := Lib.hid fun h => by
          unfold longK
          rw [List.take_succ_eq_append_getElem hlt, List.any_append]
          have := HF.out
          unfold longK at this
          rw [this]
          simp
          omega
        have hrl : r.length ≤ 70000 := by
          rw [HR.out, List.length_append]
          have := HLEN.out k HF.out
          have := HEU.out
          omega
        generalize l[k] = y at *
        obtain ⟨xi, xk, xw⟩ := y
        have i0 : (0 : Int) ≤ (k : Int) := by omega
        have i1 : (k : Int) < (l.length : Int) := by omega
        by_cases he : 64 < xk.size
        · have hok : okNs l = false := by unfold okNs; rw [HY.out he]; simp
          have HOK := Lib.hid hok
          have he1 : (64 : Int) < (xk.size : Int) := by omega
          clear HY HN HT HR HF HW HLEN hok
          go_wp2_with fail
          go_ret2
          rw [HOK.out]
          exact ⟨_, rfl, OwnB.nil _ _, hb⟩
        · have HZ := Lib.hid (HN.out he)
          have he1 : ¬ (64 : Int) < (xk.size : Int) := by omega
          have HR2 : Hid (r ++ encNd ⟨xi, xk, xw⟩ = encU l.length ++ (l.take (k + 1)).flatMap encNd) := Lib.hid (by rw [HT.out, HR.out, List.append_assoc])
          obtain ⟨A1, c1, rfl, _, _, hRd⟩ := ho.read
          have HRD := Lib.hid hRd
          have HO := Lib.hid ho
          have HB := Lib.hid hb
          have HD := Lib.hid (Below.refl wr.heap.size wr).drew
          have HS : Hid (∀ wz, Below wr.heap.size wr wz → wz.cell? ⟨b, o + k * 3, none⟩ = some (.int .i64 xi) ∧ wz.cell? ⟨b, o + k * 3 + 1, none⟩ = some (.string xk) ∧ wz.cell? ⟨b, o + k * 3 + 2, none⟩ = some (.int .u32 (xw : Int))) := Lib.hid fun wz h => ⟨(h.cell (p := ⟨b, o + k * 3, none⟩) hbw).trans f1, (h.cell (p := ⟨b, o + k * 3 + 1, none⟩) hbw).trans f2, (h.cell (p := ⟨b, o + k * 3 + 2, none⟩) hbw).trans f3⟩
          have HZI : Hid ((encU (zig xi)).length ≤ 10) := Lib.hid (enc_len10 (zig_lt hwd.1.1 hwd.1.2))
          have HES : Hid ((encS xk.data.toList).length ≤ 80) := Lib.hid (by
            have h3 : xk.data.toList.length = xk.size := by rw [Array.length_toList]; rfl
            unfold encS
            rw [List.length_append, h3]
            have := enc_len10 (m := xk.size) (by omega)
            omega)
          have hwi1 := hwd.1.1
          have hwi2 := hwd.1.2
          have hww := hwd.2
          have e5 : IntKind.u64.wrap (xw : Int) = (xw : Int) := by rw [IntKind.wrap_u64]; have : xw < 4294967296 := hww; omega
          simp only at hwi1 hwi2 hww
          clear HY HN HT HR HF HW HLEN hwd ho hb hRd f3 HEU
          go_upto_region 9 with fail
          have hS0 := HS.out wr (Below.refl _ _)
          clear f1 f2
          go_region_held3 (fun w' => w'.cell? ⟨b, o + k * 3, none⟩ = some (.int .i64 xi) ∧ w'.cell? ⟨b, o + k * 3 + 1, none⟩ = some (.string xk) ∧ w'.cell? ⟨b, o + k * 3 + 2, none⟩ = some (.int .u32 (xw : Int))) (first | exact hS3 | exact hS2 | exact hS1 | exact hS0) ((first | (go_at_call 41; refine (appendInt_ref A1 r c1 xi wr.drew (show Bys wr.drew wr.drew.heap.size A1 r from HRD.out) (by omega) hwi1 hwi2).mono ?_; rintro e w2 ⟨v2, rfl, ho2, hb2⟩; replace hb2 : Below wr.heap.size wr w2 := HD.out.trans hb2; obtain ⟨r2, hr2, hr2l⟩ : ∃ r2, Hid (r2 = r ++ encU (zig xi)) ∧ r2.length ≤ 70100 := ⟨_, Lib.hid rfl, by rw [List.length_append]; have := HZI.out; omega⟩; rw [← hr2.out] at ho2; obtain ⟨A2, c2, rfl, _, _, hR2⟩ := ho2.read; have hS1 := HS.out _ hb2) | (go_at_call 40; refine (appendString_ref A2 r2 c2 xk w2 hR2 (by omega) (by omega)).mono ?_; rintro e w3 ⟨v3, rfl, ho3, hb3⟩; replace hb3 : Below wr.heap.size wr w3 := hb2.trans (hb3.mono hb2.size); obtain ⟨r3, hr3, hr3l⟩ : ∃ r3, Hid (r3 = r2 ++ encS xk.data.toList) ∧ r3.length ≤ 70200 := ⟨_, Lib.hid rfl, by rw [List.length_append]; have := HES.out; omega⟩; rw [← hr3.out] at ho3; obtain ⟨A3, c3, rfl, _, _, hR3⟩ := ho3.read; have hS2 := HS.out _ hb3) | (go_at_call 39; refine (appendUint_ref A3 r3 c3 xw w3 hR3 (by omega) (by omega)).mono ?_; rintro e w4 ⟨v4, rfl, ho4, hb4⟩; replace ho4 := ho4.less (Nat.le_trans HB.out.size hb3.size); replace hb4 : Below wr.heap.size wr w4 := hb3.trans (hb4.mono hb3.size); have hS3 := HS.out _ hb4)))
          have HO4 : Hid (OwnB w4 w.heap.size v4 (r ++ encNd ⟨xi, xk, xw⟩)) := Lib.hid (by
            rw [hr3.out, hr2.out, List.append_assoc, List.append_assoc] at ho4
            exact ho4)
          have HB4 := Lib.hid (HB.out.trans (hb4.mono HB.out.size))
          clear hS0 hS1 hS2 hS3 hb2 hb3 hb4 ho2 ho3 ho4 hR2 hR3 HS HD HRD e5
          go_wp2_with fail
          exact ⟨⟨v4, k + 1, _, rfl, by go_num, hlt, HO4.out, HB4.out, HR2, HZ⟩, by simp [intOf]; omega⟩
      · have i1 : ¬ (k : Int) < (l.length : Int) := by omega
        have hok : okNs l = true := by
          have h1 := HF.out
          rw [List.take_of_length_le (by omega)] at h1
          unfold okNs
          rw [h1]
          simpa using h64
        have hr := HR.out
        rw [List.take_of_length_le (by omega)] at hr
        have HO : Hid (OwnB wr w.heap.size v2 (encNs l)) := Lib.hid (by unfold encNs; rw [← hr]; exact ho)
        have HOK := Lib.hid hok
        clear ho hr hok HF HR
        go_wp2_with fail
        go_ret2
        rw [HOK.out]
        exact ⟨v2, rfl, HO.out, hb⟩
  · have hz : (64 : Int) < (l.length : Int) := by omega
    have hok : okNs l = false := by unfold okNs; simp; omega
    rw [hok]
    clear hok hl hw
    go_enter Tryd.func13, Tryd.ntmps13
    go_wp2_with fail
    go_ret2
    exact ⟨_, rfl, OwnB.nil _ _, Below.refl _ _⟩
end
end Go.Proofs.YtmhimkojegkalaaDoor
