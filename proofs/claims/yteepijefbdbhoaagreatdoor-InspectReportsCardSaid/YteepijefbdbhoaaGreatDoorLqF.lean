/-
  Exact and index of the reference of chapter 7. Conditions: what is read can be read.
  pairs of the reference of chapter 7. Conditions: the nodes and links can be read.
  Joined of the reference of chapter 7. Conditions: what is read can be read.
  Components and Connected of the reference of chapter 7. Conditions: what is read can be read.
-/
import Derived.Test.YteepijefbdbhoaaGreatDoorLpC
import Derived.Test.YteepijefbdbhoaaGreatDoorLmJ
import Derived.Test.YteepijefbdbhoaaGreatDoorKqA
import Derived.Deep.RegionHeld3
import Derived.BigRegion
import Derived.Deep.DeepCutAuto
import Derived.Deep.CutBlock
import Derived.Test.YteepijefbdbhoaaGreatDoorKmK
import Derived.StillTailTactics
import Derived.BigQuiet
namespace Go.Proofs.YteepijefbdbhoaaGreatDoor
section
open Go.RowKit

set_option maxRecDepth 100000 in
set_option maxHeartbeats 800000 in
theorem rexact_any (A A2 : Option Addr) (l : List Nd) (k : List Ld) (c c2 : Nat) (h : Int) (w : World) (hl : Nds w w.heap.size A l) (hk : Lds w w.heap.size A2 k) (hkn : k.length ≤ 1000000) (hwd : ∀ x ∈ l, x.word < 4294967296) :
    Calls Tryz.prog 38 #[.slice A l.length c, .slice A2 k.length c2, .int .i64 h] w (BoolN (exaB l k h) w) := by
  have HB := Lib.hid (rbuild_any A l c h w hl hwd)
  have HS := Lib.hid (fun (W : World) (j : Below w.heap.size w W) (A3 : Option Addr) (R : List Ld) (c3 : Nat) (h3 : Lds W W.heap.size A3 R) => rsame6_any A2 A3 k R c2 c3 W ((hk.below j).more j.size) h3 hkn)
  have HE0 : Hid (bldE l h ≠ 0 → exaB l k h = false) := Lib.hid fun e => by unfold exaB; simp [e]
  have HE1 : Hid (bldE l h = 0 → exaB l k h = decide (k = bldV l (h + 1).toNat)) := Lib.hid fun e => by unfold exaB; simp [e]
  generalize exaB l k h = Z at *
  unfold RBldP at HB
  generalize bldE l h = E at *
  generalize bldV l (h + 1).toNat = R at *
  obtain ⟨KN, hKN⟩ : ∃ KN, KN = k.length := ⟨_, rfl⟩
  rw [← hKN] at HS ⊢
  clear hl hk hkn hwd hKN
  go_enter Tryz.func38, Tryz.ntmps38
  go_wp2_with fail
  refine (HB.out).mono ?_
  rintro e w1 (⟨hE, rfl, hb1⟩ | ⟨hE, v, rfl, hD, hb1⟩)
  · have hz : (E == 0) = false := by simpa using hE
    have HZ := Lib.hid (HE0.out hE)
    clear hE
    go_wp2_with fail
    go_ret
    exact ⟨ret_bool HZ.out.symm, hb1⟩
  · subst hE
    obtain ⟨A3, c3, hv3, _, _, hR⟩ := hD.read
    have HB1 := Lib.hid hb1
    have HZ := Lib.hid (HE1.out rfl)
    have HSS := Lib.hid (HS.out w1 hb1 A3 R c3 hR)
    generalize R.length = rn at *
    subst hv3
    clear hD hb1 hR HS HE0 HE1
    go_wp2_with fail
    refine (HSS.out).mono ?_
    rintro e w2 ⟨rfl, hb2⟩
    have HB2 := Lib.hid (HB1.out.trans (hb2.mono HB1.out.size))
    clear hb2
    go_wp2_with fail
    go_ret
    exact ⟨ret_bool HZ.out.symm, HB2.out⟩
/-- The place of a number, -1 where there is none. -/
def ixV (ids : List Int) (x : Int) : Int := if pos ids x < ids.length then (pos ids x : Int) else -1
theorem ix_is {ids : List Int} {x : Int} {i : Nat} (hi : i < ids.length) (h1 : ids[i] = x) (h2 : ∀ j (_ : j < i) (h : j < ids.length), ids[j] ≠ x) : ixV ids x = (i : Int) := by
  have : pos ids x = i := by
    unfold pos
    rw [List.findIdx_eq hi]
    exact ⟨by simpa using h1, fun j hj => by simpa using h2 j hj (by omega)⟩
  unfold ixV
  rw [this, if_pos hi]
theorem ix_not {ids : List Int} {x : Int} (h : ∀ j (h : j < ids.length), ids[j] ≠ x) : ixV ids x = -1 := by
  unfold ixV
  rw [if_neg fun e => h _ e (pos_at e)]
set_option maxRecDepth 100000 in
set_option maxHeartbeats 800000 in
theorem rindex_any (A : Option Addr) (ids : List Int) (c : Nat) (x : Int) (w : World) (h : Ins w w.heap.size A ids) (hn : ids.length ≤ maxLen) :
    Calls Tryz.prog 89 #[.slice A ids.length c, .int .i64 x] w fun e w' => e = .returned (.int .i64 (ixV ids x)) ∧ w = w' := by
  have HIS := Lib.hid (fun (i : Nat) (hi : i < ids.length) (h1 : ids[i] = x) (h2 : ∀ j (_ : j < i) (h : j < ids.length), ids[j] ≠ x) => ix_is hi h1 h2)
  have HNO := Lib.hid (fun (h : ∀ j (h : j < ids.length), ids[j] ≠ x) => ix_not h)
  have HAT := Lib.hid (fun (i : Nat) (hi : i < ids.length) => h.at_ hi)
  have hml : maxLen ≤ 9223372036854775807 := by decide
  generalize ixV ids x = V at *
  obtain ⟨n, hnn⟩ : ∃ n, n = ids.length := ⟨_, rfl⟩
  have HN := Lib.hid hnn
  rw [← hnn] at hn ⊢
  clear hnn h
  go_enter Tryz.func89, Tryz.ntmps89
  go_wp2_with fail
  go_loopw [5] (fun vi wr => ∃ i : Nat, vi = .int .i64 (i : Int) ∧ i ≤ n ∧ w = wr ∧ Hid (∀ j (_ : j < i) (h : j < ids.length), ids[j] ≠ x)) (fun vi _ => n - (intOf vi).toNat)
  case atStart => exact ⟨0, rfl, by omega, rfl, Lib.hid fun j hj => absurd hj (by omega)⟩
  case round =>
    obtain ⟨i, rfl, hi, rfl, HK⟩ := hrel
    by_cases hlt : i < n
    · have i2 : i < ids.length := by rw [← HN.out]; exact hlt
      obtain ⟨b, o, e, hb, hw, f1⟩ := HAT.out i i2
      subst e
      have HYK := Lib.hid (fun (h : ids[i] = x) => HIS.out i i2 h HK.out)
      have HNK := Lib.hid (fun (h : ids[i] ≠ x) (j : Nat) (h1 : j < i + 1) (h2 : j < ids.length) => (by
        by_cases e : j = i
        · subst e; exact h
        · exact HK.out j (by omega) h2 : ids[j] ≠ x))
      generalize ids[i] = y at *
      have i0 : (0 : Int) ≤ (i : Int) := by omega
      have i1 : (i : Int) < (n : Int) := by omega
      clear HIS HNO HAT HK i2
      by_cases he : y = x
      · have HV := Lib.hid (HYK.out he)
        have e1 : (y == x) = true := by simpa using he
        clear he HYK HNK
        go_wp2_with fail
        go_ret
        exact ⟨ret_int HV.out.symm, rfl⟩
      · have HZ := Lib.hid (HNK.out he)
        have e1 : (y == x) = false := by simpa using he
        clear he HYK HNK
        go_wp2_with fail
        exact ⟨⟨i + 1, by go_num, hlt, trivial, HZ⟩, by simp [intOf]; omega⟩
    · have HV := Lib.hid (HNO.out fun j h => HK.out j (by have := HN.out; omega) h)
      have i1 : ¬ (i : Int) < (n : Int) := by omega
      clear HK HIS HNO
      go_wp2_with fail
      go_ret
      exact ⟨ret_int HV.out.symm, rfl⟩
end
section
open Go.RowKit

theorem infoTwo : (Tryz.prog.info? 119).map (fun i => (i.zero, i.size, i.bytes)) = some (some (.agg #[.int .i64 0, .int .i64 0]), 2, 16) := by kernel_rfl
theorem infoQ_parts : ∃ i, Tryz.prog.info? 119 = some i ∧ i.zero = some (.agg #[.int .i64 0, .int .i64 0]) ∧ i.size = 2 ∧ i.bytes = 16 := by
  obtain ⟨i, h, e⟩ := Option.map_eq_some_iff.1 infoTwo
  injection e with e1 e2
  injection e2 with e2 e3
  exact ⟨i, h, e1, e2, e3⟩
/-- A row of pairs of numbers of the call's own. -/
def flatQ (l : List (Int × Int)) : List Value := l.flatMap fun y => [.int .i64 y.1, .int .i64 y.2]
theorem flatQ_app (a b : List (Int × Int)) : flatQ (a ++ b) = flatQ a ++ flatQ b := by simp [flatQ]
theorem flatQ_at : ∀ (l : List (Int × Int)) (i : Nat) (h : i < l.length), (flatQ l)[i * 2]? = some (.int .i64 l[i].1) ∧ (flatQ l)[i * 2 + 1]? = some (.int .i64 l[i].2)
  | [], _, h => by simp at h
  | _ :: _, 0, _ => ⟨rfl, rfl⟩
  | f :: l, i + 1, h => by
    have := flatQ_at l i (by simpa using h)
    rw [show (i + 1) * 2 = i * 2 + 2 by omega]
    exact this
def OwnQ (w : World) (base : Nat) (v : Value) (l : List (Int × Int)) : Prop := w.ownsRow base 119 2 v l.length (flatQ l)
/-- A slice of pairs below block B, as it is read. -/
def Qrs (w : World) (B : Nat) (A : Option Addr) (l : List (Int × Int)) : Prop :=
  l ≠ [] → ∃ b o, A = some ⟨b, o, none⟩ ∧ b < B ∧ ∀ i (h : i < l.length), w.cell? ⟨b, o + i * 2, none⟩ = some (.int .i64 l[i].1) ∧ w.cell? ⟨b, o + i * 2 + 1, none⟩ = some (.int .i64 l[i].2)
theorem Qrs.keep {w w' : World} {B : Nat} {A : Option Addr} {l : List (Int × Int)} (h : Qrs w B A l) (k : ∀ i, i < B → w'.heap[i]? = w.heap[i]?) : Qrs w' B A l := fun hn => by
  obtain ⟨b, o, e, hb, hc⟩ := h hn
  exact ⟨b, o, e, hb, fun i hi => ⟨(World.cell?_of_block (k b hb)).trans (hc i hi).1, (World.cell?_of_block (k b hb)).trans (hc i hi).2⟩⟩
theorem Qrs.below {w w' : World} {B : Nat} {A : Option Addr} {l : List (Int × Int)} (h : Qrs w B A l) (k : Below B w w') : Qrs w' B A l := h.keep k.block
theorem Qrs.more {w : World} {B B' : Nat} {A : Option Addr} {l : List (Int × Int)} (h : Qrs w B A l) (hB : B ≤ B') : Qrs w B' A l := fun hn => by
  obtain ⟨b, o, e, hb, hc⟩ := h hn
  exact ⟨b, o, e, by omega, hc⟩
theorem Qrs.at_ {w : World} {B : Nat} {A : Option Addr} {l : List (Int × Int)} (h : Qrs w B A l) {i : Nat} (hi : i < l.length) : ∃ b o, A = some ⟨b, o, none⟩ ∧ b < B ∧ w.cell? ⟨b, o + i * 2, none⟩ = some (.int .i64 l[i].1) ∧ w.cell? ⟨b, o + i * 2 + 1, none⟩ = some (.int .i64 l[i].2) := by
  obtain ⟨b, o, e, hb, hc⟩ := h (by intro e; rw [e] at hi; simp at hi)
  exact ⟨b, o, e, hb, hc i hi⟩
section
variable {w w' : World} {base : Nat} {v : Value} {l : List (Int × Int)}
theorem OwnQ.nil (w : World) (base : Nat) : OwnQ w base (.slice none 0 0) [] := World.ownsRow_nil _ _ _ _
theorem OwnQ.shape (h : OwnQ w base v l) : ∃ A c, v = .slice A l.length c := by
  obtain ⟨_, ⟨rfl, h2⟩ | ⟨g, cap, cur, rfl, _⟩⟩ := h
  · exact ⟨none, 0, by rw [h2]⟩
  · exact ⟨_, _, rfl⟩
theorem OwnQ.keep (h : OwnQ w base v l) (k : ∀ i, base ≤ i → i < w.heap.size → w'.heap[i]? = w.heap[i]?) : OwnQ w' base v l := by
  obtain ⟨h1, h2 | ⟨g, cap, cur, h3, h4, h5, h6⟩⟩ := h
  · exact ⟨h1, .inl h2⟩
  · exact ⟨h1, .inr ⟨g, cap, cur, h3, h4, (k g h4 (Has.lt h5)).trans h5, h6⟩⟩
theorem OwnQ.below (h : OwnQ w base v l) (k : Below w.heap.size w w') : OwnQ w' base v l := h.keep fun i _ hi => k.block i hi
theorem OwnQ.lt (h : OwnQ w base v l) : ∀ k, v.ownBlock = some k → base ≤ k ∧ k < w.heap.size := World.ownsRow.lt h
theorem OwnQ.read (h : OwnQ w base v l) : ∃ A c, v = .slice A l.length c ∧ Qrs w w.heap.size A l := by
  obtain ⟨h1, ⟨rfl, h2⟩ | ⟨g, cap, cur, rfl, h4, h5, h6, h7, h8, h9⟩⟩ := h
  · have hl : l = [] := List.eq_nil_of_length_eq_zero h2
    subst hl
    exact ⟨none, 0, rfl, fun h => absurd rfl h⟩
  · refine ⟨_, cap, rfl, fun _ => ⟨g, 0, rfl, Has.lt h5, fun i hi => ?_⟩⟩
    obtain ⟨p1, p2⟩ := flatQ_at l i hi
    rw [← h9, List.getElem?_take_of_lt (by omega), Array.getElem?_toList] at p1
    rw [← h9, List.getElem?_take_of_lt (by omega), Array.getElem?_toList] at p2
    rw [Nat.zero_add, Has.cell h5, Has.cell h5]
    exact ⟨p1, p2⟩
end
/-- Two pairs more, in a drawn region. -/
theorem step_pushQ2 {P : Program} {ops : Array Oper} {o : Oper} {a : Act} {K : Act → World → Prop} {Q : Exit → Act → World → Prop} {E : Prop} (hgd : o.guard = none) (s x : Operand) (t : TypeId)
    (ho : o.op = .call { callee := .builtin .append, args := #[s, x], argTypes := #[t, t] })
    (base : Nat) (i : TypeInfo) (ht : P.underlying t = some (.slice 119)) (hi : P.info? 119 = some i) (hz : i.zero = some (.agg #[.int .i64 0, .int .i64 0])) (hsize : i.size = 2) (hby : i.bytes = 16)
    (v : Value) (l : List (Int × Int)) (w0 : World) (f1 f2 : Int × Int) (hs : a.eval s = v) (hown : OwnQ w0 base v l) (hx : a.eval x = .slice (some ⟨w0.heap.size, 0, none⟩) 2 2) (hlen : l.length < 1000000) (hbase : base ≤ w0.heap.size)
    (h : ∀ v' w', OwnQ w' base v' (l ++ [f1, f2]) → Below base w0 w' → (∀ j, j < w0.heap.size → v.ownBlock ≠ some j → w'.heap[j]? = w0.heap[j]?) → (v'.ownBlock = v.ownBlock ∨ ∃ k, w0.heap.size ≤ k ∧ v'.ownBlock = some k) → K (a.put o.dst v') w') :
    if Region.wanted o (yielded ops a.tmps) = true then Oper.wp P o a (w0.alloc (.cells #[.int .i64 f1.1, .int .i64 f1.2, .int .i64 f2.1, .int .i64 f2.2] 119)) K Q else E := by
  have hw : Region.wanted o (yielded ops a.tmps) = true := by simp [Region.wanted, hgd]
  rw [if_pos hw]
  obtain ⟨v', w', hr, ho', hg, _, hat⟩ := run_append_own_at (P := P) (w := w0.alloc (.cells #[.int .i64 f1.1, .int .i64 f1.2, .int .i64 f2.1, .int .i64 f2.2] 119)) base t o.type 119 i (.agg #[.int .i64 0, .int .i64 0]) 2 16 ht hi hz hsize hby rfl (by decide) v l.length (flatQ l) (OwnQ.below hown ((Below.refl _ _).alloc (Nat.le_refl _) _)) ⟨w0.heap.size, 0, none⟩ 2 2 [.int .i64 f1.1, .int .i64 f1.2, .int .i64 f2.1, .int .i64 f2.2] rfl (by
    intro j u hj
    rw [add_at, Nat.zero_add, (Has.new w0 119 #[.int .i64 f1.1, .int .i64 f1.2, .int .i64 f2.1, .int .i64 f2.2]).cell, ← Array.getElem?_toList]
    exact hj) (by
    intro u hu
    simp at hu
    rcases hu with rfl | rfl | rfl | rfl <;> rfl) (by unfold maxLen; omega) (by omega) (by simp; omega)
  unfold Oper.wp execOp
  simp only [ho, resolve, invoke, builtin, Sem.run_bind, Sem.run_pure, Result.andThen_ok, List.map_toArray, List.map_cons, List.map_nil, hs, hx, hr]
  refine h v' w' ?_ ?_ (fun j hj hne => ?_) (hat.imp (fun e => e) fun e => ⟨_, by rw [World.size_alloc]; omega, e⟩)
  · unfold OwnQ
    rw [flatQ_app, List.length_append]
    exact ho'
  · refine ((Below.refl _ _).alloc hbase _).trans ⟨hg.os, hg.tape, hg.output, hg.size, fun j hj => hg.block j (by rw [World.size_alloc]; omega) ?_⟩
    intro e
    obtain ⟨_, ⟨rfl, _⟩ | ⟨g', cap', cur, rfl, h4, h5, _⟩⟩ := hown
    · cases e
    · have : j = g' := Option.some.inj e
      omega
  · exact (hg.block j (by rw [World.size_alloc]; omega) (fun e => hne e.symm)).trans (Below.heap_alloc w0 _ j hj)
def QrsP (R : List (Int × Int)) (w : World) (e : Ending) (w' : World) : Prop := ∃ A c, e = .returned (.slice A R.length c) ∧ Qrs w' w'.heap.size A R ∧ Below w.heap.size w w'
theorem flat_take2 {α β : Type} (f : α → List β) {l : List α} {k : Nat} (h : k < l.length) : (l.take (k + 1)).flatMap f = (l.take k).flatMap f ++ f l[k] := by
  rw [List.take_succ_eq_append_getElem h, List.flatMap_append]
  simp
set_option maxRecDepth 100000 in
set_option maxHeartbeats 3200000 in
theorem rpairs_any (A A4 : Option Addr) (s : List Nd) (k : List Ld) (c c4 lo m : Nat) (w : World) (hl : Nds w w.heap.size A s) (hk : Lds w w.heap.size A4 k) (hkn : k.length ≤ maxLen) (hs : s.length ≤ 64) (hm : lo + m ≤ 17) :
    Calls Tryz.prog 63 #[.slice A s.length c, .slice A4 k.length c4, .int .i64 (lo : Int), .int .i64 ((lo : Int) + (m : Int) - 1)] w (QrsP (prsV s k lo m) w) := by
  have HAC := Lib.hid (fun (W : World) (k2 : Below w.heap.size w W) (id t : Int) => rat_any A4 k c4 id t W ((hk.below k2).more k2.size) hkn)
  have HPV : Hid (prsV s k lo m = s.flatMap fun x => (List.range m).flatMap fun (t : Nat) => [(x.id, (atV k x.id ((lo + t : Nat) : Int)).left), (x.id, (atV k x.id ((lo + t : Nat) : Int)).right)]) := Lib.hid rfl
  have HND := Lib.hid (fun (i : Nat) (h : i < s.length) => hl.at_ h)
  unfold AtP at HAC
  generalize prsV s k lo m = R at *
  obtain ⟨n, hn⟩ : ∃ n, n = s.length := ⟨_, rfl⟩
  have HN := Lib.hid hn
  rw [← hn] at hs ⊢
  obtain ⟨KN, hKN⟩ : ∃ KN, KN = k.length := ⟨_, rfl⟩
  rw [← hKN] at HAC ⊢
  obtain ⟨hh, hhe⟩ : ∃ hh : Int, hh = (lo : Int) + (m : Int) - 1 := ⟨_, rfl⟩
  rw [← hhe]
  have HHE := Lib.hid hhe
  clear hn hKN hl hk hkn hhe
  obtain ⟨inq, hiq, hiq1, hiq2, hiq3⟩ := infoQ_parts
  go_enter Tryz.func63, Tryz.ntmps63
  go_wp2_with fail
  go_loopw [9, 10] (fun vo vi wr => ∃ (v1 : Value) (i : Nat) (ps : List (Int × Int)), v1 = vo ∧ vi = .int .i64 (i : Int) ∧ i ≤ n ∧ OwnQ wr w.heap.size v1 ps ∧ Below w.heap.size w wr ∧ Hid (ps = (s.take i).flatMap fun x => (List.range m).flatMap fun (t : Nat) => [(x.id, (atV k x.id ((lo + t : Nat) : Int)).left), (x.id, (atV k x.id ((lo + t : Nat) : Int)).right)]) ∧ ps.length ≤ i * 34) (fun _ vi _ => n - (intOf vi).toNat)
  case atStart => exact ⟨_, 0, [], rfl, rfl, by omega, OwnQ.nil _ _, Below.refl _ _, Lib.hid (by simp), by simp⟩
  case round =>
    obtain ⟨v1, i, ps, rfl, rfl, hi, ho1, hB, HL, hlen⟩ := hrel
    by_cases hlt : i < n
    · have i2 : i < s.length := by rw [← HN.out]; exact hlt
      obtain ⟨b, o, e4, hb, f1, _, _⟩ := HND.out i i2
      subst e4
      have HFM := Lib.hid (flat_take2 (fun x : Nd => (List.range m).flatMap fun (t : Nat) => [(x.id, (atV k x.id ((lo + t : Nat) : Int)).left), (x.id, (atV k x.id ((lo + t : Nat) : Int)).right)]) i2)
      generalize s[i] = x at *
      generalize x.id = xi at *
      have i0 : (0 : Int) ≤ (i : Int) := by omega
      have i1 : (i : Int) < (n : Int) := by omega
      have HF1 : Hid (∀ W, Below w.heap.size w W → W.cell? ⟨b, o + i * 3, none⟩ = some (.int .i64 xi)) := Lib.hid fun W hW => (hW.cell (p := ⟨b, o + i * 3, none⟩) hb).trans f1
      have HO1 := Lib.hid ho1
      have HB1 := Lib.hid hB
      obtain ⟨A5, c5, hv5⟩ := ho1.shape
      subst hv5
      clear f1 ho1 hB i2
      go_wp2_with fail
      go_loopw [9, 11] (fun vo vt wz => ∃ (v1 : Value) (t tt : Nat) (p1 : List (Int × Int)), v1 = vo ∧ vt = .int .i64 (tt : Int) ∧ tt = lo + t ∧ t ≤ m ∧ OwnQ wz w.heap.size v1 p1 ∧ Below w.heap.size w wz ∧ Hid (p1 = ps ++ ((List.range m).take t).flatMap fun (t : Nat) => [(xi, (atV k xi ((lo + t : Nat) : Int)).left), (xi, (atV k xi ((lo + t : Nat) : Int)).right)]) ∧ p1.length ≤ ps.length + t * 2) (fun _ vt _ => lo + m - (intOf vt).toNat)
      case atStart => exact ⟨_, 0, lo, ps, rfl, rfl, rfl, by omega, HO1.out, HB1.out, Lib.hid (by simp), by omega⟩
      case round =>
        clear HO1 HB1
        obtain ⟨v1, t, tt, p1, rfl, rfl, htt, ht, ho1, hB, HL1, hlen1⟩ := hrel
        by_cases hltt : t < m
        · have HNX : Hid (((List.range m).take (t + 1)).flatMap (fun (t : Nat) => [(xi, (atV k xi ((lo + t : Nat) : Int)).left), (xi, (atV k xi ((lo + t : Nat) : Int)).right)]) = ((List.range m).take t).flatMap (fun (t : Nat) => [(xi, (atV k xi ((lo + t : Nat) : Int)).left), (xi, (atV k xi ((lo + t : Nat) : Int)).right)]) ++ [(xi, (atV k xi ((lo + t : Nat) : Int)).left), (xi, (atV k xi ((lo + t : Nat) : Int)).right)]) := Lib.hid (by
            have h6 := flat_take2 (fun (t : Nat) => [(xi, (atV k xi ((lo + t : Nat) : Int)).left), (xi, (atV k xi ((lo + t : Nat) : Int)).right)]) (l := List.range m) (k := t) (by simpa using hltt)
            rw [h6, List.getElem_range])
          have HAX := Lib.hid (HAC.out wr hB xi ((lo + t : Nat) : Int))
          generalize atV k xi ((lo + t : Nat) : Int) = y at *
          obtain ⟨yl, yr⟩ := y
          have t1 : ((lo + t : Nat) : Int) ≤ hh := by have := HHE.out; omega
          rw [← htt] at HAX t1
          have HTT := Lib.hid htt
          have et : IntKind.i64.wrap ((tt : Int) + 1) = (tt : Int) + 1 := IntWalk.i64_in _ (by omega)
          have f1 := HF1.out wr hB
          have HO1 := Lib.hid ho1
          have HB1 := Lib.hid hB
          have hln2 : p1.length < 1000000 := by omega
          obtain ⟨A5, c5, hv5⟩ := ho1.shape
          subst hv5
          have HVL := Lib.hid (fun (kk : Nat) (e : (Value.slice A5 p1.length c5).ownBlock = some kk) => (ho1.lt kk e).2)
          clear ho1 hB htt
          go_wp2_with fail
          refine (HAX.out).mono ?_
          rintro e w5 ⟨rfl, hb5⟩
          have hbX := (Below.refl w5.heap.size w5).alloc (Nat.le_refl _) (.cells #[.int .i64 yl, .int .i64 yr] 49)
          have hk5 := hb5.trans (hbX.mono hb5.size)
          have HX := Lib.hid (Has.new w5 49 #[.int .i64 yl, .int .i64 yr])
          have HB6 := Lib.hid (HB1.out.trans (hk5.mono HB1.out.size))
          have HO6 := Lib.hid (HO1.out.below hk5)
          obtain ⟨X, hXe⟩ : ∃ X, X = w5.heap.size := ⟨_, rfl⟩
          have HVX : Hid ((Value.slice A5 p1.length c5).ownBlock ≠ some X) := Lib.hid (fun e => by have := HVL.out _ e; have := hb5.size; omega)
          clear hb5 hbX hk5 f1 HO1 HB1 HAX HVL
          go_upto_region 9 with fail
          generalize w5.alloc (.cells #[.int .i64 yl, .int .i64 yr] 49) = WA at *
          rw [← hXe] at HX ⊢
          clear hXe
          have hdr := (Below.refl WA.heap.size WA).drew
          have HX7 := Lib.hid (HX.out.below hdr)
          have HB7 := Lib.hid (HB6.out.trans (hdr.mono HB6.out.size))
          have HO7 := Lib.hid (HO6.out.below hdr)
          have HSS : Hid (∀ W, Has W X 49 #[.int .i64 yl, .int .i64 yr] → Below w.heap.size w W → W.cell? ⟨X, 0, none⟩ = some (.int .i64 yl) ∧ W.cell? ⟨X, 1, none⟩ = some (.int .i64 yr) ∧ W.cell? ⟨b, o + i * 3, none⟩ = some (.int .i64 xi)) := Lib.hid fun W h1 h2 => ⟨h1.cell 0, h1.cell 1, HF1.out W h2⟩
          have hS0 := HSS.out _ HX7.out HB7.out
          have hS8 := fun (o : Obj) => HSS.out _ (HX7.out.below ((Below.refl WA.drew.heap.size WA.drew).alloc (Nat.le_refl _) o)) (HB7.out.trans (((Below.refl WA.drew.heap.size WA.drew).alloc (Nat.le_refl _) o).mono HB7.out.size))
          clear hdr
          go_wp2_with fail
          go_region_held3 (fun W => W.cell? ⟨X, 0, none⟩ = some (.int .i64 yl) ∧ W.cell? ⟨X, 1, none⟩ = some (.int .i64 yr) ∧ W.cell? ⟨b, o + i * 3, none⟩ = some (.int .i64 xi)) (first | with_reducible exact hS9 | exact hS8 _ | with_reducible exact hS0) ((first | (refine step_pushQ2 (o := ⟨some 51, _, _, _, _, _⟩) rfl (.tmp 33) (.tmp 50) 94 (by rfl) w.heap.size inq Tryz.underlying94 hiq hiq1 hiq2 hiq3 (.slice A5 p1.length c5) p1 WA.drew (xi, yl) (xi, yr) (by simp [Act.eval]) HO7.out (by simp [Act.eval]) hln2 HB7.out.size ?_; intro v9 w9 ho9 hb9 hkp hat; have HX9 := Lib.hid ((hkp X HX7.out.lt HVX.out).trans HX7.out); have HB9 := Lib.hid (HB7.out.trans hb9); have hS9 := HSS.out _ HX9.out HB9.out; have HO9 := Lib.hid ho9; clear ho9 hb9 hkp hat)))
          clear hS0 hS8 hS9 HSS
          go_wp2_with fail
          exact ⟨⟨v9, t + 1, tt + 1, p1 ++ [(xi, yl), (xi, yr)], rfl, by go_num, by have := HTT.out; omega, by omega, HO9.out, HB9.out, Lib.hid (by rw [HL1.out, HNX.out, List.append_assoc]), by rw [List.length_append]; simp; omega⟩, by have := HTT.out; simp [intOf]; omega⟩
        · have et : t = m := by omega
          subst et
          have tz : ¬ ((tt : Int) ≤ hh) := by have := HHE.out; omega
          have HO := Lib.hid ho1
          obtain ⟨A5, c5, hv5⟩ := ho1.shape
          subst hv5
          clear ho1 htt
          go_wp2_with fail
          refine ⟨⟨_, i + 1, p1, rfl, by go_num, hlt, HO.out, hB, Lib.hid ?_, ?_⟩, by simp [intOf]; omega⟩
          · have h8 : (List.range t).take t = List.range t := List.take_of_length_le (by simp)
            rw [HL1.out, HL.out, HFM.out, h8]
          · have := hlen1
            omega
    · have HLE : Hid (ps = R) := Lib.hid (by rw [HL.out, HPV.out, List.take_of_length_le (by have := HN.out; omega)])
      obtain ⟨A5, c5, hv5, hr5⟩ := ho1.read
      subst hv5
      rw [HLE.out] at hr5 ⊢
      have HR5 := Lib.hid hr5
      clear ho1 hr5
      go_wp2_with fail
      go_ret
      exact ⟨A5, c5, rfl, HR5.out, hB⟩
end
section
open Go.RowKit

/-- A block of labels. -/
def fLab (n : Nat) (f : Nat → Nat) : List Value := (List.range n).map fun i => .int .i64 ((f i : Nat) : Int)
theorem fLab_congr {n : Nat} {f g : Nat → Nat} (h : ∀ i, i < n → f i = g i) : fLab n f = fLab n g := List.map_congr_left fun i hi => by rw [h i (List.mem_range.1 hi)]
def LB (w : World) (G n : Nat) (f : Nat → Nat) : Prop := Has w G 3 (fLab n f).toArray
theorem LB.cell {w : World} {G n : Nat} {f : Nat → Nat} (h : LB w G n f) {i : Nat} (hi : i < n) : w.cell? ⟨G, i, none⟩ = some (.int .i64 ((f i : Nat) : Int)) := by
  rw [Has.cell h]
  simp [fLab, hi]
theorem LB.set {w : World} {G n : Nat} {f : Nat → Nat} (h : LB w G n f) (i v : Nat) : LB (w.setCell ⟨G, i, none⟩ (.int .i64 (v : Int))) G n (fun j => if j = i then v else f j) := by
  have := Has.set_ (t := 3) h i (.int .i64 (v : Int))
  unfold LB
  have e : ((fLab n f).toArray).setIfInBounds i (.int .i64 (v : Int)) = (fLab n (fun j => if j = i then v else f j)).toArray := by
    rw [List.setIfInBounds_toArray]
    congr 1
    refine List.ext_getElem (by simp [fLab]) fun j h1 h2 => ?_
    rw [List.getElem_set]
    simp only [fLab, List.getElem_map, List.getElem_range]
    by_cases hj : i = j
    · rw [if_pos hj, if_pos hj.symm]
    · rw [if_neg hj, if_neg fun e => hj e.symm]
  rw [← e]
  exact this
theorem LB.congr {w : World} {G n : Nat} {f g : Nat → Nat} (h : LB w G n f) (k : ∀ i, i < n → f i = g i) : LB w G n g := by
  unfold LB at *
  rw [← fLab_congr k]
  exact h
theorem made_ints (n : Nat) : madeCells (Value.cells (.int .i64 0)) (n * 1) = (fLab n (fun _ => 0)).toArray := by
  rw [Nat.mul_one]
  refine Array.ext (by simp [madeCells, fLab]) fun j h5 h6 => ?_
  simp [madeCells, fLab, Value.cells, Nat.mod_one]
theorem make_ints (W : World) (n : Nat) (hn : n ≤ 100000) : (Instr.makeSlice 22 (.int .i64 (n : Int)) (.int .i64 (n : Int))).run Tryz.prog W = .ok (.slice (some ⟨W.heap.size, 0, none⟩) n n) (W.alloc (.cells (fLab n (fun _ => 0)).toArray 3)) := by
  obtain ⟨i, h1, h2, h3, h4⟩ := infoI_parts
  have := Go.run_makeSlice W 22 3 i (.int .i64 0) Tryz.underlying22 h1 h2 .i64 .i64 (n : Int) (n : Int) (by omega) (Int.le_refl _) (by rw [h3, Int.toNat_natCast]; omega) (by rw [h4]; omega) (by omega)
  rw [h3, Int.toNat_natCast, made_ints] at this
  exact this
theorem edg_next {ids : List Int} {ps : List (Int × Int)} {k : Nat} (h : k < ps.length) : edg ids (ps.take (k + 1)) = edg ids (ps.take k) ++ (if pos ids ps[k].1 < ids.length ∧ pos ids ps[k].2 < ids.length then [(pos ids ps[k].1, pos ids ps[k].2)] else []) := by
  unfold edg
  rw [List.take_succ_eq_append_getElem h, List.filterMap_append]
  congr 1
  simp only [List.filterMap_cons, List.filterMap_nil]
  split <;> rename_i h1
  · split at h1
    · cases h1
    · rename_i h2; rw [if_neg h2]
  · split at h1
    · rename_i h2; rw [if_pos h2]; injection h1 with h1; rw [h1]
    · cases h1
theorem rnd_app (a b : List (Nat × Nat)) (f : Nat → Nat) : rnd (a ++ b) f = rnd b (rnd a f) := by unfold rnd; rw [List.foldl_append]
theorem stp_two (f : Nat → Nat) (a b : Nat) : (fun j => if j = b then min (f a) (f b) else if j = a then min (f a) (f b) else f j) = stp f (a, b) := by
  funext j
  unfold stp
  by_cases h1 : j = a <;> by_cases h2 : j = b <;> simp [h1, h2]
theorem ix_cases (ids : List Int) (x : Int) : (¬ pos ids x < ids.length ∧ ixV ids x = -1) ∨ (pos ids x < ids.length ∧ ixV ids x = (pos ids x : Int)) := by
  unfold ixV
  by_cases h : pos ids x < ids.length
  · exact .inr ⟨h, if_pos h⟩
  · exact .inl ⟨h, if_neg h⟩
set_option maxRecDepth 100000 in
set_option maxHeartbeats 3200000 in
theorem rjoined_any (A A2 : Option Addr) (l : List Nd) (ps : List (Int × Int)) (c c2 : Nat) (w : World) (hl : Nds w w.heap.size A l) (hq : Qrs w w.heap.size A2 ps) (hwd : ∀ x ∈ l, x.wide) (hln : l.length ≤ 64) (hpn : ps.length ≤ 100000) :
    Calls Tryz.prog 62 #[.slice A l.length c, .slice A2 ps.length c2] w (LstP (jnd (l.map Nd.id) ps) w) := by
  have HIDS := Lib.hid (rids_any A l c w hl (by omega) hwd)
  have HQ := Lib.hid hq
  obtain ⟨ids, hids⟩ : ∃ ids, ids = l.map Nd.id := ⟨_, rfl⟩
  rw [← hids] at HIDS ⊢
  obtain ⟨n, hn⟩ : ∃ n, n = ids.length := ⟨_, rfl⟩
  have HN := Lib.hid hn
  have hn64 : n ≤ 64 := by rw [hn, hids, List.length_map]; exact hln
  obtain ⟨LN, hLN⟩ : ∃ LN, LN = l.length := ⟨_, rfl⟩
  rw [← hLN] at HIDS ⊢
  obtain ⟨PN, hPN⟩ : ∃ PN, PN = ps.length := ⟨_, rfl⟩
  have HPN := Lib.hid hPN
  rw [← hPN] at hpn ⊢
  have hmk := fun (W : World) => make_ints W n (by omega)
  unfold IdsP at HIDS
  rw [← hn] at HIDS
  clear hl hq hwd hln hids hn hLN hPN
  go_enter Tryz.func62, Tryz.ntmps62
  go_wp2_with fail
  refine (HIDS.out).mono ?_
  rintro e w1 ⟨A1, c1, rfl, ho1, hb1⟩
  obtain ⟨_, _, er, hi1, _⟩ := ho1.read
  injection er with e1 e3 e2
  clear e3
  subst e1 e2
  have HB1 := Lib.hid hb1
  have HI1 := Lib.hid hi1
  have hbG := (Below.refl w1.heap.size w1).alloc (Nat.le_refl _) (.cells (fLab n (fun _ => 0)).toArray 3)
  have HL0 : Hid (LB (w1.alloc (.cells (fLab n (fun _ => 0)).toArray 3)) w1.heap.size n (fun _ => 0)) := Lib.hid (Has.new w1 3 _)
  have HBG := Lib.hid hbG
  clear ho1 hb1 hi1 HIDS hbG
  go_upto_region 3 with fail
  clear hmk
  generalize w1.alloc (.cells (fLab n (fun _ => 0)).toArray 3) = w2 at *
  obtain ⟨G, hG⟩ : ∃ G, G = w1.heap.size := ⟨_, rfl⟩
  have HG := Lib.hid hG
  rw [← hG] at HL0 ⊢
  clear hG
  go_wp2_with fail
  go_loopw [7] (fun vi wr => ∃ i : Nat, vi = .int .i64 (i : Int) ∧ i ≤ n ∧ Below w1.heap.size w1 wr ∧ LB wr G n (fun j => if j < i then j else 0)) (fun vi _ => n - (intOf vi).toNat)
  case atStart => exact ⟨0, rfl, by omega, HBG.out, HL0.out.congr fun _ _ => by simp⟩
  case round =>
    clear HL0 HBG
    obtain ⟨i, rfl, hi, hB, hL⟩ := hrel
    by_cases hlt : i < n
    · have i0 : (0 : Int) ≤ (i : Int) := by omega
      have i1 : (i : Int) < (n : Int) := by omega
      have x0 := hL.cell hlt
      have z0 := fun o => Has.frozen (show Has wr G 3 _ from hL) o
      have HL1 := Lib.hid ((hL.set i i).congr (g := fun j => if j < i + 1 then j else 0) fun j _ => by
        by_cases h1 : j = i
        · subst h1; simp
        · rw [if_neg h1]
          have : (j < i + 1) = (j < i) := by simp; omega
          simp [this])
      have HB2 := Lib.hid (hB.setCell (p := ⟨G, i, none⟩) (by show w1.heap.size ≤ G; have := HG.out; omega) (.int .i64 (i : Int)))
      clear hL hB
      go_wp2_with fail
      exact ⟨⟨i + 1, by go_num, hlt, HB2.out, HL1.out⟩, by simp [intOf]; omega⟩
    · have ei : i = n := by omega
      subst ei
      have HL1 := Lib.hid (hL.congr (g := fun j => rnds (edg ids ps) 0 id j) fun j hj => by rw [if_pos hj]; rfl)
      have HB2 := Lib.hid hB
      clear hL hB
      go_wp2_with fail
      go_loopw [8] (fun vi wr => ∃ r : Nat, vi = .int .i64 (r : Int) ∧ r ≤ i ∧ Below w1.heap.size w1 wr ∧ LB wr G i (rnds (edg ids ps) r id)) (fun vi _ => i - (intOf vi).toNat)
      case atStart => exact ⟨0, rfl, by omega, HB2.out, HL1.out⟩
      case round =>
        clear HL1 HB2
        obtain ⟨r, rfl, hr, hB, hL⟩ := hrel
        by_cases hlt : r < i
        · have i0 : (0 : Int) ≤ (r : Int) := by omega
          have i1 : (r : Int) < (i : Int) := by omega
          have HL1 := Lib.hid hL
          have HB2 := Lib.hid hB
          clear hL hB
          go_wp2_with fail
          go_loopw [9] (fun vi wr => ∃ k : Nat, vi = .int .i64 (k : Int) ∧ k ≤ PN ∧ Below w1.heap.size w1 wr ∧ LB wr G i (rnd (edg ids (ps.take k)) (rnds (edg ids ps) r id))) (fun vi _ => PN - (intOf vi).toNat)
          case atStart => exact ⟨0, rfl, by omega, HB2.out, by rw [List.take_zero]; exact HL1.out⟩
          case round =>
            clear HL1 HB2
            obtain ⟨k, rfl, hk, hB, hL⟩ := hrel
            by_cases hlk : k < PN
            · have k1 : k < ps.length := by rw [← HPN.out]; exact hlk
              obtain ⟨b5, o5, e5, hb5, f1, f2⟩ := HQ.out.at_ k1
              subst e5
              have HEN := Lib.hid (edg_next (ids := ids) k1)
              have hcx := ix_cases ids ps[k].1
              have hcy := ix_cases ids ps[k].2
              generalize ps[k] = p at *
              obtain ⟨px, py⟩ := p
              simp only at f1 f2 hcx hcy HEN
              have HIX : Hid (∀ (m : Nat) (x : Int), Calls Tryz.prog 89 #[.slice A1 i c1, .int .i64 x] (wr.drewN m) fun e w' => e = .returned (.int .i64 (ixV ids x)) ∧ wr.drewN m = w') := Lib.hid fun m x => by
                have := rindex_any A1 ids c1 x (wr.drewN m) ((HI1.out.keep fun j hj => (below_drewN hB m).block j hj).more (Nat.le_trans (Nat.le_refl _) (below_drewN hB m).size)) (by rw [← HN.out]; unfold maxLen; omega)
                rwa [← HN.out] at this
              have F1 := (hB.cell (p := ⟨b5, o5 + k * 2, none⟩) (Nat.lt_of_lt_of_le hb5 HB1.out.size)).trans ((HB1.out.cell (p := ⟨b5, o5 + k * 2, none⟩) hb5).trans f1)
              have F2 := (hB.cell (p := ⟨b5, o5 + k * 2 + 1, none⟩) (Nat.lt_of_lt_of_le hb5 HB1.out.size)).trans ((HB1.out.cell (p := ⟨b5, o5 + k * 2 + 1, none⟩) hb5).trans f2)
              have i0 : (0 : Int) ≤ (k : Int) := by omega
              have i1 : (k : Int) < (PN : Int) := by omega
              have HL1 := Lib.hid hL
              have HB2 := Lib.hid hB
              clear hL hB f1 f2
              go_upto_region 14 with (go_quiet ((go_at_call 89; exact quiet_left (HIX.out _ _))))
              have hqb := below_drewN (Below.refl wr.heap.size wr) nq
              have HL4 := Lib.hid (show LB (wr.drewN nq) G i _ from Has.below HL1.out hqb)
              have HB4 := Lib.hid (HB2.out.trans (hqb.mono HB2.out.size))
              clear hqb F1 F2 HL1 HB2 HIX
              generalize wr.drewN nq = WQ at *
              rw [← HN.out] at hcx hcy HEN
              have HGE := Lib.hid (show w1.heap.size ≤ G from by have := HG.out; omega)
              rcases hcx with ⟨hx, ex⟩ | ⟨hx, ex⟩
              · have HL5 : Hid (LB WQ G i (rnd (edg ids (ps.take (k + 1))) (rnds (edg ids ps) r id))) := Lib.hid (by
                  rw [HEN.out, if_neg fun h => hx h.1, List.append_nil]; exact HL4.out)
                rw [ex]
                clear ex hcy hx HEN HL4
                generalize ixV ids py = vy at *
                go_wp2_with fail
                exact ⟨⟨k + 1, by go_num, hlk, HB4.out, HL5.out⟩, by simp [intOf]; omega⟩
              · rcases hcy with ⟨hy, ey⟩ | ⟨hy, ey⟩
                · have HL5 : Hid (LB WQ G i (rnd (edg ids (ps.take (k + 1))) (rnds (edg ids ps) r id))) := Lib.hid (by
                    rw [HEN.out, if_neg fun h => hy h.2, List.append_nil]; exact HL4.out)
                  rw [ex, ey]
                  clear ex ey hx hy HEN HL4
                  generalize pos ids px = a at *
                  go_wp2_with fail
                  exact ⟨⟨k + 1, by go_num, hlk, HB4.out, HL5.out⟩, by simp [intOf]; omega⟩
                · rw [ex, ey]
                  rw [if_pos ⟨hx, hy⟩] at HEN
                  clear ex ey
                  generalize pos ids px = a at *
                  generalize pos ids py = b at *
                  have HRS : Hid (rnd (edg ids (ps.take (k + 1))) (rnds (edg ids ps) r id) = stp (rnd (edg ids (ps.take k)) (rnds (edg ids ps) r id)) (a, b)) := Lib.hid (by rw [HEN.out, rnd_app]; rfl)
                  generalize rnd (edg ids (ps.take k)) (rnds (edg ids ps) r id) = f at *
                  have x0 := HL4.out.cell hx
                  have x1 := HL4.out.cell hy
                  have HST := Lib.hid ((HL4.out.set a (min (f a) (f b))).set b (min (f a) (f b)))
                  have a0 : (0 : Int) ≤ (a : Int) := by omega
                  have a1 : (a : Int) < (i : Int) := by omega
                  have b0 : (0 : Int) ≤ (b : Int) := by omega
                  have b1 : (b : Int) < (i : Int) := by omega
                  go_upto_region 16 with (go_quiet (fail))
                  have hmin : (if f b < f a then ((f b : Nat) : Int) else ((f a : Nat) : Int)) = ((min (f a) (f b) : Nat) : Int) := by split <;> omega
                  have hqb := below_drewN (Below.refl WQ.heap.size WQ) nq
                  have HST := Lib.hid (((show LB (WQ.drewN nq) G i f from Has.below HL4.out hqb).set a (min (f a) (f b))).set b (min (f a) (f b)))
                  have hl6 : LB (WQ.drewN nq) G i f := Has.below HL4.out hqb
                  have HB6 := Lib.hid (HB4.out.trans (hqb.mono HB4.out.size))
                  have y0 := hl6.cell hx
                  have y1 := hl6.cell hy
                  have z0 := fun o => Has.frozen (show Has (WQ.drewN nq) G 3 _ from hl6) o
                  have hl7 := hl6.set a (min (f a) (f b))
                  have y2 := hl7.cell hy
                  have z2 := fun o => Has.frozen (show Has ((WQ.drewN nq).setCell ⟨G, a, none⟩ (.int .i64 ((min (f a) (f b) : Nat) : Int))) G 3 _ from hl7) o
                  generalize (if b = a then min (f a) (f b) else f b) = y2v at *
                  rw [hmin]
                  clear x0 x1 hqb hl6 hl7 hmin HL4 HB4
                  have HMV : Hid (∀ W, LB W G i (fun j => if j = b then min (f a) (f b) else if j = a then min (f a) (f b) else f j) → LB W G i (stp f (a, b))) := Lib.hid fun W h => by rw [← stp_two]; exact h
                  generalize min (f a) (f b) = mv at *
                  generalize WQ.drewN nq = WR at *
                  go_wp2_with fail
                  exact ⟨⟨k + 1, by go_num, hlk, (HB6.out.setCell (p := ⟨G, a, none⟩) HGE.out _).setCell (p := ⟨G, b, none⟩) HGE.out _, by rw [HRS.out]; exact HMV.out _ HST.out⟩, by simp [intOf]; omega⟩
            · have ek : k = PN := by omega
              have HL5 : Hid (LB wr G i (rnds (edg ids ps) (r + 1) id)) := Lib.hid (by
                have h5 : rnds (edg ids ps) (r + 1) id = rnd (edg ids ps) (rnds (edg ids ps) r id) := rfl
                rw [h5]
                rw [ek, List.take_of_length_le (by rw [← HPN.out]; exact Nat.le_refl _)] at hL
                exact hL)
              subst ek
              have j1 : ¬ (k : Int) < (k : Int) := by omega
              clear hL
              go_wp2_with fail
              exact ⟨⟨r + 1, by go_num, hlt, hB, HL5.out⟩, by simp [intOf]; omega⟩
        · have er : r = i := by omega
          subst er
          have j1 : ¬ (r : Int) < (r : Int) := by omega
          obtain ⟨n, hn⟩ : ∃ n, n = r := ⟨_, rfl⟩
          have HLR := Lib.hid (show LB wr G r (lab (edg ids ps) r) from hL)
          have HBR := Lib.hid (HB1.out.trans (hB.mono HB1.out.size))
          have HI3 := Lib.hid ((HI1.out.keep fun j hj => hB.block j hj).more hB.size)
          have HJ : Hid (jnd ids ps = ((List.range r).filter fun i => decide (lab (edg ids ps) r i = i)).map fun i => ((List.range r).filter fun k => decide (lab (edg ids ps) r k = i)).map fun k => ids.getD k 0) := Lib.hid (by
            unfold jnd prtF
            rw [← HN.out, List.map_map]
            rfl)
          have HFL : Hid (∀ i, lab (edg ids ps) r i ≤ i) := Lib.hid fun i => rnds_le (edg ids ps) r i
          generalize lab (edg ids ps) r = f at *
          obtain ⟨inf, hif, hif1, hif2, hif3⟩ := infoI_parts
          obtain ⟨ing, hig, hig1, hig2, hig3⟩ := infoZ_parts
          generalize jnd ids ps = R at *
          obtain ⟨w5, rfl⟩ : ∃ w5, w5 = wr := ⟨_, rfl⟩
          clear hL hB hn
          go_wp2_with fail
          go_loopw [13, 14] (fun vo vi wr => ∃ (v1 : Value) (i : Nat) (q : List (List Int)), v1 = vo ∧ vi = .int .i64 (i : Int) ∧ i ≤ r ∧ OwnRI wr w5.heap.size v1 q ∧ Below w5.heap.size w5 wr ∧ Hid (q = ((List.range i).filter fun i => decide (f i = i)).map fun i => ((List.range r).filter fun k => decide (f k = i)).map fun k => ids.getD k 0) ∧ q.length ≤ i) (fun _ vi _ => r - (intOf vi).toNat)
          case atStart => exact ⟨_, 0, [], rfl, rfl, by omega, OwnRI.nil _ _, Below.refl _ _, Lib.hid (by simp), by simp⟩
          case round =>
            obtain ⟨v1, i, q, rfl, rfl, hi, ho1, hB, HL, hlen⟩ := hrel
            by_cases hlt : i < r
            · have i0 : (0 : Int) ≤ (i : Int) := by omega
              have i1 : (i : Int) < (r : Int) := by omega
              have HO1 := Lib.hid ho1
              have HB2 := Lib.hid hB
              obtain ⟨A5, c5, hv5, _⟩ := ho1.read
              obtain ⟨p5, hp5⟩ : ∃ p, p = q.length := ⟨_, rfl⟩
              have HP5 := Lib.hid hp5
              rw [← hp5] at hv5
              subst hv5
              have x0 := LB.cell (Has.below HLR.out hB : LB wr G r f) hlt
              by_cases hfi : f i = i
              · obtain ⟨wq, rfl⟩ : ∃ wq, wq = wr := ⟨_, rfl⟩
                have HFY : Hid (((List.range (i + 1)).filter fun i => decide (f i = i)) = ((List.range i).filter fun i => decide (f i = i)) ++ [i]) := Lib.hid (by
                  rw [List.range_succ, List.filter_append]
                  simp [hfi])
                have HPZ : Hid (((List.range i).filter fun k => decide (f k = i)) = []) := Lib.hid (by
                  rw [List.filter_eq_nil_iff]
                  intro k hk
                  have h1 := List.mem_range.1 hk
                  have h2 := HFL.out k
                  simp only [decide_eq_true_eq]
                  omega)
                have HFK : Hid (∀ k, ((List.range (k + 1)).filter fun k => decide (f k = i)) = ((List.range k).filter fun k => decide (f k = i)) ++ if f k = i then [k] else []) := Lib.hid fun k => by
                  rw [List.range_succ, List.filter_append]
                  congr 1
                  by_cases h : f k = i <;> simp [h]
                have HNE : Hid (0 < (((List.range r).filter fun k => decide (f k = i)).map fun k => ids.getD k 0).length) := Lib.hid (by
                  rw [List.length_map]
                  exact List.length_pos_of_mem (List.mem_filter.2 ⟨List.mem_range.2 hlt, by simpa using hfi⟩))
                have HOL : Hid (∀ kk, (Value.slice A5 p5 c5).ownBlock = some kk → kk < wq.heap.size) := Lib.hid fun kk e => by
                  obtain ⟨vs', h1', _⟩ := ho1
                  exact (h1'.lt kk e).2
                rw [hfi] at x0
                have HX0 := Lib.hid x0
                have hGw : G < wq.heap.size := Has.lt (show Has wq G 3 _ from Has.below HLR.out hB)
                have HGW := Lib.hid hGw
                clear ho1 hB hp5 hfi hGw
                have e2 : ((i : Int) == (i : Int)) = true := by simp
                clear x0
                go_wp2_with fail
                go_loopw [15, 16] (fun vo vk wj => ∃ (u : Value) (k : Nat) (m : List Int), u = vo ∧ vk = .int .i64 (k : Int) ∧ i ≤ k ∧ k ≤ r ∧ OwnZ wj wq.heap.size u m ∧ Below wq.heap.size wq wj ∧ Hid (m = ((List.range k).filter fun k => decide (f k = i)).map fun k => ids.getD k 0) ∧ m.length ≤ k) (fun _ vk _ => r - (intOf vk).toNat)
                case atStart => exact ⟨_, i, [], rfl, rfl, Nat.le_refl _, by omega, OwnZ.nil _ _, Below.refl _ _, Lib.hid (by rw [HPZ.out]; rfl), by simp⟩
                case round =>
                  obtain ⟨u, k, m, rfl, rfl, hik, hkr, hoz, hBj, HM, hml⟩ := hrel
                  have hB5 := HB2.out.trans (hBj.mono HB2.out.size)
                  have y0 := (hBj.cell (p := ⟨G, i, none⟩) HGW.out).trans HX0.out
                  by_cases hkl : k < r
                  · have k0 : (0 : Int) ≤ (k : Int) := by omega
                    have k1 : (k : Int) < (r : Int) := by omega
                    have k2 : k < ids.length := by rw [← HN.out]; exact hkl
                    have y1 := LB.cell (Has.below HLR.out hB5 : LB wr G r f) hkl
                    have HI6 : Ins wr wr.heap.size A1 ids := (HI3.out.keep fun j hj => hB5.block j hj).more hB5.size
                    obtain ⟨b8, o8, e8, h8, hw8, f8⟩ := HI6.at_ k2
                    have hgd : ids.getD k 0 = ids[k] := by rw [List.getD_eq_getElem?_getD, List.getElem?_eq_getElem k2, Option.getD_some]
                    have HFX := Lib.hid (HFK.out k)
                    have HGD := Lib.hid hgd
                    generalize ids[k] = z at *
                    obtain ⟨A7, c7, hv7, _⟩ := hoz.read
                    obtain ⟨p7, hp7⟩ : ∃ p, p = m.length := ⟨_, rfl⟩
                    have HP7 := Lib.hid hp7
                    have hm6 : m.length < 1000000 := by omega
                    rw [← hp7] at hv7
                    subst hv7
                    have HZ := Lib.hid hoz
                    have HBJ := Lib.hid hBj
                    subst e8
                    by_cases hfk : f k = i
                    · rw [hfk] at y1
                      have HMN : Hid (m ++ [z] = ((List.range (k + 1)).filter fun k => decide (f k = i)).map fun k => ids.getD k 0) := Lib.hid (by
                        rw [HFX.out, if_pos hfk, List.map_append, ← HM.out, List.map_singleton, HGD.out])
                      clear hoz hBj hp7 hfk HI6 hgd HFX HGD
                      go_wp2_with (at_builtin; refine wpList_pushZ rfl _ _ 22 rfl wq.heap.size inf Tryz.underlying22 hif hif1 hif2 hif3 (.slice A7 p7 c7) m wr z hw8 (by simp [Act.eval]) HZ.out (by simp [Act.eval]) hm6 HBJ.out.size ?_; intro v9 w9 ho9 hb9; have HZ9 := Lib.hid ho9; have HB9 := Lib.hid (HBJ.out.trans hb9); clear ho9 hb9)
                      exact ⟨⟨_, k + 1, m ++ [z], rfl, by go_num, by omega, by omega, HZ9.out, HB9.out, HMN, by rw [List.length_append]; simp; omega⟩, by simp [intOf]; omega⟩
                    · have e3 : (((f k : Nat) : Int) == (i : Int)) = false := by
                        have : ((f k : Nat) : Int) ≠ (i : Int) := by omega
                        simpa using this
                      have HMN : Hid (m = ((List.range (k + 1)).filter fun k => decide (f k = i)).map fun k => ids.getD k 0) := Lib.hid (by
                        rw [HFX.out, if_neg hfk, List.append_nil, ← HM.out])
                      generalize f k = fk at *
                      clear hoz hBj hp7 hfk HI6 hgd HFX HGD
                      go_wp2_with fail
                      exact ⟨⟨_, k + 1, m, rfl, by go_num, by omega, by omega, HZ.out, HBJ.out, HMN, by omega⟩, by simp [intOf]; omega⟩
                  · have ek : k = r := by omega
                    subst ek
                    have hmn : 0 < m.length := by rw [HM.out]; exact HNE.out
                    obtain ⟨A7, c7, hv7, hi7, hb7⟩ := hoz.read
                    have hA7 : ∀ b o, A7 = some ⟨b, o, none⟩ → b < wr.heap.size ∧ some b ≠ (Value.slice A5 p5 c5).ownBlock := fun b o e => by
                      obtain ⟨b', o', e', h', _⟩ := hi7.at_ hmn
                      rw [e] at e'
                      have := Option.some.inj e'
                      injection this with e1
                      subst e1
                      refine ⟨h', fun e5 => ?_⟩
                      have h1 := HOL.out b e5.symm
                      have h2 := hb7 b o e
                      omega
                    have HO6 := Lib.hid (HO1.out.below hBj)
                    have HHI := Lib.hid hi7
                    have HHA := Lib.hid hA7
                    have HHB := Lib.hid hB5
                    have hq6 : q.length < 1000000 := by omega
                    have HQN : Hid (q ++ [m] = ((List.range (i + 1)).filter fun i => decide (f i = i)).map fun i => ((List.range k).filter fun k => decide (f k = i)).map fun k => ids.getD k 0) := Lib.hid (by
                      rw [HFY.out, List.map_append, ← HL.out, HM.out]
                      rfl)
                    have hmz : (0 : Int) < (m.length : Int) := by omega
                    subst hv7
                    clear hoz hBj hi7 hb7 hA7 hB5
                    go_wp2_with (at_builtin; refine wpList_pushI rfl _ _ 54 rfl w5.heap.size ing Tryz.underlying54 hig hig1 hig2 hig3 (.slice A5 p5 c5) q wr A7 c7 m HHI.out HHA.out (by simp [Act.eval]) HO6.out (by simp [Act.eval]) hq6 HHB.out.size ?_; intro v9 w9 ho9 hb9; have HO9 := Lib.hid ho9; have HB9 := Lib.hid (HHB.out.trans hb9); clear ho9 hb9)
                    exact ⟨⟨_, i + 1, q ++ [m], rfl, by go_num, hlt, HO9.out, HB9.out, HQN, by rw [List.length_append]; simp; omega⟩, by simp [intOf]; omega⟩
              · have HFN : Hid (((List.range (i + 1)).filter fun i => decide (f i = i)) = (List.range i).filter fun i => decide (f i = i)) := Lib.hid (by
                  rw [List.range_succ, List.filter_append]
                  simp [hfi])
                have e1 : (((f i : Nat) : Int) == (i : Int)) = false := by
                  have : ((f i : Nat) : Int) ≠ (i : Int) := by omega
                  simpa using this
                generalize f i = fi at *
                clear ho1 hB hp5
                go_wp2_with fail
                go_loopw [15, 16] (fun vo vi wj => vo = .slice none 0 0 ∧ vi = .int .i64 (i : Int) ∧ wr = wj) (fun _ vi _ => 0)
                case atStart => exact ⟨rfl, rfl, rfl⟩
                case round =>
                  obtain ⟨rfl, rfl, rfl⟩ := hrel
                  go_wp2_with fail
                  exact ⟨⟨_, i + 1, q, rfl, by go_num, hlt, HO1.out, HB2.out, Lib.hid (by rw [HL.out, HFN.out]), by omega⟩, by simp [intOf]; omega⟩
            · have ei : i = r := by omega
              obtain ⟨A5, c5, hv5, hr5⟩ := ho1.read
              have hqR : q = R := by rw [HL.out, HJ.out, ei]
              subst hv5
              rw [hqR] at hr5 ⊢
              have HR5 := Lib.hid hr5
              have HBF := Lib.hid (HBR.out.trans (hB.mono HBR.out.size))
              subst ei
              have j1 : ¬ (i : Int) < (i : Int) := by omega
              clear ho1 hr5 hB HL hqR
              go_wp2_with fail
              go_ret
              exact ⟨A5, c5, rfl, HR5.out, HBF.out⟩
end
section
open Go.RowKit

theorem flat_const {α β : Type} (f : α → List β) (c : Nat) (h : ∀ x, (f x).length = c) : ∀ l : List α, (l.flatMap f).length = l.length * c
  | [] => by simp
  | x :: l => by rw [List.flatMap_cons, List.length_append, h, flat_const f c h l, List.length_cons, Nat.add_mul]; omega
theorem prs_len (s : List Nd) (k : List Ld) (lo m : Nat) : (prsV s k lo m).length = s.length * (m * 2) := by
  unfold prsV
  refine flat_const _ _ (fun x => ?_) s
  rw [flat_const _ 2 (fun _ => rfl), List.length_range]
theorem cmp_no {l : List Nd} {k : List Ld} {h : Int} (hn : ¬ (chkV l = 0 ∧ lvB h = true)) : cmpV l k h = [] := if_neg hn
set_option maxRecDepth 100000 in
set_option maxHeartbeats 1600000 in
theorem rcomps7_any (A A4 : Option Addr) (l : List Nd) (k : List Ld) (c c4 : Nat) (h : Int) (w : World) (hl : Nds w w.heap.size A l) (hk : Lds w w.heap.size A4 k) (hkn : k.length ≤ maxLen) (hwd : ∀ x ∈ l, x.word < 4294967296) :
    Calls Tryz.prog 39 #[.slice A l.length c, .slice A4 k.length c4, .int .i64 h] w (LstP (cmpV l k h) w) := by
  have HNO : Hid (¬ (chkV l = 0 ∧ lvB h = true) → ∀ e w', (e = .returned (.slice none 0 0) ∧ Below w.heap.size w w') → LstP (cmpV l k h) w e w') := Lib.hid fun hn e w' k2 => ⟨none, 0, by rw [cmp_no hn]; exact k2.1, by rw [cmp_no hn]; exact fun e => absurd rfl e, k2.2⟩
  by_cases hchk : chkV l = 0
  · by_cases hlv : lvB h = true
    · have h2 : 0 ≤ h ∧ h ≤ 16 := by simpa [lvB] using hlv
      obtain ⟨lo, rfl⟩ := Int.eq_ofNat_of_zero_le h2.1
      have HC := Lib.hid ((ris_any A l c w hl hwd).mono fun e w' h => (⟨by rw [h.1, hchk]; rfl, h.2⟩ : e = .returned (.bool true) ∧ Below w.heap.size w w'))
      have HI := Lib.hid (fun (W : World) => (rLevel_any (lo : Int) W).mono fun e w' h => (⟨by rw [h.1, hlv], h.2⟩ : e = .returned (.bool true) ∧ W = w'))
      have HS := Lib.hid (fun (W : World) (k : Below w.heap.size w W) => rsortR_any A l c W ((hl.below k).more k.size) hchk)
      have hsl := srt_le hchk
      have HPR : Hid (∀ (W : World) (j : Below w.heap.size w W) (A2 : Option Addr) (c2 : Nat) (h2 : Nds W W.heap.size A2 (srt l)), Calls Tryz.prog 63 #[.slice A2 (srt l).length c2, .slice A4 k.length c4, .int .i64 (lo : Int), .int .i64 (lo : Int)] W (QrsP (prsV (srt l) k lo 1) W)) := Lib.hid fun W j A2 c2 h3 => by
        have := rpairs_any A2 A4 (srt l) k c2 c4 lo 1 W h3 ((hk.below j).more j.size) hkn (by omega) (by omega)
        rwa [show (lo : Int) + ((1 : Nat) : Int) - 1 = (lo : Int) by omega] at this
      have HJN : Hid (∀ (W : World) (A2 A3 : Option Addr) (c2 c3 : Nat) (h2 : Nds W W.heap.size A2 (srt l)) (h3 : Qrs W W.heap.size A3 (prsV (srt l) k lo 1)), Calls Tryz.prog 62 #[.slice A2 (srt l).length c2, .slice A3 (prsV (srt l) k lo 1).length c3] W (LstP (cmpV l k (lo : Int)) W)) := Lib.hid fun W A2 A3 c2 c3 h3 h4 => by
        have := rjoined_any A2 A3 (srt l) (prsV (srt l) k lo 1) c2 c3 W h3 h4 (wide_srt hchk) (by omega) (by rw [prs_len]; omega)
        unfold cmpV
        rw [if_pos ⟨hchk, hlv⟩]
        exact this
      generalize prsV (srt l) k lo 1 = P at *
      generalize cmpV l k (lo : Int) = R at *
      generalize srt l = S at *
      clear hl hk hwd hchk hlv HNO
      go_enter Tryz.func39, Tryz.ntmps39
      go_wp2_with fail
      refine (HC.out).mono ?_
      rintro e w1 ⟨rfl, hb1⟩
      have HB1 := Lib.hid hb1
      clear hb1 HC
      go_wp2_with fail
      refine (HI.out _).mono ?_
      rintro e w2 ⟨rfl, rfl⟩
      go_wp2_with fail
      refine (HS.out _ HB1.out).mono ?_
      rintro e w2 ⟨A2, c2, rfl, ho2, hb2⟩
      obtain ⟨_, _, er, hr2⟩ := ho2.read
      injection er with e1 e3 e2
      clear e3
      subst e1 e2
      have HB2 := Lib.hid (HB1.out.trans (hb2.mono HB1.out.size))
      have HR2 := Lib.hid hr2
      clear hb2 HS HB1 ho2 hr2
      have HP := Lib.hid (HPR.out w2 HB2.out A2 c2 HR2.out)
      unfold QrsP at HP
      obtain ⟨SN, hSN⟩ : ∃ n, n = S.length := ⟨_, rfl⟩
      rw [← hSN] at HP HJN ⊢
      obtain ⟨PN, hPN⟩ : ∃ n, n = P.length := ⟨_, rfl⟩
      rw [← hPN] at HP HJN
      clear hSN hPN hsl
      go_wp2_with fail
      refine (HP.out).mono ?_
      rintro e w3 ⟨A3, c3, rfl, hr3, hb3⟩
      have HB3 := Lib.hid (HB2.out.trans (hb3.mono HB2.out.size))
      have HJ := Lib.hid (HJN.out w3 A2 A3 c2 c3 ((HR2.out.below hb3).more hb3.size) hr3)
      clear hb3 hr3 HR2 HB2 HP HPR HJN
      go_wp2_with fail
      refine (HJ.out).mono ?_
      rintro e w4 ⟨A5, c5, rfl, hr5, hb5⟩
      have HR5 := Lib.hid hr5
      have HB5 := Lib.hid (HB3.out.trans (hb5.mono HB3.out.size))
      clear hr5 hb5
      go_wp2_with fail
      go_ret
      exact ⟨A5, c5, rfl, HR5.out, HB5.out⟩
    · have hlz : lvB h = false := by simpa using hlv
      have HC := Lib.hid ((ris_any A l c w hl hwd).mono fun e w' h => (⟨by rw [h.1, hchk]; rfl, h.2⟩ : e = .returned (.bool true) ∧ Below w.heap.size w w'))
      have HI := Lib.hid (fun (W : World) => rLevel_any h W)
      have HF := Lib.hid (HNO.out fun e => hlv e.2)
      rw [hlz] at HI
      refine Calls.mono ?_ HF.out
      clear hl hk hwd hchk hlv hlz HF HNO
      go_enter Tryz.func39, Tryz.ntmps39
      go_wp2_with fail
      refine (HC.out).mono ?_
      rintro e w1 ⟨rfl, hb1⟩
      go_wp2_with fail
      refine (HI.out _).mono ?_
      rintro e w2 ⟨rfl, rfl⟩
      go_wp2_with fail
      go_ret
      exact ⟨rfl, hb1⟩
  · have hz : (chkV l == 0) = false := by simpa using hchk
    have HC := Lib.hid ((ris_any A l c w hl hwd).mono fun e w' h => (⟨by rw [h.1, hz], h.2⟩ : e = .returned (.bool false) ∧ Below w.heap.size w w'))
    have HF := Lib.hid (HNO.out fun e => hchk e.1)
    refine Calls.mono ?_ HF.out
    clear hl hk hwd hchk HF hz HNO
    go_enter Tryz.func39, Tryz.ntmps39
    go_wp2_with fail
    refine (HC.out).mono ?_
    rintro e w1 ⟨rfl, hb1⟩
    go_wp2_with fail
    go_ret
    exact ⟨rfl, hb1⟩
set_option maxRecDepth 100000 in
set_option maxHeartbeats 1600000 in
theorem rconn7_any (A A4 : Option Addr) (l : List Nd) (k : List Ld) (c c4 : Nat) (w : World) (hl : Nds w w.heap.size A l) (hk : Lds w w.heap.size A4 k) (hkn : k.length ≤ maxLen) (hwd : ∀ x ∈ l, x.word < 4294967296) :
    Calls Tryz.prog 40 #[.slice A l.length c, .slice A4 k.length c4] w (BoolN (conV l k) w) := by
  by_cases hchk : chkV l = 0
  · have hln : l.length ≤ 64 := (chkV_zero.1 hchk).1
    have HC := Lib.hid ((ris_any A l c w hl hwd).mono fun e w' h => (⟨by rw [h.1, hchk]; rfl, h.2⟩ : e = .returned (.bool true) ∧ Below w.heap.size w w'))
    have HS := Lib.hid (fun (W : World) (k : Below w.heap.size w W) => rsortR_any A l c W ((hl.below k).more k.size) hchk)
    have hsl := srt_le hchk
    have HPR : Hid (∀ (W : World) (j : Below w.heap.size w W), Calls Tryz.prog 63 #[.slice A l.length c, .slice A4 k.length c4, .int .i64 0, .int .i64 16] W (QrsP (prsV l k 0 17) W)) := Lib.hid fun W j =>
      rpairs_any A A4 l k c c4 0 17 W ((hl.below j).more j.size) ((hk.below j).more j.size) hkn hln (by omega)
    have HJN : Hid (∀ (W : World) (A2 A3 : Option Addr) (c2 c3 : Nat) (h2 : Nds W W.heap.size A2 (srt l)) (h3 : Qrs W W.heap.size A3 (prsV l k 0 17)), Calls Tryz.prog 62 #[.slice A2 (srt l).length c2, .slice A3 (prsV l k 0 17).length c3] W (LstP (jnd (idsV l) (prsV l k 0 17)) W)) := Lib.hid fun W A2 A3 c2 c3 h3 h4 =>
      rjoined_any A2 A3 (srt l) (prsV l k 0 17) c2 c3 W h3 h4 (wide_srt hchk) (by omega) (by rw [prs_len]; omega)
    have HV : Hid (conV l k = decide ((jnd (idsV l) (prsV l k 0 17)).length ≤ 1)) := Lib.hid (by unfold conV; rw [decide_eq_true hchk, Bool.true_and])
    generalize conV l k = V at *
    generalize jnd (idsV l) (prsV l k 0 17) = R at *
    generalize prsV l k 0 17 = P at *
    generalize srt l = S at *
    obtain ⟨LN, hLN⟩ : ∃ n, n = l.length := ⟨_, rfl⟩
    rw [← hLN] at HC HS HPR ⊢
    obtain ⟨KN, hKN⟩ : ∃ n, n = k.length := ⟨_, rfl⟩
    rw [← hKN] at HPR ⊢
    clear hl hk hwd hchk hln hLN hKN
    go_enter Tryz.func40, Tryz.ntmps40
    go_wp2_with fail
    refine (HC.out).mono ?_
    rintro e w1 ⟨rfl, hb1⟩
    have HB1 := Lib.hid hb1
    clear hb1 HC
    go_wp2_with fail
    refine (HS.out _ HB1.out).mono ?_
    rintro e w2 ⟨A2, c2, rfl, ho2, hb2⟩
    obtain ⟨_, _, er, hr2⟩ := ho2.read
    injection er with e1 e3 e2
    clear e3
    subst e1 e2
    have HB2 := Lib.hid (HB1.out.trans (hb2.mono HB1.out.size))
    have HR2 := Lib.hid hr2
    clear hb2 HS HB1 ho2 hr2
    have HP := Lib.hid (HPR.out w2 HB2.out)
    unfold QrsP at HP
    obtain ⟨SN, hSN⟩ : ∃ n, n = S.length := ⟨_, rfl⟩
    rw [← hSN] at HJN ⊢
    obtain ⟨PN, hPN⟩ : ∃ n, n = P.length := ⟨_, rfl⟩
    rw [← hPN] at HP HJN
    clear hSN hPN hsl
    go_wp2_with fail
    refine (HP.out).mono ?_
    rintro e w3 ⟨A3, c3, rfl, hr3, hb3⟩
    have HB3 := Lib.hid (HB2.out.trans (hb3.mono HB2.out.size))
    have HJ := Lib.hid (HJN.out w3 A2 A3 c2 c3 ((HR2.out.below hb3).more hb3.size) hr3)
    clear hb3 hr3 HR2 HB2 HP HPR HJN
    go_wp2_with fail
    refine (HJ.out).mono ?_
    rintro e w4 ⟨A5, c5, rfl, hr5, hb5⟩
    have HB5 := Lib.hid (HB3.out.trans (hb5.mono HB3.out.size))
    generalize R.length = rn at *
    clear hr5 hb5
    go_wp2_with fail
    go_ret
    exact ⟨ret_bool (by rw [HV.out]; norm_cast), HB5.out⟩
  · have hz : (chkV l == 0) = false := by simpa using hchk
    have HC := Lib.hid ((ris_any A l c w hl hwd).mono fun e w' h => (⟨by rw [h.1, hz], h.2⟩ : e = .returned (.bool false) ∧ Below w.heap.size w w'))
    have HV : Hid (conV l k = false) := Lib.hid (by unfold conV; rw [decide_eq_false hchk, Bool.false_and])
    rw [HV.out]
    clear hl hk hwd hchk hz HV
    go_enter Tryz.func40, Tryz.ntmps40
    go_wp2_with fail
    refine (HC.out).mono ?_
    rintro e w1 ⟨rfl, hb1⟩
    go_wp2_with fail
    go_ret
    exact ⟨rfl, hb1⟩
end
end Go.Proofs.YteepijefbdbhoaaGreatDoor
