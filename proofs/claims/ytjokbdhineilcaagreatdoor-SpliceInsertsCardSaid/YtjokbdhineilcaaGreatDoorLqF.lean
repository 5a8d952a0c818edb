/-
  Exact and index of the reference of chapter 7. Conditions: what is read can be read.
  pairs of the reference of chapter 7. Conditions: the nodes and links can be read.
  Joined of the reference of chapter 7. Conditions: what is read can be read.
  Components and Connected of the reference of chapter 7. Conditions: what is read can be read.
-/
import Derived.Test.YtjokbdhineilcaaGreatDoorLpC
import Derived.Test.YtjokbdhineilcaaGreatDoorLmJ
import Derived.Test.YtjokbdhineilcaaGreatDoorKqA
import Derived.Deep.RegionHeld3
import Derived.BigRegion
import Derived.Deep.DeepCutAuto
import Derived.Deep.CutBlock
import Derived.Test.YtjokbdhineilcaaGreatDoorKmK
import Derived.StillTailTactics
import Derived.BigQuiet
namespace Go.Proofs.YtjokbdhineilcaaGreatDoor
section
open Go.RowKit

set_option maxRecDepth 100000 in
set_option maxHeartbeats 800000 in
theorem rexact_any (A A2 : Option Addr) (l : List Nd) (k : List Ld) (c c2 : Nat) (h : Int) (w : World) (hl : Nds w w.heap.size A l) (hk : Lds w w.heap.size A2 k) (hkn : k.length ≤ 1000000) (hwd : ∀ x ∈ l, x.word < 4294967296) :
    Calls Tryz.prog 38 #[.slice A l.length c, .slice A2 k.length c2, .int .i64 h] w (BoolN (exaB l k h) w) := by
  have HB := Lib.hid (rbuild_any A l c h w hl hwd)
  have HS := Lib.hid (fun (W : World) (j : Below w.heap.size w W) (A3 : Option Addr) (R : List Ld) (c3 : Nat) (h3 : Lds W W.heap.size A3 R) => rsame6_any A2 A3 k R c2 c3 W ((hk.below j).more j.size) h3 hkn)
  have HE0 : Hid (bldE l h ≠ 0 → exaB l k h = false) := Lib.hid fun e => by unfold exaB; simp [e]
  have HE1 : Hid (bldE l h = 0 → exaB l k h = decide (k = bldV l (h + 1).toNat)) := Lib.hid fun e => by unfold exaB; simp [e]
  generalize exaB l k h = Z at *
  unfold RBldP at HB
  generalize bldE l h = E at *
  generalize bldV l (h + 1).toNat = R at *
  obtain ⟨KN, hKN⟩ : ∃ KN, KN = k.length := ⟨_, rfl⟩
  rw [← hKN] at HS ⊢
  clear hl hk hkn hwd hKN
  go_enter Tryz.func38, Tryz.ntmps38
  go_wp2_with fail
  refine (HB.out).mono ?_
  rintro e w1 (⟨hE, rfl, hb1⟩ | ⟨hE, v, rfl, hD, hb1⟩)
  · have hz : (E == 0) = false := by simpa using hE
    have HZ := Lib.hid (HE0.out hE)
    clear hE
    go_wp2_with fail
    go_ret
    exact ⟨ret_bool HZ.out.symm, hb1⟩
  · subst hE
    obtain ⟨A3, c3, hv3, _, _, hR⟩ := hD.read
    have HB1 := Lib.hid hb1
    have HZ := Lib.hid (HE1.out rfl)
    have HSS := Lib.hid (HS.out w1 hb1 A3 R c3 hR)
    generalize R.length = rn at *
    subst hv3
    clear hD hb1 hR HS HE0 HE1
    go_wp2_with fail
    refine (HSS.out).mono ?_
    rintro e w2 ⟨rfl, hb2⟩
    have HB2 := Lib.hid (HB1.out.trans (hb2.mono HB1.out.size))
    clear hb2
    go_wp2_with fail
    go_ret
    exact ⟨ret_bool HZ.out.symm, HB2.out⟩
/-- The place of a number, -1 where there is none. -/
def ixV (ids : List Int) (x : Int) : Int := if pos ids x < ids.length then (pos ids x : Int) else -1
theorem ix_is {ids : List Int} {x : Int} {i : Nat} (hi : i < ids.length) (h1 : ids[i] = x) (h2 : ∀ j (_ : j < i) (h : j < ids.length), ids[j] ≠ x) : ixV ids x = (i : Int) := by
  have : pos ids x = i := by
    unfold pos
    rw [List.findIdx_eq hi]
    exact ⟨by simpa using h1, fun j hj => by simpa using h2 j hj (by omega)⟩
  unfold ixV
  rw [this, if_pos hi]
theorem ix_not {ids : List Int} {x : Int} (h : ∀ j (h : j < ids.length), ids[j] ≠ x) : ixV ids x = -1 := by
  unfold ixV
  rw [if_neg fun e => h _ e (pos_at e)]
end
section
open Go.RowKit

/-- A row of pairs of numbers of the call's own. -/
def flatQ (l : List (Int × Int)) : List Value := l.flatMap fun y => [.int .i64 y.1, .int .i64 y.2]
theorem flatQ_app (a b : List (Int × Int)) : flatQ (a ++ b) = flatQ a ++ flatQ b := by simp [flatQ]
theorem flatQ_at : ∀ (l : List (Int × Int)) (i : Nat) (h : i < l.length), (flatQ l)[i * 2]? = some (.int .i64 l[i].1) ∧ (flatQ l)[i * 2 + 1]? = some (.int .i64 l[i].2)
  | [], _, h => by simp at h
  | _ :: _, 0, _ => ⟨rfl, rfl⟩
  | f :: l, i + 1, h => by
    have := flatQ_at l i (by simpa using h)
    rw [show (i + 1) * 2 = i * 2 + 2 by omega]
    exact this
/-- A slice of pairs below block B, as it is read. -/
def Qrs (w : World) (B : Nat) (A : Option Addr) (l : List (Int × Int)) : Prop :=
  l ≠ [] → ∃ b o, A = some ⟨b, o, none⟩ ∧ b < B ∧ ∀ i (h : i < l.length), w.cell? ⟨b, o + i * 2, none⟩ = some (.int .i64 l[i].1) ∧ w.cell? ⟨b, o + i * 2 + 1, none⟩ = some (.int .i64 l[i].2)
theorem Qrs.keep {w w' : World} {B : Nat} {A : Option Addr} {l : List (Int × Int)} (h : Qrs w B A l) (k : ∀ i, i < B → w'.heap[i]? = w.heap[i]?) : Qrs w' B A l := fun hn => by
  obtain ⟨b, o, e, hb, hc⟩ := h hn
  exact ⟨b, o, e, hb, fun i hi => ⟨(World.cell?_of_block (k b hb)).trans (hc i hi).1, (World.cell?_of_block (k b hb)).trans (hc i hi).2⟩⟩
theorem Qrs.below {w w' : World} {B : Nat} {A : Option Addr} {l : List (Int × Int)} (h : Qrs w B A l) (k : Below B w w') : Qrs w' B A l := h.keep k.block
theorem Qrs.more {w : World} {B B' : Nat} {A : Option Addr} {l : List (Int × Int)} (h : Qrs w B A l) (hB : B ≤ B') : Qrs w B' A l := fun hn => by
  obtain ⟨b, o, e, hb, hc⟩ := h hn
  exact ⟨b, o, e, by omega, hc⟩
theorem Qrs.at_ {w : World} {B : Nat} {A : Option Addr} {l : List (Int × Int)} (h : Qrs w B A l) {i : Nat} (hi : i < l.length) : ∃ b o, A = some ⟨b, o, none⟩ ∧ b < B ∧ w.cell? ⟨b, o + i * 2, none⟩ = some (.int .i64 l[i].1) ∧ w.cell? ⟨b, o + i * 2 + 1, none⟩ = some (.int .i64 l[i].2) := by
  obtain ⟨b, o, e, hb, hc⟩ := h (by intro e; rw [e] at hi; simp at hi)
  exact ⟨b, o, e, hb, hc i hi⟩
section
variable {w w' : World} {base : Nat} {v : Value} {l : List (Int × Int)}
end
def QrsP (R : List (Int × Int)) (w : World) (e : Ending) (w' : World) : Prop := ∃ A c, e = .returned (.slice A R.length c) ∧ Qrs w' w'.heap.size A R ∧ Below w.heap.size w w'
theorem flat_take2 {α β : Type} (f : α → List β) {l : List α} {k : Nat} (h : k < l.length) : (l.take (k + 1)).flatMap f = (l.take k).flatMap f ++ f l[k] := by
  rw [List.take_succ_eq_append_getElem h, List.flatMap_append]
  simp
end
section
open Go.RowKit

/-- A block of labels. -/
def fLab (n : Nat) (f : Nat → Nat) : List Value := (List.range n).map fun i => .int .i64 ((f i : Nat) : Int)
theorem fLab_congr {n : Nat} {f g : Nat → Nat} (h : ∀ i, i < n → f i = g i) : fLab n f = fLab n g := List.map_congr_left fun i hi => by rw [h i (List.mem_range.1 hi)]
def LB (w : World) (G n : Nat) (f : Nat → Nat) : Prop := Has w G 3 (fLab n f).toArray
theorem LB.cell {w : World} {G n : Nat} {f : Nat → Nat} (h : LB w G n f) {i : Nat} (hi : i < n) : w.cell? ⟨G, i, none⟩ = some (.int .i64 ((f i : Nat) : Int)) := by
  rw [Has.cell h]
  simp [fLab, hi]
theorem LB.set {w : World} {G n : Nat} {f : Nat → Nat} (h : LB w G n f) (i v : Nat) : LB (w.setCell ⟨G, i, none⟩ (.int .i64 (v : Int))) G n (fun j => if j = i then v else f j) := by
  have := Has.set_ (t := 3) h i (.int .i64 (v : Int))
  unfold LB
  have e : ((fLab n f).toArray).setIfInBounds i (.int .i64 (v : Int)) = (fLab n (fun j => if j = i then v else f j)).toArray := by
    rw [List.setIfInBounds_toArray]
    congr 1
    refine List.ext_getElem (by simp [fLab]) fun j h1 h2 => ?_
    rw [List.getElem_set]
    simp only [fLab, List.getElem_map, List.getElem_range]
    by_cases hj : i = j
    · rw [if_pos hj, if_pos hj.symm]
    · rw [if_neg hj, if_neg fun e => hj e.symm]
  rw [← e]
  exact this
theorem LB.congr {w : World} {G n : Nat} {f g : Nat → Nat} (h : LB w G n f) (k : ∀ i, i < n → f i = g i) : LB w G n g := by
  unfold LB at *
  rw [← fLab_congr k]
  exact h
theorem made_ints (n : Nat) : madeCells (Value.cells (.int .i64 0)) (n * 1) = (fLab n (fun _ => 0)).toArray := by
  rw [Nat.mul_one]
  refine Array.ext (by simp [madeCells, fLab]) fun j h5 h6 => ?_
  simp [madeCells, fLab, Value.cells, Nat.mod_one]
theorem make_ints (W : World) (n : Nat) (hn : n ≤ 100000) : (Instr.makeSlice 22 (.int .i64 (n : Int)) (.int .i64 (n : Int))).run Tryz.prog W = .ok (.slice (some ⟨W.heap.size, 0, none⟩) n n) (W.alloc (.cells (fLab n (fun _ => 0)).toArray 3)) := by
  obtain ⟨i, h1, h2, h3, h4⟩ := infoI_parts
  have := Go.run_makeSlice W 22 3 i (.int .i64 0) Tryz.underlying22 h1 h2 .i64 .i64 (n : Int) (n : Int) (by omega) (Int.le_refl _) (by rw [h3, Int.toNat_natCast]; omega) (by rw [h4]; omega) (by omega)
  rw [h3, Int.toNat_natCast, made_ints] at this
  exact this
theorem edg_next {ids : List Int} {ps : List (Int × Int)} {k : Nat} (h : k < ps.length) : edg ids (ps.take (k + 1)) = edg ids (ps.take k) ++ (if pos ids ps[k].1 < ids.length ∧ pos ids ps[k].2 < ids.length then [(pos ids ps[k].1, pos ids ps[k].2)] else []) := by
  unfold edg
  rw [List.take_succ_eq_append_getElem h, List.filterMap_append]
  congr 1
  simp only [List.filterMap_cons, List.filterMap_nil]
  split <;> rename_i h1
  · split at h1
    · cases h1
    · rename_i h2; rw [if_neg h2]
  · split at h1
    · rename_i h2; rw [if_pos h2]; injection h1 with h1; rw [h1]
    · cases h1
theorem rnd_app (a b : List (Nat × Nat)) (f : Nat → Nat) : rnd (a ++ b) f = rnd b (rnd a f) := by unfold rnd; rw [List.foldl_append]
theorem stp_two (f : Nat → Nat) (a b : Nat) : (fun j => if j = b then min (f a) (f b) else if j = a then min (f a) (f b) else f j) = stp f (a, b) := by
  funext j
  unfold stp
  by_cases h1 : j = a <;> by_cases h2 : j = b <;> simp [h1, h2]
theorem ix_cases (ids : List Int) (x : Int) : (¬ pos ids x < ids.length ∧ ixV ids x = -1) ∨ (pos ids x < ids.length ∧ ixV ids x = (pos ids x : Int)) := by
  unfold ixV
  by_cases h : pos ids x < ids.length
  · exact .inr ⟨h, if_pos h⟩
  · exact .inl ⟨h, if_neg h⟩
end
section
open Go.RowKit

theorem flat_const {α β : Type} (f : α → List β) (c : Nat) (h : ∀ x, (f x).length = c) : ∀ l : List α, (l.flatMap f).length = l.length * c
  | [] => by simp
  | x :: l => by rw [List.flatMap_cons, List.length_append, h, flat_const f c h l, List.length_cons, Nat.add_mul]; omega
theorem prs_len (s : List Nd) (k : List Ld) (lo m : Nat) : (prsV s k lo m).length = s.length * (m * 2) := by
  unfold prsV
  refine flat_const _ _ (fun x => ?_) s
  rw [flat_const _ 2 (fun _ => rfl), List.length_range]
theorem cmp_no {l : List Nd} {k : List Ld} {h : Int} (hn : ¬ (chkV l = 0 ∧ lvB h = true)) : cmpV l k h = [] := if_neg hn
end
end Go.Proofs.YtjokbdhineilcaaGreatDoor
