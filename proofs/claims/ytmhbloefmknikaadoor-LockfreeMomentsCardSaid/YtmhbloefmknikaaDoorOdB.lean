/-
  What LockfreeMoments keeps: two rows of truths, and the moments of the processes. Conditions: those of each.
-/
import Derived.Test.YtmhbloefmknikaaDoorOcA
import Derived.Test.YtmhbloefmknikaaDoorMaV
namespace Go.Proofs.YtmhbloefmknikaaDoor
open Go.RowKit Go.Maps
namespace Lf
open Lk
/-- What is known of each process. -/
def MomA (l : Ls) (m : Nat) (P Q : List Bool) : Prop := P.length = m ∧ Q.length = m ∧ ∀ j, j < m → MomL l j (P.getD j false) (Q.getD j false)
/-- The same, once the marks are brought up to date. -/
def Pre (L : Ls) (q m : Nat) (P Q : List Bool) : Prop := P.length = m ∧ Q.length = m ∧ ∀ j, j < m → MomL L j (mrk (decide (((L.pr j).phase ≠ 0 ∧ (L.pr j).phase ≠ 18) ∨ j = q)) (decide ((L.pr j).cell.toNat ∈ memV L)) (P.getD j false)) (mrk (decide (((L.pr j).phase ≠ 0 ∧ (L.pr j).phase ≠ 18) ∨ j = q)) (!decide ((L.pr j).cell.toNat ∈ memV L)) (Q.getD j false))
theorem momA_new {l : Ls} {n m : Nat} (h : Fresh l n m) : MomA l m (List.replicate m false) (List.replicate m false) :=
  ⟨List.length_replicate .., List.length_replicate .., fun j _ => Lf.mom_zero h.pr j⟩
theorem pre_step {l L : Ls} {q m : Nat} {P Q : List Bool} (h : Led l) (hm : l.ps.length = m) (hq : q < m) (e : stepV l q = some L) (k : MomA l m P Q) : Pre L q m P Q :=
  ⟨k.1, k.2.1, fun j hj => momL_step h (by omega) e (by omega) (k.2.2 j hj)⟩
theorem pre_stay {l : Ls} {q m : Nat} {P Q : List Bool} (k : MomA l m P Q) : Pre l q m P Q :=
  ⟨k.1, k.2.1, fun j hj => momL_stay (b := j = q) (k.2.2 j hj)⟩
theorem pre_beg {l : Ls} {q m : Nat} {P Q : List Bool} (h : Led l) (hm : l.ps.length = m) (hq : q < m) {kd c : Int} (hc : 2 ≤ c ∧ c < l.cs.length) (hB : Led (begV l q kd c)) (k : MomA l m P Q) : Pre (begV l q kd c) q m (P.set q false) (Q.set q false) := by
  refine ⟨by rw [List.length_set]; exact k.1, by rw [List.length_set]; exact k.2.1, fun j hj => ?_⟩
  rw [getD_set _ _ _ _ _ (by rw [k.1]; exact hq), getD_set _ _ _ _ _ (by rw [k.2.1]; exact hq)]
  refine momL_beg h (by omega) hc hB (by omega) (fun e => ?_)
  rw [if_neg e, if_neg e]; exact k.2.2 j hj
/-- The marks are up to date below j. -/
structure Prj (L : Ls) (P Q : List Bool) (m j : Nat) (Pj Qj : List Bool) : Prop where
  lp : Pj.length = m
  lq : Qj.length = m
  lo : ∀ i, i < j → i < m → MomL L i (Pj.getD i false) (Qj.getD i false)
  hi : ∀ i, j ≤ i → Pj.getD i false = P.getD i false ∧ Qj.getD i false = Q.getD i false
theorem Prj.zero {L : Ls} {P Q : List Bool} {m : Nat} (h1 : P.length = m) (h2 : Q.length = m) : Prj L P Q m 0 P Q := ⟨h1, h2, fun _ h => absurd h (Nat.not_lt_zero _), fun _ _ => ⟨rfl, rfl⟩⟩
theorem Prj.next {L : Ls} {P Q : List Bool} {q m j : Nat} {Pj Qj : List Bool} (pre : Pre L q m P Q) (h : Prj L P Q m j Pj Qj) (hj : j < m) {a H : Bool} {x : Po} (hx : x = L.pr j) (ha : a = decide ((x.phase ≠ 0 ∧ x.phase ≠ 18) ∨ j = q)) (hH : H = decide (x.cell.toNat ∈ memV L)) : Prj L P Q m (j + 1) (Pj.set j (mrk a H (Pj.getD j false))) (Qj.set j (mrk a (!H) (Qj.getD j false))) := by
  have e1 : ∀ (i : Nat) (z : Bool), (Pj.set j z).getD i false = if i = j then z else Pj.getD i false := fun i z => getD_set _ _ _ _ _ (by rw [h.lp]; exact hj)
  have e2 : ∀ (i : Nat) (z : Bool), (Qj.set j z).getD i false = if i = j then z else Qj.getD i false := fun i z => getD_set _ _ _ _ _ (by rw [h.lq]; exact hj)
  refine ⟨by rw [List.length_set]; exact h.lp, by rw [List.length_set]; exact h.lq, fun i hi him => ?_, fun i hi => ?_⟩
  · rw [e1, e2]
    by_cases eij : i = j
    · subst eij
      rw [if_pos rfl, if_pos rfl, (h.hi i (Nat.le_refl _)).1, (h.hi i (Nat.le_refl _)).2, ha, hH, hx]
      exact pre.2.2 i him
    · rw [if_neg eij, if_neg eij]
      exact h.lo i (by omega) him
  · rw [e1, e2, if_neg (by omega), if_neg (by omega)]
    exact h.hi i (by omega)
theorem Prj.done {L : Ls} {P Q : List Bool} {m : Nat} {Pj Qj : List Bool} (h : Prj L P Q m m Pj Qj) : MomA L m Pj Qj := ⟨h.lp, h.lq, fun j hj => h.lo j hj hj⟩
/-- What a process that is done tells. -/
theorem momL_done {L : Ls} {j : Nat} {w q : Bool} {x : Po} (v : Vlf L) (hj : j < L.ps.length) (hx : x = L.pr j) (h : MomL L j w q) (hd : x.phase = 18) : (x.kind = 2 → x.res = false → q = true) ∧ (x.kind = 3 → (x.res = true → w = true) ∧ (x.res = false → q = true)) := by
  rw [hx] at hd ⊢
  exact Lf.mom_end v hj h hd
/-- What a round keeps. -/
def MoR (w1 : World) (B lo g : Nat) (l : Ls) (n m G1 G2 d1 d2 WB MB : Nat) (P Q : List Bool) (wx : World) : Prop := HoL wx B lo l n m G1 G2 d1 d2 ∧ TStep w1 g wx ∧ MutR brow 1 4 wx WB m P ∧ MutR brow 1 4 wx MB m Q
/-- What Start or Step leaves. -/
def MoT (w1 : World) (B lo g q n m WB MB : Nat) (wx : World) : Prop := ∃ (L : Ls) (K1 K2 f1 f2 : Nat) (Pt Qt : List Bool), HoL wx B lo L n m K1 K2 f1 f2 ∧ TStep w1 g wx ∧ MutR brow 1 4 wx WB m Pt ∧ MutR brow 1 4 wx MB m Qt ∧ Hid (Led L) ∧ Hid (Pre L q m Pt Qt) ∧ Hid ((K1 ≠ WB ∧ K1 ≠ MB) ∧ K2 ≠ WB ∧ K2 ≠ MB)
end Lf
end Go.Proofs.YtmhbloefmknikaaDoor
