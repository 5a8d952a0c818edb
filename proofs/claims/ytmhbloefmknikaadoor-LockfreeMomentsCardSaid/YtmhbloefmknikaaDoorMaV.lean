/-
  What LockedMoments keeps: two rows of truths, and the moments of the processes. Conditions: those of each.
-/
import Derived.Test.YtmhbloefmknikaaDoorMaU
namespace Go.Proofs.YtmhbloefmknikaaDoor
open Go.RowKit Go.Maps
namespace Lk
theorem two_bools (W : World) (m : Nat) (hm : m ≤ 4) : MutR brow 1 4 ((W.alloc (.cells (bc m) 4)).alloc (.cells (bc m) 4)).drew W.heap.size m (List.replicate m false) ∧ MutR brow 1 4 ((W.alloc (.cells (bc m) 4)).alloc (.cells (bc m) 4)).drew (W.heap.size + 1) m (List.replicate m false) ∧ Below W.heap.size W ((W.alloc (.cells (bc m) 4)).alloc (.cells (bc m) 4)).drew := by
  have b1 := (Below.refl W.heap.size W).alloc (Nat.le_refl _) (.cells (bc m) 4)
  have b2 := ((Below.refl (W.alloc (.cells (bc m) 4)).heap.size _).alloc (Nat.le_refl _) (.cells (bc m) 4)).drew
  have h1 := bools_mut W m hm
  have h2 := bools_mut (W.alloc (.cells (bc m) 4)) m hm
  rw [World.size_alloc] at h2
  exact ⟨h1.below b2, h2.keep rfl, b1.trans (b2.mono b1.size)⟩
theorem set_getD {D : List Bool} {j : Nat} (h : j < D.length) : D.set j (D.getD j false) = D := by
  rw [List.getD_eq_getElem?_getD, List.getElem?_eq_getElem h]
  exact List.set_getElem_self h
theorem rdr_far1 {α : Type} {enc : α → List Value} {k lo : Nat} {w : World} {A : Option Addr} {l : List α} (h : RdR enc k w lo A l) {p : Addr} (hp : p.block < lo) (v : Value) : RdR enc k (w.setCell p v) lo A l :=
  have k2 := (But.refl (X := p.block) (a := w)).set (p := p) rfl v
  RdR.keep h k2.size fun i h1 h2 => k2.block i h2 (by omega)
/-- What is known of each process. -/
def MomA (l : Ls) (m : Nat) (P Q : List Bool) : Prop := P.length = m ∧ Q.length = m ∧ ∀ j, j < m → MomL l j (P.getD j false) (Q.getD j false)
/-- The same, once the marks are brought up to date. -/
def Pre (L : Ls) (q m : Nat) (P Q : List Bool) : Prop := P.length = m ∧ Q.length = m ∧ ∀ j, j < m → MomL L j (mrk (decide (((L.pr j).phase ≠ 0 ∧ (L.pr j).phase ≠ 18) ∨ j = q)) (decide ((L.pr j).cell.toNat ∈ memV L)) (P.getD j false)) (mrk (decide (((L.pr j).phase ≠ 0 ∧ (L.pr j).phase ≠ 18) ∨ j = q)) (!decide ((L.pr j).cell.toNat ∈ memV L)) (Q.getD j false))
theorem momA_new {l : Ls} {n m : Nat} (h : Fresh l n m) : MomA l m (List.replicate m false) (List.replicate m false) :=
  ⟨List.length_replicate .., List.length_replicate .., fun j _ => by
    unfold MomL
    show Mom _ _ (toPr (l.pr j)) _ _
    rw [h.pr j]
    exact mom_zero⟩
theorem pre_step {l L : Ls} {q m : Nat} {P Q : List Bool} (h : Led l) (hm : l.ps.length = m) (hq : q < m) (e : stepV l q = some L) (k : MomA l m P Q) : Pre L q m P Q :=
  ⟨k.1, k.2.1, fun j hj => momL_step h (by omega) e (by omega) (k.2.2 j hj)⟩
theorem pre_stay {l : Ls} {q m : Nat} {P Q : List Bool} (h : Led l) (hm : l.ps.length = m) (k : MomA l m P Q) : Pre l q m P Q :=
  ⟨k.1, k.2.1, fun j hj => momL_stay h (by omega : j < l.ps.length) (b := j = q) (k.2.2 j hj)⟩
theorem pre_beg {l : Ls} {q m : Nat} {P Q : List Bool} (h : Led l) (hm : l.ps.length = m) (hq : q < m) {kd c : Int} (hc : 2 ≤ c ∧ c < l.cs.length) (k : MomA l m P Q) : Pre (begV l q kd c) q m (P.set q false) (Q.set q false) := by
  refine ⟨by rw [List.length_set]; exact k.1, by rw [List.length_set]; exact k.2.1, fun j hj => ?_⟩
  rw [getD_set _ _ _ _ _ (by rw [k.1]; exact hq), getD_set _ _ _ _ _ (by rw [k.2.1]; exact hq)]
  refine momL_beg h (by omega) hc (by omega) (fun e => ?_) (fun e => ?_)
  · rw [if_neg e, if_neg e]; exact k.2.2 j hj
  · rw [if_pos e, if_pos e]; exact ⟨rfl, rfl⟩
/-- The marks are up to date below j. -/
structure Prj (L : Ls) (P Q : List Bool) (m j : Nat) (Pj Qj : List Bool) : Prop where
  lp : Pj.length = m
  lq : Qj.length = m
  lo : ∀ i, i < j → i < m → MomL L i (Pj.getD i false) (Qj.getD i false)
  hi : ∀ i, j ≤ i → Pj.getD i false = P.getD i false ∧ Qj.getD i false = Q.getD i false
theorem Prj.zero {L : Ls} {P Q : List Bool} {m : Nat} (h1 : P.length = m) (h2 : Q.length = m) : Prj L P Q m 0 P Q := ⟨h1, h2, fun _ h => absurd h (Nat.not_lt_zero _), fun _ _ => ⟨rfl, rfl⟩⟩
theorem Prj.next {L : Ls} {P Q : List Bool} {q m j : Nat} {Pj Qj : List Bool} (pre : Pre L q m P Q) (h : Prj L P Q m j Pj Qj) (hj : j < m) {a H : Bool} {x : Po} (hx : x = L.pr j) (ha : a = decide ((x.phase ≠ 0 ∧ x.phase ≠ 18) ∨ j = q)) (hH : H = decide (x.cell.toNat ∈ memV L)) : Prj L P Q m (j + 1) (Pj.set j (mrk a H (Pj.getD j false))) (Qj.set j (mrk a (!H) (Qj.getD j false))) := by
  have e1 : ∀ (i : Nat) (z : Bool), (Pj.set j z).getD i false = if i = j then z else Pj.getD i false := fun i z => getD_set _ _ _ _ _ (by rw [h.lp]; exact hj)
  have e2 : ∀ (i : Nat) (z : Bool), (Qj.set j z).getD i false = if i = j then z else Qj.getD i false := fun i z => getD_set _ _ _ _ _ (by rw [h.lq]; exact hj)
  refine ⟨by rw [List.length_set]; exact h.lp, by rw [List.length_set]; exact h.lq, fun i hi him => ?_, fun i hi => ?_⟩
  · rw [e1, e2]
    by_cases eij : i = j
    · subst eij
      rw [if_pos rfl, if_pos rfl, (h.hi i (Nat.le_refl _)).1, (h.hi i (Nat.le_refl _)).2, ha, hH, hx]
      exact pre.2.2 i him
    · rw [if_neg eij, if_neg eij]
      exact h.lo i (by omega) him
  · rw [e1, e2, if_neg (by omega), if_neg (by omega)]
    exact h.hi i (by omega)
theorem Prj.done {L : Ls} {P Q : List Bool} {m : Nat} {Pj Qj : List Bool} (h : Prj L P Q m m Pj Qj) : MomA L m Pj Qj := ⟨h.lp, h.lq, fun j hj => h.lo j hj hj⟩
/-- What a process that is done tells. -/
theorem momL_done {L : Ls} {j : Nat} {w q : Bool} {x : Po} (hx : x = L.pr j) (h : MomL L j w q) (hd : x.phase = 18) : (x.kind = 1 → x.res = false → w = true) ∧ (x.kind = 2 → x.res = false → q = true) ∧ (x.kind = 3 → (x.res = true → w = true) ∧ (x.res = false → q = true)) := by
  have hph : ((toSt L).p j).ph = .done := by show phOf (L.pr j).phase = _; rw [← hx, hd]; rfl
  obtain ⟨e1, e2, e3⟩ := mom_end h hph
  have hki : ((toSt L).p j).kind = kdOf x.kind := by rw [hx]; rfl
  have hre : ((toSt L).p j).res = x.res := by rw [hx]; rfl
  rw [hki, hre] at e1 e2 e3
  exact ⟨fun k => e1 ((kd_ins _).2 k), fun k => e2 ((kd_rem _).2 k), fun k => e3 ((kd_fnd _).2 k)⟩
/-- What a round keeps. -/
def MoR (w1 : World) (B lo g : Nat) (l : Ls) (n m G1 G2 d1 d2 WB MB : Nat) (P Q : List Bool) (wx : World) : Prop := HoL wx B lo l n m G1 G2 d1 d2 ∧ TStep w1 g wx ∧ MutR brow 1 4 wx WB m P ∧ MutR brow 1 4 wx MB m Q
theorem MoR.but {w1 w6 wx : World} {B lo g : Nat} {l : Ls} {n m G1 G2 d1 d2 X WB MB : Nat} {P Q : List Bool} (h1 : HoL w6 B lo l n m G1 G2 d1 d2) (h3 : TStep w1 g w6) (h4 : MutR brow 1 4 w6 WB m P) (h5 : MutR brow 1 4 w6 MB m Q) (v : Vld l) (hX : B + 1 ≤ X) (g1 : G1 < X) (g2 : G2 < X) (hW : WB < X) (hM : MB < X) (hB : w1.heap.size ≤ B) (hg : g < w1.heap.size) (k : But X w6 wx) : MoR w1 B lo g l n m G1 G2 d1 d2 WB MB P Q wx :=
  ⟨k.hol h1 v (by omega) (by omega) (by omega), tover h3 hg (k.below (by omega) h3.2.size), MutR.keep h4 (k.block WB h4.lt (by omega)), MutR.keep h5 (k.block MB h5.lt (by omega))⟩
/-- What Start or Step leaves. -/
def MoT (w1 : World) (B lo g q n m WB MB : Nat) (wx : World) : Prop := ∃ (L : Ls) (K1 K2 f1 f2 : Nat) (Pt Qt : List Bool), HoL wx B lo L n m K1 K2 f1 f2 ∧ TStep w1 g wx ∧ MutR brow 1 4 wx WB m Pt ∧ MutR brow 1 4 wx MB m Qt ∧ Hid (Led L) ∧ Hid (Pre L q m Pt Qt) ∧ Hid ((K1 ≠ WB ∧ K1 ≠ MB) ∧ K2 ≠ WB ∧ K2 ≠ MB)
/-- StRel, and the box is not the tape. -/
def StRg (R : World → Prop) (l : Ls) (q n m lo g : Nat) (s1 s2 : Value) (wx : World) : Prop := ∃ (X : Nat) (E kd c : Int) (P1 P2 : Option Addr) (a1 a2 f1 f2 : Nat), s1 = .pointer (some ⟨X, 0, none⟩) ∧ s2 = .int .i64 E ∧ X ≠ g ∧ wx.cell? ⟨X, 0, none⟩ = some (.slice P1 a1 f1) ∧ wx.cell? ⟨X, 1, none⟩ = some (.slice P2 a2 f2) ∧ R wx ∧ Hid (E = staE l (q : Int) kd c) ∧ Hid (E = 0 → ∃ K1 K2, P1 = some ⟨K1, 0, none⟩ ∧ P2 = some ⟨K2, 0, none⟩ ∧ n = a1 ∧ m = a2 ∧ RdL wx lo (some ⟨K1, 0, none⟩) (some ⟨K2, 0, none⟩) (begV l q kd c))
theorem StRg.mk {R : World → Prop} {l : Ls} {q n m lo base X g : Nat} {E kd c : Int} {P1 P2 : Option Addr} {a1 a2 f1 f2 : Nat} {w6 wx : World} (hE : E = staE l (q : Int) kd c) (hok : E = 0 → ∃ G1 G2, P1 = some ⟨G1, 0, none⟩ ∧ P2 = some ⟨G2, 0, none⟩ ∧ a1 = n ∧ a2 = m ∧ RdL w6 base (some ⟨G1, 0, none⟩) (some ⟨G2, 0, none⟩) (begV l ((q : Int)).toNat kd c)) (hb : lo ≤ base) (hR : But X w6 wx → R wx) (k : But X w6 wx) (h0 : wx.cell? ⟨X, 0, none⟩ = some (.slice P1 a1 f1)) (h1 : wx.cell? ⟨X, 1, none⟩ = some (.slice P2 a2 f2)) (hX : X < base ∨ w6.heap.size ≤ X) (hg : X ≠ g) : StRg R l q n m lo g (.pointer (some ⟨X, 0, none⟩)) (.int .i64 E) wx := by
  obtain ⟨X, E, kd, c, P1, P2, a1, a2, f1, f2, e1, e2, h⟩ := StRel.mk (n := n) (m := m) hE hok hb hR k h0 h1 hX
  cases e1
  exact ⟨X, E, kd, c, P1, P2, a1, a2, f1, f2, rfl, e2, hg, h⟩
end Lk
end Go.Proofs.YtmhbloefmknikaaDoor
