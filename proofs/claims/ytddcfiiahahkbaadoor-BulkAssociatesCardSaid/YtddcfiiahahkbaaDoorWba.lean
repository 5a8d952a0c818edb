/-
  The walk of BulkAssociates: from whatever numbers it answers true and only makes memory. Conditions: the arguments can be read; 'letters' is as its initialiser lays it.
-/
import Derived.Test.YtddcfiiahahkbaaDoorLvK
import Derived.Test.YtddcfiiahahkbaaDoorLnC
import Derived.Test.YtddcfiiahahkbaaDoorLgJ
import Derived.Test.YtddcfiiahahkbaaDoorKhU
import Derived.Test.YtddcfiiahahkbaaDoorLdX
import Derived.Deep.DeepCutAuto
import Derived.Deep.CutBlock
import Derived.Deep.RegionHeld3
import Derived.Deep.RegionLaw
namespace Go.Proofs.YtddcfiiahahkbaaDoor
open Go.RowKit

theorem chk_perm {l m : List Nd} (h : m.Perm l) (hc : chkV l = 0) : chkV m = 0 := by
  obtain ⟨h1, h2, h3⟩ := chkV_zero.1 hc
  exact chkV_zero.2 ⟨by rw [h.length_eq]; exact h1, List.all_eq_true.2 fun x hx => List.all_eq_true.1 h2 x (h.mem_iff.1 hx), (h.pairwise_iff Nd.apart.symm).2 h3⟩
/-- Three rows of nodes in an array. -/
structure Tri (w : World) (base P : Nat) (v : Nat → Value) (ls : Nat → List Nd) : Prop where
  arr : Has w P 53 #[v 0, v 1, v 2]
  own : ∀ i, i < 3 → OwnN w base (v i) (ls i)
  dis : ∀ i j, i < 3 → j < 3 → i ≠ j → Dis (v i) (v j)
def updT {α : Type} (v : Nat → α) (n : Nat) (u : α) : Nat → α := fun i => if i = n then u else v i
theorem Tri.below {w w' : World} {base P : Nat} {v : Nat → Value} {ls : Nat → List Nd} (h : Tri w base P v ls) (k : Below w.heap.size w w') : Tri w' base P v ls := ⟨h.arr.below k, fun i hi => (h.own i hi).below k, h.dis⟩
theorem Tri.step {w w' : World} {base P g : Nat} {v : Nat → Value} {ls : Nat → List Nd} (h : Tri w base P v ls) (hg : g < base) (hP : P ≠ g) (k : TStep w g w') : Tri w' base P v ls := ⟨(k.2.block P h.arr.lt (fun e => hP (Option.some.inj e))).trans h.arr, fun i hi => (h.own i hi).step hg k, h.dis⟩
theorem Tri.cell {w : World} {base P : Nat} {v : Nat → Value} {ls : Nat → List Nd} (h : Tri w base P v ls) {n : Nat} (hn : n < 3) : w.cell? ⟨P, n, none⟩ = some (v n) := by
  have h3 : n = 0 ∨ n = 1 ∨ n = 2 := by omega
  rcases h3 with rfl | rfl | rfl
  · exact h.arr.cell 0
  · exact h.arr.cell 1
  · exact h.arr.cell 2
/-- A row of the array that was appended to is put back. -/
theorem Tri.put {w w' : World} {base P n : Nat} {v : Nat → Value} {ls : Nat → List Nd} (h : Tri w base P v ls) (hP : P < base) (hn : n < 3) {u : Value} {l : List Nd} (hu : OwnN w' base u l) (hg : w.grownBy w' (v n).ownBlock) (hat : u.ownBlock = (v n).ownBlock ∨ ∃ k, w.heap.size ≤ k ∧ u.ownBlock = some k) : Tri (w'.setCell ⟨P, n, none⟩ u) base P (updT v n u) (updT ls n l) := by
  have hfar : ∀ i, base ≤ i → (w'.setCell ⟨P, n, none⟩ u).heap[i]? = w'.heap[i]? := fun i hi => Below.heap_setCell w' _ u i (show i ≠ P by omega)
  have hPb : w'.heap[P]? = w.heap[P]? := hg.block P h.arr.lt (fun e => by have := ((h.own n hn).lt P e.symm).1; omega)
  have harr : Has w' P 53 #[v 0, v 1, v 2] := hPb.trans h.arr
  refine ⟨?_, fun i hi => ?_, fun i j hi hj hij => ?_⟩
  · have h4 := harr.set_ n u
    have h3 : n = 0 ∨ n = 1 ∨ n = 2 := by omega
    rcases h3 with rfl | rfl | rfl <;> exact h4
  · unfold updT
    by_cases e : i = n
    · subst e
      simp only [if_true]
      exact hu.keep fun i hi _ => hfar i hi
    · simp only [if_neg e]
      exact ((h.own i hi).kept hg (h.dis i n hi hn e)).keep fun i hi _ => hfar i hi
  · unfold updT
    by_cases ei : i = n
    · subst ei
      simp only [if_true, if_neg (Ne.symm hij)]
      exact ((h.dis j i hj hi (Ne.symm hij)).grow (h.own j hj) hat).symm
    · by_cases ej : j = n
      · subst ej
        simp only [if_true, if_neg ei]
        exact (h.dis i j hi hj hij).grow (h.own i hi) hat
      · simp only [if_neg ei, if_neg ej]
        exact h.dis i j hi hj hij
theorem OwnN.form {w : World} {base : Nat} {v : Value} {l : List Nd} (h : OwnN w base v l) : ∃ A k c, v = .slice A k c := by
  obtain ⟨A, c, e, _⟩ := h.read
  exact ⟨A, _, c, e⟩
theorem tri_perm {ls : Nat → List Nd} {n : Nat} (hn : n < 3) (x : Nd) {l : List Nd} (h : (ls 0 ++ (ls 1 ++ ls 2)).Perm l) : (updT ls n (ls n ++ [x]) 0 ++ (updT ls n (ls n ++ [x]) 1 ++ updT ls n (ls n ++ [x]) 2)).Perm (l ++ [x]) := by
  have h3 : n = 0 ∨ n = 1 ∨ n = 2 := by omega
  refine List.Perm.trans ?_ (h.append_right [x])
  unfold updT
  rcases h3 with rfl | rfl | rfl
  · simp only [if_true, show ¬ (1 : Nat) = 0 by omega, show ¬ (2 : Nat) = 0 by omega, if_false]
    rw [List.append_assoc, List.append_assoc]
    exact List.Perm.append_left _ List.perm_append_comm
  · simp only [if_true, show ¬ (0 : Nat) = 1 by omega, show ¬ (2 : Nat) = 1 by omega, if_false]
    rw [List.append_assoc, List.append_assoc, List.append_assoc]
    exact List.Perm.append_left _ (List.Perm.append_left _ List.perm_append_comm)
  · simp only [if_true, show ¬ (0 : Nat) = 2 by omega, show ¬ (1 : Nat) = 2 by omega, if_false]
    rw [List.append_assoc, List.append_assoc]
/-- Links in an array: the ones of a place. -/
def LkJ (w : World) (K j : Nat) (R : List Ld) : Prop := ∃ G H, w.cell? ⟨K, j, none⟩ = some (.slice (some ⟨G, 0, none⟩) R.length R.length) ∧ K < G ∧ DBlk w G H R []
theorem LkJ.below {w w' : World} {K j : Nat} {R : List Ld} (h : LkJ w K j R) (k : Below w.heap.size w w') : LkJ w' K j R := by
  obtain ⟨G, H, h1, h2, h3⟩ := h
  exact ⟨G, H, (k.cell (p := ⟨K, j, none⟩) (World.block_lt_of_cell? w _ h1)).trans h1, h2, h3.below k⟩
theorem DBlk.above {w w' : World} {G : Nat} {H : Nat → Nat} {ls : List Ld} {r : List (Int × Value)} (h : DBlk w G H ls r) (k : ∀ i, G ≤ i → w'.heap[i]? = w.heap[i]?) : DBlk w' G H ls r :=
  ⟨(k G (Nat.le_refl _)).trans h.outer, fun j hj => ⟨(h.inner j hj).1, (k (H j) (Nat.le_of_lt (h.inner j hj).1)).trans (h.inner j hj).2⟩, h.mono⟩
theorem LkJ.other {w : World} {K j i : Nat} {R : List Ld} {u : Value} (h : LkJ w K j R) (hij : j ≠ i) : LkJ (w.setCell ⟨K, i, none⟩ u) K j R := by
  obtain ⟨G, H, h1, h2, h3⟩ := h
  refine ⟨G, H, ?_, h2, h3.above fun b hb => Below.heap_setCell w _ u b (show b ≠ K by omega)⟩
  rw [World.cell?_setCell_other _ _ _ _ (by intro e; simp only [Addr.mk.injEq] at e; omega)]
  exact h1
theorem LkJ.drew {w : World} {K j : Nat} {R : List Ld} (h : LkJ w K j R) : LkJ w.drew K j R := h.below (Below.refl _ _).drew
theorem Tri.grown {w w' : World} {base P K : Nat} {v : Nat → Value} {ls : Nat → List Nd} (h : Tri w base P v ls) (hg : w.grownBy w' (some K)) (hP : P ≠ K) (hK : K < base) : Tri w' base P v ls :=
  ⟨(hg.block P h.arr.lt (fun e => hP (Option.some.inj e))).trans h.arr, fun i hi => (h.own i hi).keep fun b hb hl => hg.block b hl (fun e => by have := Option.some.inj e; omega), h.dis⟩
def ArrK (w : World) (K : Nat) : Prop := ∃ u0 u1 u2, Has w K 54 #[u0, u1, u2]
theorem ArrK.below {w w' : World} {K : Nat} (h : ArrK w K) (k : Below w.heap.size w w') : ArrK w' K := by
  obtain ⟨u0, u1, u2, h⟩ := h
  exact ⟨u0, u1, u2, h.below k⟩
theorem ArrK.cell {w : World} {K n : Nat} (h : ArrK w K) (hn : n < 3) : (∃ u, w.cell? ⟨K, n, none⟩ = some u) ∧ w.frozen? ⟨K, n, none⟩ = false := by
  obtain ⟨u0, u1, u2, h⟩ := h
  refine ⟨?_, h.frozen n⟩
  have h3 : n = 0 ∨ n = 1 ∨ n = 2 := by omega
  rcases h3 with rfl | rfl | rfl
  · exact ⟨_, h.cell 0⟩
  · exact ⟨_, h.cell 1⟩
  · exact ⟨_, h.cell 2⟩
theorem ArrK.put {w : World} {K n : Nat} (h : ArrK w K) (hn : n < 3) (u : Value) : ArrK (w.setCell ⟨K, n, none⟩ u) K := by
  obtain ⟨u0, u1, u2, h⟩ := h
  have h4 := h.set_ n u
  have h3 : n = 0 ∨ n = 1 ∨ n = 2 := by omega
  rcases h3 with rfl | rfl | rfl <;> exact ⟨_, _, _, h4⟩
theorem ArrK.lt {w : World} {K : Nat} (h : ArrK w K) : K < w.heap.size := by
  obtain ⟨u0, u1, u2, h⟩ := h
  exact h.lt
/-- The three rows and the three links, as they are read. -/
structure As3 (w : World) (P K : Nat) (A0 A1 A3 : Option Addr) (l0 l1 l2 : List Nd) (c0 c1 c3 : Nat) (G0 G1 G2 : Nat) (r0 r1 r2 : List Ld) : Prop where
  p0 : w.cell? ⟨P, 0, none⟩ = some (.slice A0 l0.length c0)
  p1 : w.cell? ⟨P, 1, none⟩ = some (.slice A1 l1.length c1)
  p2 : w.cell? ⟨P, 2, none⟩ = some (.slice A3 l2.length c3)
  k0 : w.cell? ⟨K, 0, none⟩ = some (.slice (some ⟨G0, 0, none⟩) r0.length r0.length)
  k1 : w.cell? ⟨K, 1, none⟩ = some (.slice (some ⟨G1, 0, none⟩) r1.length r1.length)
  k2 : w.cell? ⟨K, 2, none⟩ = some (.slice (some ⟨G2, 0, none⟩) r2.length r2.length)
  n0 : Nds w w.heap.size A0 l0
  n1 : Nds w w.heap.size A1 l1
  n2 : Nds w w.heap.size A3 l2
  d0 : Lds w w.heap.size (some ⟨G0, 0, none⟩) r0
  d1 : Lds w w.heap.size (some ⟨G1, 0, none⟩) r1
  d2 : Lds w w.heap.size (some ⟨G2, 0, none⟩) r2
theorem cell_below {w w' : World} {p : Addr} {v : Value} (h : w.cell? p = some v) (k : Below w.heap.size w w') : w'.cell? p = some v := (k.cell (p := p) (World.block_lt_of_cell? w _ h)).trans h
theorem As3.below {w w' : World} {P K : Nat} {A0 A1 A3 : Option Addr} {l0 l1 l2 : List Nd} {c0 c1 c3 : Nat} {G0 G1 G2 : Nat} {r0 r1 r2 : List Ld} (h : As3 w P K A0 A1 A3 l0 l1 l2 c0 c1 c3 G0 G1 G2 r0 r1 r2) (k : Below w.heap.size w w') : As3 w' P K A0 A1 A3 l0 l1 l2 c0 c1 c3 G0 G1 G2 r0 r1 r2 :=
  ⟨cell_below h.p0 k, cell_below h.p1 k, cell_below h.p2 k, cell_below h.k0 k, cell_below h.k1 k, cell_below h.k2 k, (h.n0.below k).more k.size, (h.n1.below k).more k.size, (h.n2.below k).more k.size, (h.d0.below k).more k.size, (h.d1.below k).more k.size, (h.d2.below k).more k.size⟩
set_option maxRecDepth 100000 in
set_option maxHeartbeats 3200000 in
theorem associates_walk (A : Option Addr) (n0 cp : Nat) (w : World) (hL : Lets w) (hnc : n0 ≤ cp) (hc : cp ≤ maxLen) (hN : Nums w w.heap.size A n0) :
    Calls Tryd.prog 6 #[.slice A n0 cp] w (LawP w) := by
  have HSA := Lib.hid (fun (W : World) => sane9_any W)
  obtain ⟨inf, hif, hif1, hif2, hif3⟩ := infoN_parts
  go_enter Tryd.func6, Tryd.ntmps6
  go_wp2_with fail
  refine (new_any A n0 cp _ hnc hc hN).mono ?_
  rintro e w1 ⟨g, hg1, rfl, hTp, hb1⟩
  have hne2 : 0 ≠ g := by have := hL.lt; omega
  have l1 := hL.below hb1
  clear hN hnc hc hL
  go_wp2_with fail
  refine (roster_any 9 g w1 (by omega) (by omega) hTp l1 hne2).mono ?_
  rintro e w2 ⟨A2, c2, l, rfl, ho, hl9, hwd, hchk, hst⟩
  have HB2 := Lib.hid (hb1.grown hst.2 hb1.size (fun j e => by have := Option.some.inj e; omega) : Below w.heap.size w w2)
  obtain ⟨_, _, er, hnd⟩ := ho.read
  injection er with e1 e3 e2
  clear e3
  subst e1 e2
  have hg2 : g < w1.heap.size := hTp.lt
  have hgw2 : g < w2.heap.size := by have := hst.2.size; omega
  have hA2 : ∀ b o, A2 = some ⟨b, o, none⟩ → b ≠ g := fun b o e => by
    have := (ho.lt b (by rw [e]; rfl)).1
    omega
  have HN2 := Lib.hid (fun (W : World) (k : TStep w2 g W) => nds_step hnd hA2 k)
  have HT2 := Lib.hid (TStep.refl hst.1)
  have HPB := Lib.hid (fun (W : World) (k : TStep w2 g W) => (HB2.out.grown k.2 HB2.out.size (fun j e => by have := Option.some.inj e; omega) : Below w.heap.size w W))
  have HCK := Lib.hid hchk
  obtain ⟨N, hNn⟩ : ∃ N, N = l.length := ⟨_, rfl⟩
  have HNN := Lib.hid hNn
  rw [← hNn] at hl9 ⊢
  clear ho hnd hst hb1 l1 hTp hwd hchk hNn hne2
  go_wp2_with fail
  refine (next_any g 4 w2 HT2.out.1 (by omega)).mono ?_
  rintro e w3 ⟨r, r0, r1, rfl, hst3⟩
  obtain ⟨m, rfl⟩ : ∃ m : Nat, r = (m : Int) := ⟨r.toNat, by omega⟩
  have hm : m ≤ 3 := by omega
  have HT3 := Lib.hid hst3
  have hP0 := Has.new w3 53 #[.slice none 0 0, .slice none 0 0, .slice none 0 0]
  have hbP := (Below.refl w3.heap.size w3).alloc (Nat.le_refl _) (.cells #[.slice none 0 0, .slice none 0 0, .slice none 0 0] 53)
  have hP1 := Has.new (w3.alloc (.cells #[.slice none 0 0, .slice none 0 0, .slice none 0 0] 53)) 54 #[.slice none 0 0, .slice none 0 0, .slice none 0 0]
  have hbK := hbP.alloc hbP.size (.cells #[.slice none 0 0, .slice none 0 0, .slice none 0 0] 54)
  clear r0 r1 hst3 HT2
  go_upto_region 5 with fail
  have HP0 := Lib.hid (hP0.below (((Below.refl _ _).alloc (Nat.le_refl _) (.cells #[.slice none 0 0, .slice none 0 0, .slice none 0 0] 54)) : Below (w3.alloc (.cells #[.slice none 0 0, .slice none 0 0, .slice none 0 0] 53)).heap.size _ _))
  have HP1 := Lib.hid hP1
  have HBK := Lib.hid hbK
  have hsz : ((w3.alloc (.cells #[.slice none 0 0, .slice none 0 0, .slice none 0 0] 53)).alloc (.cells #[.slice none 0 0, .slice none 0 0, .slice none 0 0] 54)).heap.size = w3.heap.size + 2 := by rw [World.size_alloc, World.size_alloc]
  have hKe : (w3.alloc (.cells #[.slice none 0 0, .slice none 0 0, .slice none 0 0] 53)).heap.size = w3.heap.size + 1 := by rw [World.size_alloc]
  rw [hKe] at HP1
  obtain ⟨P, hP⟩ : ∃ P, P = w3.heap.size := ⟨_, rfl⟩
  rw [← hP] at HP0 HP1 hsz ⊢
  have HT5 := Lib.hid (HT3.out.below HBK.out)
  have hPg : P ≠ g := by have := HT3.out.1.lt; omega
  have hgP : g < P := by have := HT3.out.1.lt; omega
  have hPw : w2.heap.size ≤ P := by rw [hP]; exact HT3.out.2.size
  generalize ((w3.alloc (.cells #[.slice none 0 0, .slice none 0 0, .slice none 0 0] 53)).alloc (.cells #[.slice none 0 0, .slice none 0 0, .slice none 0 0] 54)) = W5 at *
  have HTR0 : Hid (Tri W5 (P + 2) P (fun _ => .slice none 0 0) (fun _ => [])) := Lib.hid ⟨HP0.out, fun _ _ => OwnN.nil _ _, fun _ _ _ _ _ => Dis.nil _⟩
  clear hP0 hP1 hbP hbK hKe hP HBK HP0 HT3
  go_wp2_with fail
  go_loopw [8] (fun vi wr => ∃ (i : Nat) (v : Nat → Value) (ls : Nat → List Nd), vi = .int .i64 (i : Int) ∧ i ≤ N ∧ Tri wr (P + 2) P v ls ∧ Hid ((ls 0 ++ (ls 1 ++ ls 2)).Perm (l.take i)) ∧ TStep w2 g wr ∧ Has wr (P + 1) 54 #[.slice none 0 0, .slice none 0 0, .slice none 0 0] ∧ P + 2 ≤ wr.heap.size) (fun vi _ => N - (intOf vi).toNat)
  case atStart => exact ⟨0, _, _, rfl, by omega, HTR0.out, Lib.hid (by simp), HT5.out, HP1.out, by omega⟩
  case round =>
    clear HTR0 HT5 HP1 hsz
    obtain ⟨i, v, ls, rfl, hi, hT, HPM, hTS, hK, hsz⟩ := hrel
    by_cases hlt : i < N
    · have k1 : i < l.length := by rw [← HNN.out]; exact hlt
      have HT := Lib.hid hT
      have HK := Lib.hid hK
      have HTS := Lib.hid hTS
      clear hT hK hTS
      go_wp2_with fail
      refine (next_any g 3 wr HTS.out.1 (by omega)).mono ?_
      rintro e w6 ⟨r, r0, r1, rfl, hst6⟩
      obtain ⟨n, rfl⟩ : ∃ m : Nat, r = (m : Int) := ⟨r.toNat, by omega⟩
      have hn3 : n < 3 := by omega
      have hT6 := HT.out.step (by omega) hPg hst6
      have hTS6 := HTS.out.trans hst6
      have hK6 : Has w6 (P + 1) 54 #[.slice none 0 0, .slice none 0 0, .slice none 0 0] := (hst6.2.block (P + 1) HK.out.lt (fun e => by have := Option.some.inj e; omega)).trans HK.out
      have hsz6 : P + 2 ≤ w6.heap.size := Nat.le_trans hsz hst6.2.size
      obtain ⟨b, o, eA, hb, f1, f2, f3⟩ := (HN2.out _ hTS6).at_ k1
      have HPN := Lib.hid (tri_perm hn3 l[i] HPM.out)
      have HTK : Hid (l.take (i + 1) = l.take i ++ [l[i]]) := Lib.hid (List.take_succ_eq_append_getElem k1)
      have hll : (ls n).length < 1000000 := by
        have h1 := HPM.out.length_eq
        have h2 := List.length_take_le' i l
        have h3 := HNN.out
        simp only [List.length_append] at h1
        have h4 : n = 0 ∨ n = 1 ∨ n = 2 := by omega
        rcases h4 with rfl | rfl | rfl <;> omega
      subst eA
      generalize l[i] = x at *
      obtain ⟨xi, xk, xw⟩ := x
      simp only at f1 f2 f3
      have i0 : (0 : Int) ≤ (i : Int) := by omega
      have i1 : (i : Int) < (N : Int) := by omega
      have n0' : (0 : Int) ≤ (n : Int) := by omega
      have n1' : (n : Int) < 3 := by omega
      have g1 : w6.drew.cell? ⟨b, o + i * 3, none⟩ = some (.int .i64 xi) := f1
      have g2 : w6.drew.cell? ⟨b, o + i * 3 + 1, none⟩ = some (.string xk) := f2
      have g3 : w6.drew.cell? ⟨b, o + i * 3 + 2, none⟩ = some (.int .u32 (xw : Int)) := f3
      have hbd := (Below.refl w6.heap.size w6).drew
      have hTd := hT6.below hbd
      have hbA := (Below.refl w6.drew.heap.size w6.drew).alloc (Nat.le_refl _) (.cells #[.int .i64 xi, .string xk, .int .u32 (xw : Int)] 39)
      have hTA := hTd.below hbA
      have c1 := hTd.cell hn3
      have c2 := hTA.cell hn3
      have c2' : (w6.alloc (.cells #[.int .i64 xi, .string xk, .int .u32 (xw : Int)] 39)).drew.cell? ⟨P, n, none⟩ = some (v n) := c2
      have hX := Has.new w6.drew 39 #[.int .i64 xi, .string xk, .int .u32 (xw : Int)]
      have hszA : P + 2 ≤ (w6.drew.alloc (.cells #[.int .i64 xi, .string xk, .int .u32 (xw : Int)] 39)).heap.size := Nat.le_trans hsz6 hbA.size
      have HTA := Lib.hid hTA
      have HTSA := Lib.hid ((hTS6.below hbd).below hbA)
      have HKA := Lib.hid ((hK6.below hbd).below hbA)
      clear r0 r1 hst6 HT HK HTS hTd hT6 hTS6 hK6 f1 f2 f3 hbd hbA hTA
      go_upto_region 9 with fail
      go_region_law ((refine step_pushN_at (w := World.alloc (World.drew w6) (.cells #[.int .i64 xi, .string xk, .int .u32 (xw : Int)] 39)) (o := ⟨some 46, _, _, _, _, _⟩) rfl (.tmp 40) (.tmp 45) 23 (by rfl) (P + 2) inf Tryd.underlying23 hif hif1 hif2 hif3 (v n) (ls n) (by simp [Act.eval]) (HTA.out.own n hn3) w6.drew.heap.size 1 ⟨xi, xk, xw⟩ (by simp [Act.eval]) ⟨hX.cell 0, hX.cell 1, hX.cell 2⟩ hll hszA ?_; intro v9 w9 ho9 hg9 hat9; obtain ⟨A9, k9, cc9, rfl⟩ := ho9.form; have c9 : w9.cell? ⟨P, n, none⟩ = some (v n) := (World.cell?_of_block (hg9.block P (by omega) (fun e => (by have := ((HTA.out.own n hn3).lt P e.symm).1; omega)))).trans c2; have z9 : w9.frozen? ⟨P, n, none⟩ = false := Has.frozen ((hg9.block P (by omega) (fun e => (by have := ((HTA.out.own n hn3).lt P e.symm).1; omega))).trans HTA.out.arr) n))
      all_goals
        have HT9 := Lib.hid (HTA.out.put (by omega) hn3 ho9 hg9 (hat9.imp id fun e => ⟨_, Nat.le_refl _, e⟩))
        have HTS9 := Lib.hid ((HTSA.out.below_base hgw2 (grownBy_belowN hg9 (HTA.out.own n hn3) (by omega) (by omega))).set (p := ⟨P, n, none⟩) hPw hgw2 (.slice A9 k9 cc9))
        have HK9 := Lib.hid (Has.far (p := ⟨P, n, none⟩) (show Has w9 (P + 1) 54 #[.slice none 0 0, .slice none 0 0, .slice none 0 0] from (hg9.block (P + 1) (by omega) (fun e => (by have := ((HTA.out.own n hn3).lt (P + 1) e.symm).1; omega))).trans HKA.out) (show P + 1 ≠ P by omega) (.slice A9 k9 cc9))
        have hsz9 : P + 2 ≤ (w9.setCell ⟨P, n, none⟩ (.slice A9 k9 cc9)).heap.size := by rw [World.size_setCell]; exact Nat.le_trans hszA hg9.size
        clear ho9 hg9 hat9 c9 z9 c1 c2 c2' g1 g2 g3 HTSA HKA
        go_wp2_with fail
        exact ⟨⟨i + 1, _, _, by go_num, hlt, HT9.out, Lib.hid (by rw [HTK.out]; exact HPN.out), HTS9.out, HK9.out, hsz9⟩, by simp [intOf]; omega⟩
    · have ei : i = l.length := by rw [← HNN.out]; omega
      have HPL : Hid ((ls 0 ++ (ls 1 ++ ls 2)).Perm l) := Lib.hid (by have := HPM.out; rwa [ei, List.take_length] at this)
      have HT := Lib.hid hT
      have HK := Lib.hid hK
      have HTS := Lib.hid hTS
      obtain ⟨W6, hW6⟩ : ∃ W6, W6 = wr := ⟨_, rfl⟩
      subst hW6
      clear hT hK hTS ei HPM
      have HAK : Hid (ArrK W6 (P + 1)) := Lib.hid ⟨_, _, _, HK.out⟩
      have hc3 : chkV (ls 0 ++ (ls 1 ++ ls 2)) = 0 := chk_perm HPL.out HCK.out
      have HCJ : Hid (∀ j, j < 3 → chkV (ls j) = 0) := Lib.hid fun j hj => by
        have h3 : j = 0 ∨ j = 1 ∨ j = 2 := by omega
        rcases h3 with rfl | rfl | rfl
        · exact chk_sub hc3 (List.sublist_append_left _ _)
        · exact chk_sub hc3 ((List.sublist_append_left _ _).trans (List.sublist_append_right _ _))
        · exact chk_sub hc3 ((List.sublist_append_right _ _).trans (List.sublist_append_right _ _))
      have HC3 := Lib.hid hc3
      have HG0 := Lib.hid (grownBy_refl W6 (some (P + 1)))
      clear HK hc3
      go_wp2_with fail
      go_loopw [10] (fun vj wr => ∃ j : Nat, vj = .int .i64 (j : Int) ∧ j ≤ 3 ∧ (∀ i, i < j → LkJ wr (P + 1) i (bldV (ls i) (m + 1))) ∧ ArrK wr (P + 1) ∧ W6.grownBy wr (some (P + 1))) (fun vj _ => 3 - (intOf vj).toNat)
      case atStart => exact ⟨0, rfl, by omega, fun i hi => by omega, HAK.out, HG0.out⟩
      case round =>
        clear HAK HG0
        obtain ⟨j, rfl, hj, hLK, hAK, hGR⟩ := hrel
        have hTr := HT.out.grown hGR (by omega) (by omega)
        by_cases hltj : j < 3
        · obtain ⟨Aj, cj, ej, hnj⟩ := (hTr.own j hltj).read
          have c1 := hTr.cell hltj
          rw [ej] at c1
          have HBJ := Lib.hid (build_ok Aj (ls j) cj m wr hnj (HCJ.out j hltj) (by omega))
          unfold BldOk at HBJ
          have HLK := Lib.hid hLK
          have HAK := Lib.hid hAK
          have HGR := Lib.hid hGR
          obtain ⟨LJ, hLJ⟩ : ∃ n, n = (ls j).length := ⟨_, rfl⟩
          rw [← hLJ] at c1 HBJ
          generalize hRJ : bldV (ls j) (m + 1) = RJ at *
          have HRJ := Lib.hid hRJ
          have i0 : (0 : Int) ≤ (j : Int) := by omega
          have i1 : (j : Int) < 3 := by omega
          clear hLK hAK hGR hTr hnj ej hLJ hRJ
          go_wp2_with fail
          refine (HBJ.out).mono ?_
          rintro e w7 ⟨G7, H7, hG7, rfl, hD7, hb7⟩
          have HD7 := Lib.hid hD7
          have HLK7 := Lib.hid (fun (i : Nat) (hi : i < j) => (HLK.out i hi).below hb7)
          have HAK7 := Lib.hid (HAK.out.below hb7)
          have HGR7 := Lib.hid (grownBy_below HGR.out hb7)
          obtain ⟨⟨u, c2⟩, z2⟩ := HAK7.out.cell hltj
          have hKG : P + 1 < G7 := Nat.lt_of_lt_of_le HAK.out.lt hG7
          obtain ⟨RN, hRN⟩ : ∃ n, n = RJ.length := ⟨_, rfl⟩
          have HRN := Lib.hid hRN
          rw [← hRN]
          clear hD7 hb7 hG7 HBJ HLK HAK HGR hRN c1
          go_wp2_with fail
          refine ⟨⟨j + 1, by go_num, by omega, fun i hi => ?_, HAK7.out.put hltj _, grownBy_set HGR7.out j _⟩, by simp [intOf]; omega⟩
          by_cases e : i = j
          · subst e
            rw [HRJ.out]
            refine ⟨G7, H7, ?_, hKG, HD7.out.above fun b hb => Below.heap_setCell w7 _ _ b (show b ≠ P + 1 by omega)⟩
            rw [← HRN.out]
            exact World.cell?_setCell_same w7 _ _ c2
          · exact (HLK7.out i (by omega)).other e
        · have hj3 : j = 3 := by omega
          subst hj3
          have hL0 := hLK 0 (by omega)
          have hL1 := hLK 1 (by omega)
          have hL2 := hLK 2 (by omega)
          have hbw : Below P W6 wr := ⟨hGR.os, hGR.tape, hGR.output, hGR.size, fun j hj => hGR.block j (by omega) (fun e => by have := Option.some.inj e; omega)⟩
          have hTw : TStep w2 g wr := HTS.out.below_base hgw2 (hbw.mono hPw)
          have HBW := Lib.hid (HPB.out _ hTw)
          have HAL := Lib.hid (HN2.out _ hTw)
          obtain ⟨A0, c0, e0, n0⟩ := (hTr.own 0 (by omega)).read
          obtain ⟨A1, c1, e1, n1⟩ := (hTr.own 1 (by omega)).read
          obtain ⟨A3, c3, e3, n3⟩ := (hTr.own 2 (by omega)).read
          have p0 := hTr.cell (n := 0) (by omega)
          have p1 := hTr.cell (n := 1) (by omega)
          have p2 := hTr.cell (n := 2) (by omega)
          rw [e0] at p0
          rw [e1] at p1
          rw [e3] at p2
          obtain ⟨G0, H0, k0, -, d0⟩ := hL0
          obtain ⟨G1, H1, k1, -, d1⟩ := hL1
          obtain ⟨G2, H2, k2, -, d2⟩ := hL2
          have hlv : ∀ (l : List Nd), ∀ x ∈ bldV l (m + 1), x.levels.length ≤ maxLen := fun l x hx => by rw [bld_lev l _ x hx]; unfold maxLen; omega
          have hf : As3 wr P (P + 1) A0 A1 A3 (ls 0) (ls 1) (ls 2) c0 c1 c3 G0 G1 G2 (bldV (ls 0) (m + 1)) (bldV (ls 1) (m + 1)) (bldV (ls 2) (m + 1)) := ⟨p0, p1, p2, k0, k1, k2, n0, n1, n3, d0.read (hlv _), d1.read (hlv _), d2.read (hlv _)⟩
          have hj0 := HCJ.out 0 (by omega)
          have hj1 := HCJ.out 1 (by omega)
          have hj2 := HCJ.out 2 (by omega)
          have hc3 := HC3.out
          have hpl := HPL.out
          have hcl := HCK.out
          have hl0 := (chkV_zero.1 hj0).1
          have hl1 := (chkV_zero.1 hj1).1
          have hl2 := (chkV_zero.1 hj2).1
          have hc01 : chkV (ls 0 ++ ls 1) = 0 := chk_sub hc3 (List.Sublist.append_left (List.sublist_append_left _ _) _)
          have hc12 : chkV (ls 1 ++ ls 2) = 0 := chk_sub hc3 (List.sublist_append_right _ _)
          have hNl := HNN.out
          clear hLK hAK hGR hbw hTw hTr e0 e1 e3 n0 n1 n3 p0 p1 p2 k0 k1 k2 d0 d1 d2 HT HTS HCJ HC3 HPL HCK HN2 HPB HNN hA2 hlt hj hltj hi hPg hgP hPw hgw2 hg2 hg1 HB2
          generalize ls 0 = l0 at *
          generalize ls 1 = l1 at *
          generalize ls 2 = l2 at *
          have HM1 := Lib.hid (fun (W : World) (h : As3 W P (P + 1) A0 A1 A3 l0 l1 l2 c0 c1 c3 G0 G1 G2 (bldV l0 (m + 1)) (bldV l1 (m + 1)) (bldV l2 (m + 1))) => merge_ok A0 (some ⟨G0, 0, none⟩) A1 (some ⟨G1, 0, none⟩) l0 l1 (bldV l0 (m + 1)) (bldV l1 (m + 1)) c0 (bldV l0 (m + 1)).length c1 (bldV l1 (m + 1)).length m W h.n0 h.d0 h.n1 h.d1 (exa_self hj0 (by omega)) (exa_self hj1 (by omega)) (by omega) hc01)
          have HM2 := Lib.hid (fun (W : World) (h : As3 W P (P + 1) A0 A1 A3 l0 l1 l2 c0 c1 c3 G0 G1 G2 (bldV l0 (m + 1)) (bldV l1 (m + 1)) (bldV l2 (m + 1))) => merge_ok A1 (some ⟨G1, 0, none⟩) A3 (some ⟨G2, 0, none⟩) l1 l2 (bldV l1 (m + 1)) (bldV l2 (m + 1)) c1 (bldV l1 (m + 1)).length c3 (bldV l2 (m + 1)).length m W h.n1 h.d1 h.n2 h.d2 (exa_self hj1 (by omega)) (exa_self hj2 (by omega)) (by omega) hc12)
          have HM3 := Lib.hid (fun (W : World) (h : As3 W P (P + 1) A0 A1 A3 l0 l1 l2 c0 c1 c3 G0 G1 G2 (bldV l0 (m + 1)) (bldV l1 (m + 1)) (bldV l2 (m + 1))) (X Y : Option Addr) (cx cy : Nat) (hx : Nds W W.heap.size X (l0 ++ l1)) (hy : Lds W W.heap.size Y (bldV (l0 ++ l1) (m + 1))) => (by
            have := merge_ok X Y A3 (some ⟨G2, 0, none⟩) (l0 ++ l1) l2 (bldV (l0 ++ l1) (m + 1)) (bldV l2 (m + 1)) cx cy c3 (bldV l2 (m + 1)).length m W hx hy h.n2 h.d2 (exa_self hc01 (by omega)) (exa_self hj2 (by omega)) (by omega) (by rw [List.append_assoc]; exact hc3)
            rw [List.append_assoc, bld_perm hpl hcl] at this
            exact this))
          have HM4 := Lib.hid (fun (W : World) (h : As3 W P (P + 1) A0 A1 A3 l0 l1 l2 c0 c1 c3 G0 G1 G2 (bldV l0 (m + 1)) (bldV l1 (m + 1)) (bldV l2 (m + 1))) (X Y : Option Addr) (cx cy : Nat) (hx : Nds W W.heap.size X (l1 ++ l2)) (hy : Lds W W.heap.size Y (bldV (l1 ++ l2) (m + 1))) => (by
            have := merge_ok A0 (some ⟨G0, 0, none⟩) X Y l0 (l1 ++ l2) (bldV l0 (m + 1)) (bldV (l1 ++ l2) (m + 1)) c0 (bldV l0 (m + 1)).length cx cy m W h.n0 h.d0 hx hy (exa_self hj0 (by omega)) (exa_self hc12 (by omega)) (by omega) hc3
            rw [bld_perm hpl hcl] at this
            exact this))
          have HEX := Lib.hid (fun (W : World) (X : Option Addr) (cx : Nat) (h1 : Nds W W.heap.size A2 l) (h2 : Lds W W.heap.size X (bldV l (m + 1))) => (by
            have := exact_any A2 X l (bldV l (m + 1)) c2 cx (m : Int) W h1 h2 (by rw [bld_len]; have := (chkV_zero.1 hcl).1; unfold maxLen; omega) (fun x hx => (wide_of hcl x hx).2)
            rw [exa_self hcl (by omega), ← hNl] at this
            exact this))
          have HSM := Lib.hid (fun (W : World) (X Y : Option Addr) (cx cy : Nat) (h1 : Lds W W.heap.size X (bldV l (m + 1))) (h2 : Lds W W.heap.size Y (bldV l (m + 1))) => (by
            have := rsame6_any X Y (bldV l (m + 1)) (bldV l (m + 1)) cx cy W h1 h2 (by rw [bld_len]; have := (chkV_zero.1 hcl).1; omega)
            rw [decide_eq_true rfl] at this
            exact this))
          generalize bldV l (m + 1) = R at *
          generalize bldV l0 (m + 1) = r0 at *
          generalize bldV l1 (m + 1) = r1 at *
          generalize bldV l2 (m + 1) = r2 at *
          generalize bldV (l0 ++ l1) (m + 1) = r01 at *
          generalize bldV (l1 ++ l2) (m + 1) = r12 at *
          generalize h01 : l0 ++ l1 = l01 at *
          generalize h12 : l1 ++ l2 = l12 at *
          have H01 := Lib.hid h01
          have H12 := Lib.hid h12
          have HF1 := Lib.hid hf
          clear hf hj0 hj1 hj2 hc3 hpl hcl hc01 hc12 hNl hlv h01 h12
          go_wp2_with fail
          have hbd1 := (Below.refl wr.heap.size wr).drew
          have hbe1 := ((Below.refl wr.heap.size wr).alloc (Nat.le_refl _) (.cells #[] 39)).drew
          have hEm1 : OwnN (wr.alloc (.cells #[] 39)).drew wr.heap.size (.slice (some ⟨wr.heap.size, 0, none⟩) 0 0) [] := OwnN.empty wr
          have sd1 : wr.drew.cell? ⟨P, 0, none⟩ = some (.slice A0 l0.length c0) ∧ wr.drew.cell? ⟨P, 1, none⟩ = some (.slice A1 l1.length c1) := ⟨cell_below HF1.out.p0 hbd1, cell_below HF1.out.p1 hbd1⟩
          have se1 : (wr.alloc (.cells #[] 39)).drew.cell? ⟨P, 0, none⟩ = some (.slice A0 l0.length c0) ∧ (wr.alloc (.cells #[] 39)).drew.cell? ⟨P, 1, none⟩ = some (.slice A1 l1.length c1) := ⟨cell_below HF1.out.p0 hbe1, cell_below HF1.out.p1 hbe1⟩
          have na1 := HF1.out.n0.below hbe1
          have z21 : wr.heap.size ≤ (World.drew (World.alloc wr (.cells #[] 39))).heap.size := hbe1.size
          have z11 : 0 + l0.length ≤ 1000000 := by omega
          have z31 : ([] ++ l0).length + l1.length ≤ 1000000 := by rw [List.nil_append]; omega
          go_region_held3 (fun w' => w'.cell? ⟨P, 0, none⟩ = some (.slice A0 l0.length c0) ∧ w'.cell? ⟨P, 1, none⟩ = some (.slice A1 l1.length c1)) (first | with_reducible exact s10 | with_reducible exact s9 | with_reducible exact se1 | with_reducible exact sd1 | with_reducible assumption) (first | (refine step_pushNs (w := wa) (o := ⟨some 71, _, _, _, _, _⟩) rfl (.tmp 68) (.tmp 70) 23 (by rfl) wr.heap.size inf Tryd.underlying23 hif hif1 hif2 hif3 v1 ([] ++ l0) (by simp [Act.eval]) ho1 wr.heap.size A1 l1 l1.length c1 rfl (by simp [Act.eval]) (HF1.out.n1.below hb9) z31 hb9.size ?_; intro v2 wb ho2 hbb; have hb10 := hb9.trans hbb; have s10 : wb.cell? ⟨P, 0, none⟩ = some (.slice A0 l0.length c0) ∧ wb.cell? ⟨P, 1, none⟩ = some (.slice A1 l1.length c1) := ⟨cell_below HF1.out.p0 hb10, cell_below HF1.out.p1 hb10⟩) | (refine step_pushNs (w := World.drew (World.alloc wr (.cells #[] 39))) (o := ⟨some 68, _, _, _, _, _⟩) rfl (.tmp 65) (.tmp 67) 23 (by rfl) wr.heap.size inf Tryd.underlying23 hif hif1 hif2 hif3 (.slice (some ⟨wr.heap.size, 0, none⟩) 0 0) [] (by simp [Act.eval]) hEm1 wr.heap.size A0 l0 l0.length c0 rfl (by simp [Act.eval]) na1 z11 z21 ?_; intro v1 wa ho1 hba; have hb9 := hbe1.trans hba; have s9 : wa.cell? ⟨P, 0, none⟩ = some (.slice A0 l0.length c0) ∧ wa.cell? ⟨P, 1, none⟩ = some (.slice A1 l1.length c1) := ⟨cell_below HF1.out.p0 hb9, cell_below HF1.out.p1 hb9⟩))
          rw [List.nil_append, H01.out] at ho2
          obtain ⟨A4, c4, rfl, n4⟩ := ho2.read
          have HN4 := Lib.hid n4
          have HF2 := Lib.hid (HF1.out.below hb10)
          have HBX := Lib.hid (HBW.out.trans (hb10.mono HBW.out.size))
          have HAX := Lib.hid ((HAL.out.below hb10).more hb10.size)
          clear ho1 ho2 hba hbb hb9 hb10 s9 s10 n4 hbd1 hbe1 hEm1 sd1 se1 na1 z11 z21 z31 HF1 HBW HAL
          obtain ⟨W1, hW1⟩ : ∃ W1, W1 = wb := ⟨_, rfl⟩
          subst hW1
          clear wa
          go_wp2_with fail
          have hbd2 := (Below.refl W1.heap.size W1).drew
          have hbe2 := ((Below.refl W1.heap.size W1).alloc (Nat.le_refl _) (.cells #[] 39)).drew
          have hEm2 : OwnN (W1.alloc (.cells #[] 39)).drew W1.heap.size (.slice (some ⟨W1.heap.size, 0, none⟩) 0 0) [] := OwnN.empty W1
          have sd2 : W1.drew.cell? ⟨P, 1, none⟩ = some (.slice A1 l1.length c1) ∧ W1.drew.cell? ⟨P, 2, none⟩ = some (.slice A3 l2.length c3) := ⟨cell_below HF2.out.p1 hbd2, cell_below HF2.out.p2 hbd2⟩
          have se2 : (W1.alloc (.cells #[] 39)).drew.cell? ⟨P, 1, none⟩ = some (.slice A1 l1.length c1) ∧ (W1.alloc (.cells #[] 39)).drew.cell? ⟨P, 2, none⟩ = some (.slice A3 l2.length c3) := ⟨cell_below HF2.out.p1 hbe2, cell_below HF2.out.p2 hbe2⟩
          have na2 := HF2.out.n1.below hbe2
          have z22 : W1.heap.size ≤ (World.drew (World.alloc W1 (.cells #[] 39))).heap.size := hbe2.size
          have z12 : 0 + l1.length ≤ 1000000 := by omega
          have z32 : ([] ++ l1).length + l2.length ≤ 1000000 := by rw [List.nil_append]; omega
          go_region_held3 (fun w' => w'.cell? ⟨P, 1, none⟩ = some (.slice A1 l1.length c1) ∧ w'.cell? ⟨P, 2, none⟩ = some (.slice A3 l2.length c3)) (first | with_reducible exact s10 | with_reducible exact s9 | with_reducible exact se2 | with_reducible exact sd2 | with_reducible assumption) (first | (refine step_pushNs (w := wa) (o := ⟨some 78, _, _, _, _, _⟩) rfl (.tmp 75) (.tmp 77) 23 (by rfl) W1.heap.size inf Tryd.underlying23 hif hif1 hif2 hif3 v1 ([] ++ l1) (by simp [Act.eval]) ho1 W1.heap.size A3 l2 l2.length c3 rfl (by simp [Act.eval]) (HF2.out.n2.below hb9) z32 hb9.size ?_; intro v2 wb ho2 hbb; have hb10 := hb9.trans hbb; have s10 : wb.cell? ⟨P, 1, none⟩ = some (.slice A1 l1.length c1) ∧ wb.cell? ⟨P, 2, none⟩ = some (.slice A3 l2.length c3) := ⟨cell_below HF2.out.p1 hb10, cell_below HF2.out.p2 hb10⟩) | (refine step_pushNs (w := World.drew (World.alloc W1 (.cells #[] 39))) (o := ⟨some 75, _, _, _, _, _⟩) rfl (.tmp 72) (.tmp 74) 23 (by rfl) W1.heap.size inf Tryd.underlying23 hif hif1 hif2 hif3 (.slice (some ⟨W1.heap.size, 0, none⟩) 0 0) [] (by simp [Act.eval]) hEm2 W1.heap.size A1 l1 l1.length c1 rfl (by simp [Act.eval]) na2 z12 z22 ?_; intro v1 wa ho1 hba; have hb9 := hbe2.trans hba; have s9 : wa.cell? ⟨P, 1, none⟩ = some (.slice A1 l1.length c1) ∧ wa.cell? ⟨P, 2, none⟩ = some (.slice A3 l2.length c3) := ⟨cell_below HF2.out.p1 hb9, cell_below HF2.out.p2 hb9⟩))
          rw [List.nil_append, H12.out] at ho2
          obtain ⟨A5, c5, rfl, n5⟩ := ho2.read
          have HF3 := Lib.hid (HF2.out.below hb10)
          have HN43 := Lib.hid ((HN4.out.below hb10).more hb10.size)
          have HN53 := Lib.hid n5
          have HB3 := Lib.hid (HBX.out.trans (hb10.mono HBX.out.size))
          have HA3 := Lib.hid ((HAX.out.below hb10).more hb10.size)
          have HMA := Lib.hid (HM1.out wb HF3.out)
          have q0 := HF3.out.p0
          have q1 := HF3.out.p1
          have q2 := HF3.out.k0
          have q3 := HF3.out.k1
          clear ho1 ho2 hba hbb hb9 hb10 s9 s10 n5 hbd2 hbe2 hEm2 sd2 se2 na2 z12 z22 z32 HF2 HN4 HBX HAX HM1
          go_wp2_with fail
          refine (HMA.out).mono ?_
          rintro e w8 ⟨v8, rfl, ho8, hb8⟩
          obtain ⟨A8, c8, rfl, -, -, r8⟩ := ho8.read
          have HX8 := Lib.hid r8
          have HF4 := Lib.hid (HF3.out.below hb8)
          have HN44 := Lib.hid ((HN43.out.below hb8).more hb8.size)
          have HN54 := Lib.hid ((HN53.out.below hb8).more hb8.size)
          have HB4 := Lib.hid (HB3.out.trans (hb8.mono HB3.out.size))
          have HA4 := Lib.hid ((HA3.out.below hb8).more hb8.size)
          have HMB := Lib.hid (HM2.out w8 HF4.out)
          clear q0 q1 q2 q3
          have q1 := HF4.out.p1
          have q2 := HF4.out.p2
          have q3 := HF4.out.k1
          have q4 := HF4.out.k2
          clear ho8 hb8 r8 HF3 HN43 HN53 HB3 HA3 HM2 HMA
          go_wp2_with fail
          refine (HMB.out).mono ?_
          rintro e w9 ⟨v9, rfl, ho9, hb9⟩
          obtain ⟨A9, c9, rfl, -, -, r9⟩ := ho9.read
          have HX9 := Lib.hid r9
          have HX89 := Lib.hid ((HX8.out.below hb9).more hb9.size)
          have HF5 := Lib.hid (HF4.out.below hb9)
          have HN45 := Lib.hid ((HN44.out.below hb9).more hb9.size)
          have HN55 := Lib.hid ((HN54.out.below hb9).more hb9.size)
          have HB5 := Lib.hid (HB4.out.trans (hb9.mono HB4.out.size))
          have HA5 := Lib.hid ((HA4.out.below hb9).more hb9.size)
          have HMC := Lib.hid (HM3.out w9 HF5.out A4 A8 c4 c8 HN45.out HX89.out)
          clear q1 q2 q3 q4
          have q2 := HF5.out.p2
          have q4 := HF5.out.k2
          clear ho9 hb9 r9 HF4 HN44 HN54 HB4 HA4 HM3 HMB HX8
          go_wp2_with fail
          refine (HMC.out).mono ?_
          rintro e w10 ⟨v10, rfl, ho10, hb10⟩
          obtain ⟨A10, c10, rfl, -, -, r10⟩ := ho10.read
          have HX10 := Lib.hid r10
          have HX910 := Lib.hid ((HX9.out.below hb10).more hb10.size)
          have HF6 := Lib.hid (HF5.out.below hb10)
          have HN56 := Lib.hid ((HN55.out.below hb10).more hb10.size)
          have HB6 := Lib.hid (HB5.out.trans (hb10.mono HB5.out.size))
          have HA6 := Lib.hid ((HA5.out.below hb10).more hb10.size)
          have HMD := Lib.hid (HM4.out w10 HF6.out A5 A9 c5 c9 HN56.out HX910.out)
          clear q2 q4
          have q0 := HF6.out.p0
          have q4 := HF6.out.k0
          clear ho10 hb10 r10 HF5 HN45 HN55 HB5 HA5 HM4 HMC HX9 HX89
          go_wp2_with fail
          refine (HMD.out).mono ?_
          rintro e w11 ⟨v11, rfl, ho11, hb11⟩
          obtain ⟨A11, c11, rfl, -, -, r11⟩ := ho11.read
          have HX1011 := Lib.hid ((HX10.out.below hb11).more hb11.size)
          have HB7 := Lib.hid (HB6.out.trans (hb11.mono HB6.out.size))
          have HA7 := Lib.hid ((HA6.out.below hb11).more hb11.size)
          have HSS := Lib.hid (HSM.out w11 A10 A11 c10 c11 HX1011.out r11)
          clear q0 q4 ho11 hb11 r11 HF6 HN56 HB6 HA6 HMD HX10 HX910 HSM
          go_wp2_with fail
          refine (HSS.out).mono ?_
          rintro e w12 ⟨rfl, hb12⟩
          have HK12 := Lib.hid (HB7.out.trans (hb12.mono HB7.out.size))
          have HEE := Lib.hid (HEX.out w12 A10 c10 ((HA7.out.below hb12).more hb12.size) ((HX1011.out.below hb12).more hb12.size))
          clear hb12 HSS HB7 HA7 HX1011 HEX
          go_wp2_with fail
          refine (HEE.out).mono ?_
          rintro e w13 ⟨rfl, hb13⟩
          have HK13 := Lib.hid (HK12.out.trans (hb13.mono HK12.out.size))
          clear hb13 HEE HK12
          go_wp2_with fail
          refine (HSA.out _).mono ?_
          rintro e w14 ⟨rfl, hb14⟩
          have HB14 := Lib.hid (HK13.out.trans (hb14.mono HK13.out.size))
          clear hb14
          go_wp2_with fail
          go_ret
          exact ⟨rfl, HB14.out⟩
end Go.Proofs.YtddcfiiahahkbaaDoor
