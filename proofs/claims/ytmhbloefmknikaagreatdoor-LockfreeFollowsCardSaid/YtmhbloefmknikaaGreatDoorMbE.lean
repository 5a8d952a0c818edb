/-
  Copy of the reference of chapter 11: both rows are the call's own. Condition: the list can be read.
-/
import Derived.Test.YtmhbloefmknikaaGreatDoorLzJ
namespace Go.Proofs.YtmhbloefmknikaaGreatDoor
open Go.RowKit Go.Maps
namespace Lk
def CopG (l : Ls) (w : World) (e : Ending) (w' : World) : Prop := ∃ v1 v2, e = .returned (.agg #[v1, v2]) ∧ OwnR Ce.row 5 66 w' w.heap.size v1 l.cs ∧ OwnR Po.row 7 63 w' w.heap.size v2 l.ps ∧ (∀ j, v1.ownBlock = some j → v2.ownBlock ≠ some j) ∧ Below w.heap.size w w'
theorem grow_none {w w' : World} (h : w.grownBy w' none) : Below w.heap.size w w' := ⟨h.os, h.tape, h.output, h.size, fun k hk => h.block k hk (by simp)⟩
theorem own_far {α : Type} {enc : α → List Value} {k : Nat} {t : TypeId} {w : World} {base : Nat} {v : Value} {l : List α} (h : OwnR enc k t w base v l) {p : Addr} (hp : p.block < base) (u : Value) : OwnR enc k t (w.setCell p u) base v l := h.keep fun i h1 _ => Below.heap_setCell w p u i (by omega)
theorem copG_mk {w W V : World} {B : Nat} {l : Ls} {v1 v2 : Value} (hB : B = w.heap.size) (hz : W.heap.size = B + 1 + 1) (hb : Below B w W) (hv : Below W.heap.size W V) (h1 : OwnR Ce.row 5 66 V W.heap.size v1 l.cs) (h2 : OwnR Po.row 7 63 V W.heap.size v2 l.ps) (hd : ∀ j, v1.ownBlock = some j → v2.ownBlock ≠ some j) (u1 u2 : Value) :
    CopG l w (.returned (.agg #[v1, v2])) ((V.setCell ⟨B + 1, 0, none⟩ u1).setCell ⟨B + 1, 1, none⟩ u2) := by
  subst hB
  refine ⟨v1, v2, rfl, OwnR.low (own_far (own_far h1 (p := ⟨w.heap.size + 1, 0, none⟩) (by simp only; omega) u1) (p := ⟨w.heap.size + 1, 1, none⟩) (by simp only; omega) u2) (by omega), OwnR.low (own_far (own_far h2 (p := ⟨w.heap.size + 1, 0, none⟩) (by simp only; omega) u1) (p := ⟨w.heap.size + 1, 1, none⟩) (by simp only; omega) u2) (by omega), hd, ?_⟩
  exact ((hb.trans (hv.mono (by omega))).setCell (p := ⟨w.heap.size + 1, 0, none⟩) (by simp only; omega) u1).setCell (p := ⟨w.heap.size + 1, 1, none⟩) (by simp only; omega) u2
set_option maxRecDepth 100000 in
set_option maxHeartbeats 6400000 in
theorem rcopy_any (A1 A2 : Option Addr) (l : Ls) (n m c1 c2 lo : Nat) (w : World) (hn : l.cs.length = n) (hm : l.ps.length = m) (h : RdL w lo A1 A2 l) (n1 : n ≤ 1000000) (m1 : m ≤ 1000000) :
    Calls Tryz.prog 9 #[.agg #[.slice A1 n c1, .slice A2 m c2]] w (CopG l w) := by
  have hx := ((Has.new w 28 #[.slice A1 n c1, .slice A2 m c2]).below ((Below.refl _ _).alloc (Nat.le_refl _) (.cells #[.slice none 0 0, .slice none 0 0] 28)))
  have hb := ((Below.refl w.heap.size w).alloc (Nat.le_refl _) (.cells #[.slice A1 n c1, .slice A2 m c2] 28)).alloc (by rw [World.size_alloc]; omega) (.cells #[.slice none 0 0, .slice none 0 0] 28)
  have hy := Has.new (w.alloc (.cells #[.slice A1 n c1, .slice A2 m c2] 28)) 28 #[.slice none 0 0, .slice none 0 0]
  have hz : ((w.alloc (.cells #[.slice A1 n c1, .slice A2 m c2] 28)).alloc (.cells #[.slice none 0 0, .slice none 0 0] 28)).heap.size = w.heap.size + 1 + 1 := by rw [World.size_alloc, World.size_alloc]
  rw [World.size_alloc] at hy
  go_enter Tryz.func9, Tryz.ntmps9
  go_upto_region 1 with fail
  generalize (w.alloc (.cells #[.slice A1 n c1, .slice A2 m c2] 28)).alloc (.cells #[.slice none 0 0, .slice none 0 0] 28) = W at *
  have HRC := Lib.hid (fun (V : World) (k : Below W.heap.size W V) => RdR.below (RdR.below h.cs hb) k)
  have HRP := Lib.hid (fun (V : World) (k : Below W.heap.size W V) => RdR.below (RdR.below h.ps hb) k)
  have HK := Lib.hid (fun (V : World) (k : Below W.heap.size W V) => (⟨(hx.below k).cell 0, (hx.below k).cell 1, (hy.below k).cell 0, (hy.below k).cell 1, (hy.below k).frozen 0, (hy.below k).frozen 1⟩ : V.cell? ⟨w.heap.size, 0, none⟩ = some (.slice A1 n c1) ∧ V.cell? ⟨w.heap.size, 1, none⟩ = some (.slice A2 m c2) ∧ V.cell? ⟨w.heap.size + 1, 0, none⟩ = some (.slice none 0 0) ∧ V.cell? ⟨w.heap.size + 1, 1, none⟩ = some (.slice none 0 0) ∧ V.frozen? ⟨w.heap.size + 1, 0, none⟩ = false ∧ V.frozen? ⟨w.heap.size + 1, 1, none⟩ = false))
  have HB := Lib.hid hb
  have HN := Lib.hid hn
  have HM := Lib.hid hm
  have HZ := Lib.hid hz
  have hbw : Below W.heap.size W W.drew := (Below.refl _ _).drew
  obtain ⟨x0, x1, y0, y1, z0, z1⟩ := HK.out W.drew hbw
  clear hx hy hb hz hn hm h
  obtain ⟨B, hB⟩ : ∃ B, B = w.heap.size := ⟨_, rfl⟩
  rw [← hB] at x0 x1 y0 y1 z0 z1 HK HB HZ ⊢
  have HBB := Lib.hid hB
  clear hB
  have hW2 : W.heap.size ≤ W.drew.heap.size := Nat.le_refl _
  go_region_law (first
    | (refine step_pushRs (w := w8) RowT.ce (o := ⟨some 5, _, _, _, _, _⟩) rfl (.const (.slice none 0 0)) (.tmp 4) rfl W.heap.size lo (.slice none 0 0) [] rfl OwnR.nil A1 l.cs n c1 HN.out (by simp [Act.eval, Act.put]) (HRC.out _ hb8) (by simp; omega) hb8.size ?_; intro v7 w7 ho7 hg7 hat7; obtain ⟨A7, n7, q7, hv7⟩ := own_sh ho7; subst hv7; have hb7 := hb8.trans ((grow_none hg7).mono hb8.size); have HC7 := Lib.hid ho7; have HP7 := Lib.hid (HP8.out.below (grow_none hg7)); have hd7 := Lib.hid hat7; obtain ⟨x0, x1, y0, y1, z0, z1⟩ := HK.out w7 hb7; clear ho7 hg7 hat7)
    | (refine step_pushRs (w := w7) RowT.po (o := ⟨some 8, _, _, _, _, _⟩) rfl (.const (.slice none 0 0)) (.tmp 7) rfl W.heap.size lo (.slice none 0 0) [] rfl OwnR.nil A2 l.ps m c2 HM.out (by simp [Act.eval]) (HRP.out _ hb7) (by simp; omega) hb7.size ?_; intro v8 w8 ho8 hg8 hat8; obtain ⟨A8, n8, q8, hv8⟩ := own_sh ho8; subst hv8; have hb8 := hb7.trans ((grow_none hg8).mono hb7.size); have HP8 := Lib.hid ho8; have HC8 := Lib.hid (HC7.out.below (grow_none hg8)); have hd8 := Lib.hid hat8; obtain ⟨x0, x1, y0, y1, z0, z1⟩ := HK.out w8 hb8; clear ho8 hg8 hat8)
    | (refine step_pushRs (w := W.drew) RowT.ce (o := ⟨some 5, _, _, _, _, _⟩) rfl (.const (.slice none 0 0)) (.tmp 4) rfl W.heap.size lo (.slice none 0 0) [] rfl OwnR.nil A1 l.cs n c1 HN.out (by simp [Act.eval]) (HRC.out _ hbw) (by simp; omega) hW2 ?_; intro v7 w7 ho7 hg7 hat7; obtain ⟨A7, n7, q7, hv7⟩ := own_sh ho7; subst hv7; have hb7 := hbw.trans ((grow_none hg7).mono hW2); have HC7 := Lib.hid ho7; obtain ⟨x0, x1, y0, y1, z0, z1⟩ := HK.out w7 hb7; clear ho7 hg7 hat7)
    | (refine step_pushRs (w := W.drew) RowT.po (o := ⟨some 8, _, _, _, _, _⟩) rfl (.const (.slice none 0 0)) (.tmp 7) rfl W.heap.size lo (.slice none 0 0) [] rfl OwnR.nil A2 l.ps m c2 HM.out (by simp [Act.eval]) (HRP.out _ hbw) (by simp; omega) hW2 ?_; intro v8 w8 ho8 hg8 hat8; obtain ⟨A8, n8, q8, hv8⟩ := own_sh ho8; subst hv8; have hb8 := hbw.trans ((grow_none hg8).mono hW2); have HP8 := Lib.hid ho8; obtain ⟨x0, x1, y0, y1, z0, z1⟩ := HK.out w8 hb8; clear ho8 hg8 hat8))
  all_goals
    go_wp2_with fail
    (try simp only [Exit.inBlock, Exit.then])
    have hz2 := HZ.out
    first
      | (have h2 := twice0 w8 (B + 1) (.slice A7 n7 q7) (.slice A8 n8 q8) _ _ y0 y1
         exact bodyPost_ret (results_list rfl _ _ (B + 1) rfl h2.1 h2.2) rfl (copG_mk HBB.out hz2 HB.out hb8 HC8.out HP8.out (fun j e1 e2 => by
           have h3 := (HC7.out.lt j e1).2
           rcases hd8.out with q | q
           · rw [e2] at q; cases q
           · rw [e2] at q; have := Option.some.inj q; omega) _ _))
      | (have h2 := twice0 w7 (B + 1) (.slice A7 n7 q7) (.slice A8 n8 q8) _ _ y0 y1
         exact bodyPost_ret (results_list rfl _ _ (B + 1) rfl h2.1 h2.2) rfl (copG_mk HBB.out hz2 HB.out hb7 HC7.out HP7.out (fun j e1 e2 => by
           have h3 := (HP8.out.lt j e2).2
           rcases hd7.out with q | q
           · rw [e1] at q; cases q
           · rw [e1] at q; have := Option.some.inj q; omega) _ _))
end Lk
end Go.Proofs.YtmhbloefmknikaaGreatDoor
