/-
  Words for the walks of chapter 11's statements: what Start and Step lead to; a world in which one block has turned. Conditions: those of each.
-/
import Derived.Test.YtgmffgdhijcfcaaDoorMaB
import Derived.Test.YtgmffgdhijcfcaaDoorMaH
namespace Go.Proofs.YtgmffgdhijcfcaaDoor
open Go.RowKit Go.Maps
namespace Lk
theorem sta_ok {l : Ls} {p : Nat} {kd c : Int} (h : staE l p kd c = 0) : p < l.ps.length ∧ (2 ≤ c ∧ c < (l.cs.length : Int)) ∧ (1 ≤ kd ∧ kd ≤ 3) ∧ ((l.pr p).phase = 0 ∨ (l.pr p).phase = 18) := by
  unfold staE at h
  by_cases q0 : vldB l = false
  · rw [if_pos q0] at h; cases h
  · rw [if_neg q0] at h
    by_cases q1 : ¬ (0 ≤ (p : Int) ∧ (p : Int) < (l.ps.length : Int))
    · rw [if_pos q1] at h; cases h
    · rw [if_neg q1] at h
      by_cases q2 : c < 2 ∨ ¬ (0 ≤ c ∧ c < (l.cs.length : Int))
      · rw [if_pos q2] at h; cases h
      · rw [if_neg q2] at h
        by_cases q3 : kd = 0 ∨ ¬ (0 ≤ kd ∧ kd ≤ 3)
        · rw [if_pos q3] at h; cases h
        · rw [if_neg q3] at h
          by_cases q4 : (l.pr (p : Int).toNat).phase ≠ 0 ∧ (l.pr (p : Int).toNat).phase ≠ 18
          · rw [if_pos q4] at h; cases h
          · rw [Int.toNat_natCast] at q4
            refine ⟨by omega, ⟨by omega, by omega⟩, ⟨by omega, by omega⟩, by omega⟩
theorem sta_led {l : Ls} (h : Led l) {p : Nat} {kd c : Int} (e : staE l p kd c = 0) : Led (begV l p kd c) := by
  obtain ⟨h1, h2, h3, h4⟩ := sta_ok e
  exact led_beg h h1 h2 h3 h4
theorem beg_len (l : Ls) (p : Nat) (kd c : Int) : (begV l p kd c).cs.length = l.cs.length ∧ (begV l p kd c).ps.length = l.ps.length := ⟨rfl, Ls.len_setP _ _ _⟩
theorem stp_len {l l' : Ls} (v : Vld l) {p : Int} (e : stpO l p = some l') : l'.cs.length = l.cs.length ∧ l'.ps.length = l.ps.length := by
  unfold stpO at e
  split at e
  · exact bus_step v (by omega) e
  · cases e
theorem stp_led {l l' : Ls} (h : Led l) {p : Int} (e : stpO l p = some l') : Led l' := by
  unfold stpO at e
  split at e
  · exact led_step h (by omega) e
  · cases e
theorem getD_led {l : Ls} (h : Led l) (p : Int) : Led ((stpO l p).getD l) := by
  cases e : stpO l p with
  | none => exact h
  | some l' => exact stp_led h e
theorem getD_len {l : Ls} (v : Vld l) (p : Int) : ((stpO l p).getD l).cs.length = l.cs.length ∧ ((stpO l p).getD l).ps.length = l.ps.length := by
  cases e : stpO l p with
  | none => exact ⟨rfl, rfl⟩
  | some l' => exact stp_len v e
theorem has_far {w : World} {B : Nat} {t : TypeId} {cs : Array Value} (h : Has w B t cs) {p : Addr} (hp : p.block ≠ B) (v : Value) : Has (w.setCell p v) B t cs := (Below.heap_setCell w p v B (fun e => hp e.symm)).trans h
theorem HoL.glt {w : World} {B lo : Nat} {l : Ls} {n m G1 G2 d1 d2 : Nat} (h : HoL w B lo l n m G1 G2 d1 d2) (v : Vld l) : G1 < w.heap.size ∧ G2 < w.heap.size := by
  constructor
  · obtain ⟨b, o, q1, _, q3, _⟩ := h.rd.cs (by intro e; have := v.n2; rw [e] at this; simp at this)
    injection q1 with q1
    injection q1 with q1 _
    omega
  · obtain ⟨b, o, q1, _, q3, _⟩ := h.rd.ps (by intro e; have := v.m1; rw [e] at this; simp at this)
    injection q1 with q1
    injection q1 with q1 _
    omega
/-- What Start answers, in one form. -/
theorem sta_form {l : Ls} {p kd c : Int} {n m : Nat} {w : World} {e : Ending} {w' : World} (h : StaP l p kd c n m w e w') : ∃ (E : Int) (P1 P2 : Option Addr) (a1 a2 g1 g2 : Nat), e = .returned (.tuple #[.agg #[.slice P1 a1 g1, .slice P2 a2 g2], .int .i64 E]) ∧ E = staE l p kd c ∧ (E = 0 → ∃ G1 G2, P1 = some ⟨G1, 0, none⟩ ∧ P2 = some ⟨G2, 0, none⟩ ∧ a1 = n ∧ a2 = m ∧ RdL w' w.heap.size (some ⟨G1, 0, none⟩) (some ⟨G2, 0, none⟩) (begV l p.toNat kd c)) ∧ Below w.heap.size w w' := by
  rcases h with ⟨h0, rfl, hb⟩ | ⟨h0, G1, G2, d1, d2, rfl, hr, hb⟩
  · exact ⟨_, none, none, 0, 0, 0, 0, rfl, rfl, fun q => absurd q h0, hb⟩
  · exact ⟨0, some ⟨G1, 0, none⟩, some ⟨G2, 0, none⟩, n, m, d1, d2, rfl, h0.symm, fun _ => ⟨G1, G2, rfl, rfl, rfl, rfl, hr⟩, hb⟩
theorem tstp_tape {a b : World} {g : Nat} (h : TStep a g b) : Tape b g := h.1
/-- Nothing but one block has turned. -/
structure But (X : Nat) (w w' : World) : Prop where
  os : w'.os = w.os
  tape : w'.tape = w.tape
  output : w'.output = w.output
  size : w.heap.size ≤ w'.heap.size
  block : ∀ i, i < w.heap.size → i ≠ X → w'.heap[i]? = w.heap[i]?
section
variable {X : Nat} {a b c : World}
theorem But.of (h : Below a.heap.size a b) : But X a b := ⟨h.os, h.tape, h.output, h.size, fun i hi _ => h.block i hi⟩
theorem But.refl : But X a a := ⟨rfl, rfl, rfl, Nat.le_refl _, fun _ _ _ => rfl⟩
theorem But.set (h : But X a b) {p : Addr} (hp : p.block = X) (v : Value) : But X a (b.setCell p v) := ⟨h.os, h.tape, h.output, by simpa [World.setCell] using h.size, fun i hi hx => (Below.heap_setCell b p v i (by rw [hp]; exact hx)).trans (h.block i hi hx)⟩
theorem But.drew (h : But X a b) : But X a b.drew := ⟨h.os, h.tape, h.output, h.size, h.block⟩
theorem But.below (h : But X a b) {lo : Nat} (hX : lo ≤ X) (hl : lo ≤ a.heap.size) : Below lo a b := ⟨h.os, h.tape, h.output, h.size, fun i hi => h.block i (by omega) (by omega)⟩
theorem But.has {t : TypeId} {cs : Array Value} {B : Nat} (h : But X a b) (k : Has a B t cs) (hB : B ≠ X) : Has b B t cs := (h.block B k.lt hB).trans k
theorem But.rdl {lo : Nat} {A1 A2 : Option Addr} {l : Ls} (h : But X a b) (k : RdL a lo A1 A2 l) (hX : X < lo ∨ a.heap.size ≤ X) : RdL b lo A1 A2 l := k.keep h.size fun i h1 h2 => h.block i h2 (by omega)
theorem But.hol {B lo : Nat} {l : Ls} {n m G1 G2 d1 d2 : Nat} (h : But X a b) (k : HoL a B lo l n m G1 G2 d1 d2) (v : Vld l) (hB : B ≠ X) (h1 : G1 ≠ X) (h2 : G2 ≠ X) : HoL b B lo l n m G1 G2 d1 d2 := by
  have e := h.block B k.lt hB
  have hg := k.glt v
  refine ⟨(World.cell?_of_block (a := ⟨B, 0, none⟩) e).trans k.x0, (World.cell?_of_block (a := ⟨B, 1, none⟩) e).trans k.x1, fun o => (World.frozen?_of_block (a := ⟨B, o, none⟩) e).trans (k.fz o), k.n1, k.n2, k.lB, ⟨fun hc => ?_, fun hc => ?_⟩, k.hn, k.hm⟩
  · obtain ⟨b, o, q1, q2, q3, q4⟩ := k.rd.cs hc
    injection q1 with q1
    injection q1 with q5 q6
    subst q5
    exact ⟨_, o, by rw [q6], q2, Nat.lt_of_lt_of_le q3 h.size, fun i hi j u hu => (World.cell?_of_block (h.block _ hg.1 h1)).trans (q4 i hi j u hu)⟩
  · obtain ⟨b, o, q1, q2, q3, q4⟩ := k.rd.ps hc
    injection q1 with q1
    injection q1 with q5 q6
    subst q5
    exact ⟨_, o, by rw [q6], q2, Nat.lt_of_lt_of_le q3 h.size, fun i hi j u hu => (World.cell?_of_block (h.block _ hg.2 h2)).trans (q4 i hi j u hu)⟩
end
theorem rdr_set2 {α : Type} {enc : α → List Value} {k lo B : Nat} {w : World} {A : Option Addr} {l : List α} (h : RdR enc k w lo A l) (hB : B < lo) (u v : Value) : RdR enc k ((w.setCell ⟨B, 0, none⟩ u).setCell ⟨B, 1, none⟩ v) lo A l :=
  have k2 := ((But.refl (X := B) (a := w)).set (p := ⟨B, 0, none⟩) rfl u).set (p := ⟨B, 1, none⟩) rfl v
  RdR.keep h k2.size fun i h1 h2 => k2.block i h2 (by omega)
/-- What a drawn call of Start leaves: a box X that holds its list, the error E. R is what else stays. -/
def StRel (R : World → Prop) (l : Ls) (q n m lo : Nat) (s1 s2 : Value) (wx : World) : Prop := ∃ (X : Nat) (E kd c : Int) (P1 P2 : Option Addr) (a1 a2 f1 f2 : Nat), s1 = .pointer (some ⟨X, 0, none⟩) ∧ s2 = .int .i64 E ∧ wx.cell? ⟨X, 0, none⟩ = some (.slice P1 a1 f1) ∧ wx.cell? ⟨X, 1, none⟩ = some (.slice P2 a2 f2) ∧ R wx ∧ Hid (E = staE l (q : Int) kd c) ∧ Hid (E = 0 → ∃ K1 K2, P1 = some ⟨K1, 0, none⟩ ∧ P2 = some ⟨K2, 0, none⟩ ∧ n = a1 ∧ m = a2 ∧ RdL wx lo (some ⟨K1, 0, none⟩) (some ⟨K2, 0, none⟩) (begV l q kd c))
theorem StRel.mk {R : World → Prop} {l : Ls} {q n m lo base X : Nat} {E kd c : Int} {P1 P2 : Option Addr} {a1 a2 f1 f2 : Nat} {w6 wx : World} (hE : E = staE l (q : Int) kd c) (hok : E = 0 → ∃ G1 G2, P1 = some ⟨G1, 0, none⟩ ∧ P2 = some ⟨G2, 0, none⟩ ∧ a1 = n ∧ a2 = m ∧ RdL w6 base (some ⟨G1, 0, none⟩) (some ⟨G2, 0, none⟩) (begV l ((q : Int)).toNat kd c)) (hb : lo ≤ base) (hR : But X w6 wx → R wx) (k : But X w6 wx) (h0 : wx.cell? ⟨X, 0, none⟩ = some (.slice P1 a1 f1)) (h1 : wx.cell? ⟨X, 1, none⟩ = some (.slice P2 a2 f2)) (hX : X < base ∨ w6.heap.size ≤ X) : StRel R l q n m lo (.pointer (some ⟨X, 0, none⟩)) (.int .i64 E) wx := by
  refine ⟨X, E, kd, c, P1, P2, a1, a2, f1, f2, rfl, rfl, h0, h1, hR k, Lib.hid hE, Lib.hid fun he => ?_⟩
  obtain ⟨G1, G2, e1, e2, e3, e4, hr⟩ := hok he
  exact ⟨G1, G2, e1, e2, e3.symm, e4.symm, (k.rdl hr hX).low hb⟩
/-- What a drawn call of Step leaves: a box X that holds its list, whether it was a step. R is what else stays. -/
def SpRel (R : World → Prop) (l : Ls) (q : Int) (n m lo : Nat) (s1 s2 : Value) (wx : World) : Prop := ∃ (X G1 G2 d1 d2 : Nat) (b : Bool), s1 = .pointer (some ⟨X, 0, none⟩) ∧ s2 = .bool b ∧ wx.cell? ⟨X, 0, none⟩ = some (.slice (some ⟨G1, 0, none⟩) n d1) ∧ wx.cell? ⟨X, 1, none⟩ = some (.slice (some ⟨G2, 0, none⟩) m d2) ∧ R wx ∧ Hid (b = (stpO l q).isSome) ∧ RdL wx lo (some ⟨G1, 0, none⟩) (some ⟨G2, 0, none⟩) ((stpO l q).getD l)
theorem SpRel.mk {R : World → Prop} {l : Ls} {q : Int} {n m lo base X G1 G2 d1 d2 : Nat} {b : Bool} {w6 wx : World} (hb0 : b = (stpO l q).isSome) (hr : RdL w6 base (some ⟨G1, 0, none⟩) (some ⟨G2, 0, none⟩) ((stpO l q).getD l)) (hb : lo ≤ base) (hR : But X w6 wx → R wx) (k : But X w6 wx) (h0 : wx.cell? ⟨X, 0, none⟩ = some (.slice (some ⟨G1, 0, none⟩) n d1)) (h1 : wx.cell? ⟨X, 1, none⟩ = some (.slice (some ⟨G2, 0, none⟩) m d2)) (hX : X < base ∨ w6.heap.size ≤ X) : SpRel R l q n m lo (.pointer (some ⟨X, 0, none⟩)) (.bool b) wx :=
  ⟨X, G1, G2, d1, d2, b, rfl, rfl, h0, h1, hR k, Lib.hid hb0, (k.rdl hr hX).low hb⟩
set_option maxRecDepth 100000 in
theorem has_any (A : Option Addr) (ids : List Int) (m c lo : Nat) (id : Int) (w : World) (hm : ids.length = m) (hl : RdR nrow 1 w lo A ids) (hn : m ≤ 100000) :
    Calls Tryd.prog 25 #[.slice A m c, .int .i64 id] w fun e w' => e = .returned (.bool (ids.contains id)) ∧ w = w' := by
  have HC := Lib.hid (rhas_num A ids m c lo id w hm hl hn)
  generalize ids.contains id = V at *
  clear hm hl
  go_enter Tryd.func25, Tryd.ntmps25
  go_wp2_with fail
  refine HC.out.mono ?_
  rintro e w' ⟨rfl, rfl⟩
  go_wp2_with fail
  go_ret
  exact ⟨rfl, rfl⟩
theorem has_dec (l : List Nat) (i : Nat) : (nat2 l).contains (i : Int) = decide (i ∈ l) := by
  rw [Bool.eq_iff_iff]
  simp only [List.contains_iff_mem, nat2_mem, decide_eq_true_eq]
end Lk
end Go.Proofs.YtgmffgdhijcfcaaDoor
