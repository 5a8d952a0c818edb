/-
  A box that holds a list, across calls; the example of chapter 11. No condition.
-/
import Derived.Test.YtgmffgdhijcfcaaDoorKzX
import Derived.Test.YtgmffgdhijcfcaaDoorMaT
namespace Go.Proofs.YtgmffgdhijcfcaaDoor
open Go.RowKit Go.Maps
namespace Lk
/-- Box B holds the list l, whose rows lie from lo on. -/
structure HoL (w : World) (B lo : Nat) (l : Ls) (n m G1 G2 d1 d2 : Nat) : Prop where
  x0 : w.cell? ⟨B, 0, none⟩ = some (.slice (some ⟨G1, 0, none⟩) n d1)
  x1 : w.cell? ⟨B, 1, none⟩ = some (.slice (some ⟨G2, 0, none⟩) m d2)
  fz : ∀ o, w.frozen? ⟨B, o, none⟩ = false
  n1 : G1 ≠ B
  n2 : G2 ≠ B
  lB : lo ≤ B
  rd : RdL w lo (some ⟨G1, 0, none⟩) (some ⟨G2, 0, none⟩) l
  hn : l.cs.length = n
  hm : l.ps.length = m
section
variable {w w' : World} {B lo : Nat} {l l' : Ls} {n m G1 G2 d1 d2 : Nat}
theorem HoL.lt (h : HoL w B lo l n m G1 G2 d1 d2) : B < w.heap.size := World.block_lt_of_cell? w _ h.x0
theorem HoL.keep (h : HoL w B lo l n m G1 G2 d1 d2) (hs : w.heap.size ≤ w'.heap.size) (q : ∀ i, lo ≤ i → i < w.heap.size → w'.heap[i]? = w.heap[i]?) : HoL w' B lo l n m G1 G2 d1 d2 :=
  have e := q B h.lB h.lt
  ⟨(World.cell?_of_block (a := ⟨B, 0, none⟩) e).trans h.x0, (World.cell?_of_block (a := ⟨B, 1, none⟩) e).trans h.x1, fun o => (World.frozen?_of_block (a := ⟨B, o, none⟩) e).trans (h.fz o), h.n1, h.n2, h.lB, h.rd.keep hs q, h.hn, h.hm⟩
theorem HoL.below (h : HoL w B lo l n m G1 G2 d1 d2) (q : Below w.heap.size w w') : HoL w' B lo l n m G1 G2 d1 d2 := h.keep q.size fun i _ h2 => q.block i h2
theorem HoL.step (h : HoL w B lo l n m G1 G2 d1 d2) {g : Nat} (hg : g < lo) (q : TStep w g w') : HoL w' B lo l n m G1 G2 d1 d2 := h.keep q.2.size fun i h1 h2 => q.2.block i h2 (fun e => by have := Option.some.inj e; omega)
theorem HoL.drew (h : HoL w B lo l n m G1 G2 d1 d2) : HoL w.drew B lo l n m G1 G2 d1 d2 := h.keep (Nat.le_refl _) fun _ _ _ => rfl
/-- Another box is stored to. -/
theorem HoL.far (h : HoL w B lo l n m G1 G2 d1 d2) {p : Addr} (h0 : p.block ≠ B) (h1 : p.block ≠ G1) (h2 : p.block ≠ G2) (v : Value) : HoL (w.setCell p v) B lo l n m G1 G2 d1 d2 := by
  have hb : ∀ i, i ≠ p.block → (w.setCell p v).heap[i]? = w.heap[i]? := fun i hi => Below.heap_setCell w p v i hi
  have e := hb B (fun q => h0 q.symm)
  refine ⟨(World.cell?_of_block (a := ⟨B, 0, none⟩) e).trans h.x0, (World.cell?_of_block (a := ⟨B, 1, none⟩) e).trans h.x1, fun o => (World.frozen?_of_block (a := ⟨B, o, none⟩) e).trans (h.fz o), h.n1, h.n2, h.lB, ⟨fun hc => ?_, fun hc => ?_⟩, h.hn, h.hm⟩
  · obtain ⟨b, o, q1, q2, q3, q4⟩ := h.rd.cs hc
    injection q1 with q1
    injection q1 with q5 q6
    subst q5
    exact ⟨_, o, by rw [q6], q2, by simpa using q3, fun i hi j u hu => (World.cell?_of_block (hb _ (fun q => h1 q.symm))).trans (q4 i hi j u hu)⟩
  · obtain ⟨b, o, q1, q2, q3, q4⟩ := h.rd.ps hc
    injection q1 with q1
    injection q1 with q5 q6
    subst q5
    exact ⟨_, o, by rw [q6], q2, by simpa using q3, fun i hi j u hu => (World.cell?_of_block (hb _ (fun q => h2 q.symm))).trans (q4 i hi j u hu)⟩
theorem rd_lo {G1 G2 : Nat} (h : RdL w lo (some ⟨G1, 0, none⟩) (some ⟨G2, 0, none⟩) l) (v : Vld l) : lo ≤ G1 ∧ lo ≤ G2 := by
  constructor
  · obtain ⟨b, o, e, h1, _⟩ := h.cs (by intro e; have := v.n2; rw [e] at this; simp at this)
    injection e with e
    injection e with e1 e2
    omega
  · obtain ⟨b, o, e, h1, _⟩ := h.ps (by intro e; have := v.m1; rw [e] at this; simp at this)
    injection e with e
    injection e with e1 e2
    omega
/-- Both cells of a box are stored: a list whose rows are elsewhere. -/
theorem HoL.mk2 {B : Nat} (hx0 : w.cell? ⟨B, 0, none⟩ ≠ none) (hx1 : w.cell? ⟨B, 1, none⟩ ≠ none) (hf : ∀ o, w.frozen? ⟨B, o, none⟩ = false) (hlB : lo ≤ B) (hr : RdL w lo (some ⟨G1, 0, none⟩) (some ⟨G2, 0, none⟩) l) (n1 : G1 ≠ B) (n2 : G2 ≠ B) (hn : l.cs.length = n) (hm : l.ps.length = m) :
    HoL ((w.setCell ⟨B, 0, none⟩ (.slice (some ⟨G1, 0, none⟩) n d1)).setCell ⟨B, 1, none⟩ (.slice (some ⟨G2, 0, none⟩) m d2)) B lo l n m G1 G2 d1 d2 := by
  obtain ⟨a, ha⟩ := Option.ne_none_iff_exists'.1 hx0
  obtain ⟨b, hb⟩ := Option.ne_none_iff_exists'.1 hx1
  have h2 := twice0 w B (.slice (some ⟨G1, 0, none⟩) n d1) (.slice (some ⟨G2, 0, none⟩) m d2) a b ha hb
  have hk : ∀ i, i ≠ B → ((w.setCell ⟨B, 0, none⟩ (.slice (some ⟨G1, 0, none⟩) n d1)).setCell ⟨B, 1, none⟩ (.slice (some ⟨G2, 0, none⟩) m d2)).heap[i]? = w.heap[i]? := fun i hi => by
    rw [Below.heap_setCell _ _ _ _ hi, Below.heap_setCell _ _ _ _ hi]
  refine ⟨h2.1, h2.2, fun o => by rw [World.frozen?_setCell, World.frozen?_setCell]; exact hf o, n1, n2, hlB, ⟨fun hc => ?_, fun hc => ?_⟩, hn, hm⟩
  · obtain ⟨b, o, q1, q2, q3, q4⟩ := hr.cs hc
    injection q1 with q1
    injection q1 with q5 q6
    subst q5
    exact ⟨_, o, by rw [q6], q2, by simpa using q3, fun i hi j u hu => (World.cell?_of_block (hk _ n1)).trans (q4 i hi j u hu)⟩
  · obtain ⟨b, o, q1, q2, q3, q4⟩ := hr.ps hc
    injection q1 with q1
    injection q1 with q5 q6
    subst q5
    exact ⟨_, o, by rw [q6], q2, by simpa using q3, fun i hi j u hu => (World.cell?_of_block (hk _ n2)).trans (q4 i hi j u hu)⟩
/-- What a call made is stored in the box. -/
theorem HoL.put {g1 g2 e1 e2 n' m' : Nat} (h : HoL w B lo l n m g1 g2 e1 e2) (hb : Below w.heap.size w w') (hr : RdL w' w.heap.size (some ⟨G1, 0, none⟩) (some ⟨G2, 0, none⟩) l') (v : Vld l') (hn : l'.cs.length = n') (hm : l'.ps.length = m') :
    HoL ((w'.setCell ⟨B, 0, none⟩ (.slice (some ⟨G1, 0, none⟩) n' d1)).setCell ⟨B, 1, none⟩ (.slice (some ⟨G2, 0, none⟩) m' d2)) B lo l' n' m' G1 G2 d1 d2 := by
  have hl := rd_lo hr v
  have hB := h.lt
  have h' := h.below hb
  exact HoL.mk2 (by rw [h'.x0]; simp) (by rw [h'.x1]; simp) h'.fz h.lB (hr.low (by have := h.lB; omega)) (by omega) (by omega) hn hm
/-- A new box. -/
theorem HoL.new {t : TypeId} (hr : RdL w lo (some ⟨G1, 0, none⟩) (some ⟨G2, 0, none⟩) l) (v : Vld l) (hlo : lo ≤ w.heap.size) (hn : l.cs.length = n) (hm : l.ps.length = m) :
    HoL (w.alloc (.cells #[.slice (some ⟨G1, 0, none⟩) n d1, .slice (some ⟨G2, 0, none⟩) m d2] t)) w.heap.size lo l n m G1 G2 d1 d2 := by
  have hx := Has.new w t #[.slice (some ⟨G1, 0, none⟩) n d1, .slice (some ⟨G2, 0, none⟩) m d2]
  have hb := (Below.refl w.heap.size w).alloc (Nat.le_refl _) (.cells #[.slice (some ⟨G1, 0, none⟩) n d1, .slice (some ⟨G2, 0, none⟩) m d2] t)
  have h1 : G1 < w.heap.size := by
    obtain ⟨b, o, e, h1, h2, _⟩ := hr.cs (by intro e; have := v.n2; rw [e] at this; simp at this)
    injection e with e
    injection e with e1 e2
    omega
  have h2 : G2 < w.heap.size := by
    obtain ⟨b, o, e, h1, h2, _⟩ := hr.ps (by intro e; have := v.m1; rw [e] at this; simp at this)
    injection e with e
    injection e with e1 e2
    omega
  exact ⟨hx.cell 0, hx.cell 1, hx.frozen, by omega, by omega, hlo, hr.below hb, hn, hm⟩
end
/-- The lists of the example. -/
def xs : Nat → Ls
  | 0 => x1 | 1 => x2 | 2 => x3 | 3 => x4 | 4 => x5 | 5 => x6 | 6 => x7 | 7 => x8 | _ => x9
theorem xs_step {k : Nat} (h : k < 8) : stpO (xs k) 0 = some (xs (k + 1)) := by
  match k, h with
  | 0, _ => exact x_s1
  | 1, _ => exact x_s2
  | 2, _ => exact x_s3
  | 3, _ => exact x_s4
  | 4, _ => exact x_s5
  | 5, _ => exact x_s6
  | 6, _ => exact x_s7
  | 7, _ => exact x_s8
theorem xs_last {k : Nat} (h : 8 ≤ k) : xs k = x9 ∧ stpO (xs k) 0 = none := by
  match k, h with
  | k + 8, _ => exact ⟨rfl, rfl⟩
theorem xs_led : ∀ k, Led (xs k)
  | 0 => x_led1
  | 1 => led_step x_led1 (by decide) x_s1
  | 2 => led_step (xs_led 1) (by decide) x_s2
  | 3 => led_step (xs_led 2) (by decide) x_s3
  | 4 => led_step (xs_led 3) (by decide) x_s4
  | 5 => led_step (xs_led 4) (by decide) x_s5
  | 6 => led_step (xs_led 5) (by decide) x_s6
  | 7 => led_step (xs_led 6) (by decide) x_s7
  | _ + 8 => x_led9
theorem xs_len : ∀ k, (xs k).cs.length = 3 ∧ (xs k).ps.length = 1
  | 0 => ⟨rfl, rfl⟩ | 1 => ⟨rfl, rfl⟩ | 2 => ⟨rfl, rfl⟩ | 3 => ⟨rfl, rfl⟩ | 4 => ⟨rfl, rfl⟩ | 5 => ⟨rfl, rfl⟩ | 6 => ⟨rfl, rfl⟩ | 7 => ⟨rfl, rfl⟩ | _ + 8 => ⟨rfl, rfl⟩
end Lk
end Go.Proofs.YtgmffgdhijcfcaaDoor
