/-
  Same of the reference of chapter 11, Has and SameInts of that of chapter 5: for what is the same, or any numbers. Condition: what is read can be read.
  A box that holds a list, across calls; the example of chapter 11. No condition.
  Words for the walks of chapter 11's statements: what Start and Step lead to; a world in which one block has turned. Conditions: those of each.
  The example of chapter 11. No condition.
-/
import Derived.Test.YtmhbloefmknikaaGreatDoorKzW
import Derived.Test.YtmhbloefmknikaaGreatDoorLzX
import Derived.Test.YtmhbloefmknikaaGreatDoorMaT
namespace Go.Proofs.YtmhbloefmknikaaGreatDoor
section
open Go.RowKit Go.Maps
namespace Lk

theorem eq_ce (x : Ce) (w : World) : (Op.equalIn 10000 66 x.val x.val).run Tryz.prog w = .ok true w := by
  unfold Ce.val
  rw [run_equalIn_agg w 9999 66 _ _ (by kernel_rfl) (by kernel_rfl)]
  simp [go_sem, Tryz.underlying66, Tryz.underlying3, Tryz.underlying9, Tryz.underlying4]
theorem neq_ce (x : Ce) (w : World) : (binOp .neq 66 x.val x.val).run Tryz.prog w = .ok (.bool false) w := by
  unfold Ce.val
  rw [run_neq_struct]
  have := eq_ce x w
  unfold Ce.val at this
  rw [this]
  rfl
theorem eq_po (x : Po) (w : World) : (Op.equalIn 10000 63 x.val x.val).run Tryz.prog w = .ok true w := by
  unfold Po.val
  rw [run_equalIn_agg w 9999 63 _ _ (by kernel_rfl) (by kernel_rfl)]
  simp [go_sem, Tryz.underlying63, Tryz.underlying3, Tryz.underlying4]
theorem neq_po (x : Po) (w : World) : (binOp .neq 63 x.val x.val).run Tryz.prog w = .ok (.bool false) w := by
  unfold Po.val
  rw [run_neq_struct]
  have := eq_po x w
  unfold Po.val at this
  rw [this]
  rfl
set_option maxRecDepth 100000 in
set_option maxHeartbeats 3200000 in
theorem rsame_self (A1 A2 B1 B2 : Option Addr) (l : Ls) (n m c1 c2 d1 d2 lo1 lo2 : Nat) (w : World) (hn : l.cs.length = n) (hm : l.ps.length = m) (h1 : RdL w lo1 A1 A2 l) (h2 : RdL w lo2 B1 B2 l) (n6 : n ≤ 1000000) (m6 : m ≤ 1000000) :
    Calls Tryz.prog 16 #[.agg #[.slice A1 n c1, .slice A2 m c2], .agg #[.slice B1 n d1, .slice B2 m d2]] w (Quiet (.bool true) w) := by
  have hb1 := (Below.refl w.heap.size w).alloc (Nat.le_refl _) (.cells #[.slice A1 n c1, .slice A2 m c2] 28)
  have hb2 := (Below.refl (w.alloc (.cells #[.slice A1 n c1, .slice A2 m c2] 28)).heap.size _).alloc (Nat.le_refl _) (.cells #[.slice B1 n d1, .slice B2 m d2] 28)
  have hb := hb1.trans (hb2.mono hb1.size)
  have HB := Lib.hid hb
  have HX := Lib.hid ((Has.new w 28 #[.slice A1 n c1, .slice A2 m c2]).below hb2)
  have HY := Lib.hid (Has.new (w.alloc (.cells #[.slice A1 n c1, .slice A2 m c2] 28)) 28 #[.slice B1 n d1, .slice B2 m d2])
  have H1 := Lib.hid (h1.below hb)
  have H2 := Lib.hid (h2.below hb)
  have HN := Lib.hid hn
  have HM := Lib.hid hm
  have hz : ((n : Int) != (n : Int)) = false := by simp
  have hz2 : ((m : Int) != (m : Int)) = false := by simp
  have hNE := fun x V => neq_ce x V
  have hNP := fun x V => neq_po x V
  clear hb1 hb2 hb h1 h2 hn hm
  go_enter Tryz.func16, Tryz.ntmps16
  go_upto_region 1 with fail
  have hsz : w.heap.size + 1 + 1 = ((w.alloc (.cells #[.slice A1 n c1, .slice A2 m c2] 28)).alloc (.cells #[.slice B1 n d1, .slice B2 m d2] 28)).heap.size := by rw [World.size_alloc, World.size_alloc]
  rw [World.size_alloc] at HY
  generalize (w.alloc (.cells #[.slice A1 n c1, .slice A2 m c2] 28)).alloc (.cells #[.slice B1 n d1, .slice B2 m d2] 28) = W at *
  have x0 := HX.out.cell 0
  have x1 := HX.out.cell 1
  have y0 := HY.out.cell 0
  have y1 := HY.out.cell 1
  go_wp2_with fail
  go_loopw [5] (fun i wr => ∃ k : Nat, i = .int .i64 (k : Int) ∧ k ≤ n ∧ Below W.heap.size W wr) (fun i _ => n - (intOf i).toNat)
  case atStart => exact ⟨0, rfl, by omega, Below.refl _ _⟩
  case round =>
    obtain ⟨k, rfl, hk, hB⟩ := hrel
    clear x0 x1 y0 y1
    have x0 := (HX.out.below hB).cell 0
    have x1 := (HX.out.below hB).cell 1
    have y0 := (HY.out.below hB).cell 0
    have y1 := (HY.out.below hB).cell 1
    by_cases hlt : k < n
    · obtain ⟨b1, o1, e1, -, q1, f0, f1, f2, f3, f4⟩ := H1.out.cell (i := k) (by rw [HN.out]; exact hlt)
      obtain ⟨b2, o2, e2, -, q2, g0, g1, g2, g3, g4⟩ := H2.out.cell (i := k) (by rw [HN.out]; exact hlt)
      subst e1 e2
      replace f0 := (hB.cell (p := ⟨b1, o1 + k * 5, none⟩) q1).trans f0
      replace f1 := (hB.cell (p := ⟨b1, o1 + k * 5 + 1, none⟩) q1).trans f1
      replace f2 := (hB.cell (p := ⟨b1, o1 + k * 5 + 2, none⟩) q1).trans f2
      replace f3 := (hB.cell (p := ⟨b1, o1 + k * 5 + 3, none⟩) q1).trans f3
      replace f4 := (hB.cell (p := ⟨b1, o1 + k * 5 + 4, none⟩) q1).trans f4
      replace g0 := (hB.cell (p := ⟨b2, o2 + k * 5, none⟩) q2).trans g0
      replace g1 := (hB.cell (p := ⟨b2, o2 + k * 5 + 1, none⟩) q2).trans g1
      replace g2 := (hB.cell (p := ⟨b2, o2 + k * 5 + 2, none⟩) q2).trans g2
      replace g3 := (hB.cell (p := ⟨b2, o2 + k * 5 + 3, none⟩) q2).trans g3
      replace g4 := (hB.cell (p := ⟨b2, o2 + k * 5 + 4, none⟩) q2).trans g4
      have hne := fun V => hNE (l.at_ k) V
      generalize l.at_ k = x at *
      obtain ⟨xk, xl, xr, xo, xg⟩ := x
      unfold Ce.val at hne
      simp only at f0 f1 f2 f3 f4 g0 g1 g2 g3 g4 hne
      have i0 : (0 : Int) ≤ (k : Int) := by omega
      have i1 : (k : Int) < (n : Int) := by omega
      have HB1 := Lib.hid hB
      clear hB hNE hNP q1 q2
      go_wp2_with fail
      go_quiet (fail)
      go_wp2_with fail
      exact ⟨⟨k + 1, by go_num, hlt, below_drw HB1.out _⟩, by simp [intOf]; omega⟩
    · obtain rfl : k = n := by omega
      have HB1 := Lib.hid hB
      clear hB hlt
      go_wp2_with fail
      go_loopw [6] (fun i wr => ∃ k : Nat, i = .int .i64 (k : Int) ∧ k ≤ m ∧ Below W.heap.size W wr) (fun i _ => m - (intOf i).toNat)
      case atStart => exact ⟨0, rfl, by omega, HB1.out⟩
      case round =>
        obtain ⟨j, rfl, hj, hB⟩ := hrel
        clear x0 x1 y0 y1
        have x0 := (HX.out.below hB).cell 0
        have x1 := (HX.out.below hB).cell 1
        have y0 := (HY.out.below hB).cell 0
        have y1 := (HY.out.below hB).cell 1
        by_cases hlt : j < m
        · obtain ⟨b1, o1, e1, -, q1, f0, f1, f2, f3, f4, f5, f6⟩ := H1.out.proc (i := j) (by rw [HM.out]; exact hlt)
          obtain ⟨b2, o2, e2, -, q2, g0, g1, g2, g3, g4, g5, g6⟩ := H2.out.proc (i := j) (by rw [HM.out]; exact hlt)
          subst e1 e2
          replace f0 := (hB.cell (p := ⟨b1, o1 + j * 7, none⟩) q1).trans f0
          replace f1 := (hB.cell (p := ⟨b1, o1 + j * 7 + 1, none⟩) q1).trans f1
          replace f2 := (hB.cell (p := ⟨b1, o1 + j * 7 + 2, none⟩) q1).trans f2
          replace f3 := (hB.cell (p := ⟨b1, o1 + j * 7 + 3, none⟩) q1).trans f3
          replace f4 := (hB.cell (p := ⟨b1, o1 + j * 7 + 4, none⟩) q1).trans f4
          replace f5 := (hB.cell (p := ⟨b1, o1 + j * 7 + 5, none⟩) q1).trans f5
          replace f6 := (hB.cell (p := ⟨b1, o1 + j * 7 + 6, none⟩) q1).trans f6
          replace g0 := (hB.cell (p := ⟨b2, o2 + j * 7, none⟩) q2).trans g0
          replace g1 := (hB.cell (p := ⟨b2, o2 + j * 7 + 1, none⟩) q2).trans g1
          replace g2 := (hB.cell (p := ⟨b2, o2 + j * 7 + 2, none⟩) q2).trans g2
          replace g3 := (hB.cell (p := ⟨b2, o2 + j * 7 + 3, none⟩) q2).trans g3
          replace g4 := (hB.cell (p := ⟨b2, o2 + j * 7 + 4, none⟩) q2).trans g4
          replace g5 := (hB.cell (p := ⟨b2, o2 + j * 7 + 5, none⟩) q2).trans g5
          replace g6 := (hB.cell (p := ⟨b2, o2 + j * 7 + 6, none⟩) q2).trans g6
          have hne := fun V => hNP (l.pr j) V
          generalize l.pr j = x at *
          obtain ⟨xk, xc, xp, xd, xs, xx, xr⟩ := x
          unfold Po.val at hne
          simp only at f0 f1 f2 f3 f4 f5 f6 g0 g1 g2 g3 g4 g5 g6 hne
          have i0 : (0 : Int) ≤ (j : Int) := by omega
          have i1 : (j : Int) < (m : Int) := by omega
          have HB2 := Lib.hid hB
          clear hB hNE hNP q1 q2
          go_wp2_with fail
          go_quiet (fail)
          go_wp2_with fail
          exact ⟨⟨j + 1, by go_num, hlt, below_drw HB2.out _⟩, by simp [intOf]; omega⟩
        · have HB2 := Lib.hid hB
          clear hB
          go_wp2_with fail
          go_ret
          exact ⟨rfl, HB.out.trans (HB2.out.mono (by rw [← hsz]; omega))⟩
set_option maxRecDepth 100000 in
set_option maxHeartbeats 800000 in
theorem rsameInts_self (A1 A2 : Option Addr) (a : List Int) (n c1 c2 lo1 lo2 : Nat) (w : World) (hn : a.length = n) (h1 : RdR nrow 1 w lo1 A1 a) (h2 : RdR nrow 1 w lo2 A2 a) (n6 : n ≤ 1000000) :
    Calls Tryz.prog 19 #[.slice A1 n c1, .slice A2 n c2] w (Quiet (.bool true) w) := by
  have hnn : ((n : Int) != (n : Int)) = false := by simp
  have HN := Lib.hid hn
  clear hn
  go_enter Tryz.func19, Tryz.ntmps19
  go_wp2_with fail
  go_loopw [5] (fun i wr => ∃ k : Nat, i = .int .i64 (k : Int) ∧ k ≤ n ∧ Below w.heap.size w wr) (fun i _ => n - (intOf i).toNat)
  case atStart => exact ⟨0, rfl, by omega, Below.refl _ _⟩
  case round =>
    clear hnn
    obtain ⟨k, rfl, hk, hB⟩ := hrel
    by_cases hlt : k < n
    · have k1 : k < a.length := by rw [HN.out]; exact hlt
      obtain ⟨b1, o1, e1, -, hb1, f1⟩ := num_at h1 k1
      obtain ⟨b2, o2, e2, -, hb2, f2⟩ := num_at h2 k1
      subst e1 e2
      replace f1 := (hB.cell (p := ⟨b1, o1 + k, none⟩) hb1).trans f1
      replace f2 := (hB.cell (p := ⟨b2, o2 + k, none⟩) hb2).trans f2
      generalize a[k] = x at *
      have hx : ((x : Int) != x) = false := by simp
      have i0 : (0 : Int) ≤ (k : Int) := by omega
      have i1 : (k : Int) < (n : Int) := by omega
      clear k1
      go_wp2_with fail
      go_quiet (fail)
      go_wp2_with fail
      exact ⟨⟨k + 1, by go_num, hlt, below_drw hB _⟩, by simp [intOf]; omega⟩
    · go_wp2_with fail
      go_ret
      exact ⟨rfl, hB⟩
end Lk
end
section
open Go.RowKit Go.Maps
namespace Lk
/-- Box B holds the list l, whose rows lie from lo on. -/
structure HoL (w : World) (B lo : Nat) (l : Ls) (n m G1 G2 d1 d2 : Nat) : Prop where
  x0 : w.cell? ⟨B, 0, none⟩ = some (.slice (some ⟨G1, 0, none⟩) n d1)
  x1 : w.cell? ⟨B, 1, none⟩ = some (.slice (some ⟨G2, 0, none⟩) m d2)
  fz : ∀ o, w.frozen? ⟨B, o, none⟩ = false
  n1 : G1 ≠ B
  n2 : G2 ≠ B
  lB : lo ≤ B
  rd : RdL w lo (some ⟨G1, 0, none⟩) (some ⟨G2, 0, none⟩) l
  hn : l.cs.length = n
  hm : l.ps.length = m
section
variable {w w' : World} {B lo : Nat} {l l' : Ls} {n m G1 G2 d1 d2 : Nat}
theorem HoL.lt (h : HoL w B lo l n m G1 G2 d1 d2) : B < w.heap.size := World.block_lt_of_cell? w _ h.x0
theorem HoL.keep (h : HoL w B lo l n m G1 G2 d1 d2) (hs : w.heap.size ≤ w'.heap.size) (q : ∀ i, lo ≤ i → i < w.heap.size → w'.heap[i]? = w.heap[i]?) : HoL w' B lo l n m G1 G2 d1 d2 :=
  have e := q B h.lB h.lt
  ⟨(World.cell?_of_block (a := ⟨B, 0, none⟩) e).trans h.x0, (World.cell?_of_block (a := ⟨B, 1, none⟩) e).trans h.x1, fun o => (World.frozen?_of_block (a := ⟨B, o, none⟩) e).trans (h.fz o), h.n1, h.n2, h.lB, h.rd.keep hs q, h.hn, h.hm⟩
theorem HoL.below (h : HoL w B lo l n m G1 G2 d1 d2) (q : Below w.heap.size w w') : HoL w' B lo l n m G1 G2 d1 d2 := h.keep q.size fun i _ h2 => q.block i h2
theorem HoL.step (h : HoL w B lo l n m G1 G2 d1 d2) {g : Nat} (hg : g < lo) (q : TStep w g w') : HoL w' B lo l n m G1 G2 d1 d2 := h.keep q.2.size fun i h1 h2 => q.2.block i h2 (fun e => by have := Option.some.inj e; omega)
theorem HoL.drew (h : HoL w B lo l n m G1 G2 d1 d2) : HoL w.drew B lo l n m G1 G2 d1 d2 := h.keep (Nat.le_refl _) fun _ _ _ => rfl
/-- Another box is stored to. -/
theorem HoL.far (h : HoL w B lo l n m G1 G2 d1 d2) {p : Addr} (h0 : p.block ≠ B) (h1 : p.block ≠ G1) (h2 : p.block ≠ G2) (v : Value) : HoL (w.setCell p v) B lo l n m G1 G2 d1 d2 := by
  have hb : ∀ i, i ≠ p.block → (w.setCell p v).heap[i]? = w.heap[i]? := fun i hi => Below.heap_setCell w p v i hi
  have e := hb B (fun q => h0 q.symm)
  refine ⟨(World.cell?_of_block (a := ⟨B, 0, none⟩) e).trans h.x0, (World.cell?_of_block (a := ⟨B, 1, none⟩) e).trans h.x1, fun o => (World.frozen?_of_block (a := ⟨B, o, none⟩) e).trans (h.fz o), h.n1, h.n2, h.lB, ⟨fun hc => ?_, fun hc => ?_⟩, h.hn, h.hm⟩
  · obtain ⟨b, o, q1, q2, q3, q4⟩ := h.rd.cs hc
    injection q1 with q1
    injection q1 with q5 q6
    subst q5
    exact ⟨_, o, by rw [q6], q2, by simpa using q3, fun i hi j u hu => (World.cell?_of_block (hb _ (fun q => h1 q.symm))).trans (q4 i hi j u hu)⟩
  · obtain ⟨b, o, q1, q2, q3, q4⟩ := h.rd.ps hc
    injection q1 with q1
    injection q1 with q5 q6
    subst q5
    exact ⟨_, o, by rw [q6], q2, by simpa using q3, fun i hi j u hu => (World.cell?_of_block (hb _ (fun q => h2 q.symm))).trans (q4 i hi j u hu)⟩
theorem rd_lo {G1 G2 : Nat} (h : RdL w lo (some ⟨G1, 0, none⟩) (some ⟨G2, 0, none⟩) l) (v : Vld l) : lo ≤ G1 ∧ lo ≤ G2 := by
  constructor
  · obtain ⟨b, o, e, h1, _⟩ := h.cs (by intro e; have := v.n2; rw [e] at this; simp at this)
    injection e with e
    injection e with e1 e2
    omega
  · obtain ⟨b, o, e, h1, _⟩ := h.ps (by intro e; have := v.m1; rw [e] at this; simp at this)
    injection e with e
    injection e with e1 e2
    omega
/-- Both cells of a box are stored: a list whose rows are elsewhere. -/
theorem HoL.mk2 {B : Nat} (hx0 : w.cell? ⟨B, 0, none⟩ ≠ none) (hx1 : w.cell? ⟨B, 1, none⟩ ≠ none) (hf : ∀ o, w.frozen? ⟨B, o, none⟩ = false) (hlB : lo ≤ B) (hr : RdL w lo (some ⟨G1, 0, none⟩) (some ⟨G2, 0, none⟩) l) (n1 : G1 ≠ B) (n2 : G2 ≠ B) (hn : l.cs.length = n) (hm : l.ps.length = m) :
    HoL ((w.setCell ⟨B, 0, none⟩ (.slice (some ⟨G1, 0, none⟩) n d1)).setCell ⟨B, 1, none⟩ (.slice (some ⟨G2, 0, none⟩) m d2)) B lo l n m G1 G2 d1 d2 := by
  obtain ⟨a, ha⟩ := Option.ne_none_iff_exists'.1 hx0
  obtain ⟨b, hb⟩ := Option.ne_none_iff_exists'.1 hx1
  have h2 := twice0 w B (.slice (some ⟨G1, 0, none⟩) n d1) (.slice (some ⟨G2, 0, none⟩) m d2) a b ha hb
  have hk : ∀ i, i ≠ B → ((w.setCell ⟨B, 0, none⟩ (.slice (some ⟨G1, 0, none⟩) n d1)).setCell ⟨B, 1, none⟩ (.slice (some ⟨G2, 0, none⟩) m d2)).heap[i]? = w.heap[i]? := fun i hi => by
    rw [Below.heap_setCell _ _ _ _ hi, Below.heap_setCell _ _ _ _ hi]
  refine ⟨h2.1, h2.2, fun o => by rw [World.frozen?_setCell, World.frozen?_setCell]; exact hf o, n1, n2, hlB, ⟨fun hc => ?_, fun hc => ?_⟩, hn, hm⟩
  · obtain ⟨b, o, q1, q2, q3, q4⟩ := hr.cs hc
    injection q1 with q1
    injection q1 with q5 q6
    subst q5
    exact ⟨_, o, by rw [q6], q2, by simpa using q3, fun i hi j u hu => (World.cell?_of_block (hk _ n1)).trans (q4 i hi j u hu)⟩
  · obtain ⟨b, o, q1, q2, q3, q4⟩ := hr.ps hc
    injection q1 with q1
    injection q1 with q5 q6
    subst q5
    exact ⟨_, o, by rw [q6], q2, by simpa using q3, fun i hi j u hu => (World.cell?_of_block (hk _ n2)).trans (q4 i hi j u hu)⟩
/-- What a call made is stored in the box. -/
theorem HoL.put {g1 g2 e1 e2 n' m' : Nat} (h : HoL w B lo l n m g1 g2 e1 e2) (hb : Below w.heap.size w w') (hr : RdL w' w.heap.size (some ⟨G1, 0, none⟩) (some ⟨G2, 0, none⟩) l') (v : Vld l') (hn : l'.cs.length = n') (hm : l'.ps.length = m') :
    HoL ((w'.setCell ⟨B, 0, none⟩ (.slice (some ⟨G1, 0, none⟩) n' d1)).setCell ⟨B, 1, none⟩ (.slice (some ⟨G2, 0, none⟩) m' d2)) B lo l' n' m' G1 G2 d1 d2 := by
  have hl := rd_lo hr v
  have hB := h.lt
  have h' := h.below hb
  exact HoL.mk2 (by rw [h'.x0]; simp) (by rw [h'.x1]; simp) h'.fz h.lB (hr.low (by have := h.lB; omega)) (by omega) (by omega) hn hm
/-- A new box. -/
theorem HoL.new {t : TypeId} (hr : RdL w lo (some ⟨G1, 0, none⟩) (some ⟨G2, 0, none⟩) l) (v : Vld l) (hlo : lo ≤ w.heap.size) (hn : l.cs.length = n) (hm : l.ps.length = m) :
    HoL (w.alloc (.cells #[.slice (some ⟨G1, 0, none⟩) n d1, .slice (some ⟨G2, 0, none⟩) m d2] t)) w.heap.size lo l n m G1 G2 d1 d2 := by
  have hx := Has.new w t #[.slice (some ⟨G1, 0, none⟩) n d1, .slice (some ⟨G2, 0, none⟩) m d2]
  have hb := (Below.refl w.heap.size w).alloc (Nat.le_refl _) (.cells #[.slice (some ⟨G1, 0, none⟩) n d1, .slice (some ⟨G2, 0, none⟩) m d2] t)
  have h1 : G1 < w.heap.size := by
    obtain ⟨b, o, e, h1, h2, _⟩ := hr.cs (by intro e; have := v.n2; rw [e] at this; simp at this)
    injection e with e
    injection e with e1 e2
    omega
  have h2 : G2 < w.heap.size := by
    obtain ⟨b, o, e, h1, h2, _⟩ := hr.ps (by intro e; have := v.m1; rw [e] at this; simp at this)
    injection e with e
    injection e with e1 e2
    omega
  exact ⟨hx.cell 0, hx.cell 1, hx.frozen, by omega, by omega, hlo, hr.below hb, hn, hm⟩
end
/-- The lists of the example. -/
def xs : Nat → Ls
  | 0 => x1 | 1 => x2 | 2 => x3 | 3 => x4 | 4 => x5 | 5 => x6 | 6 => x7 | 7 => x8 | _ => x9
theorem xs_step {k : Nat} (h : k < 8) : stpO (xs k) 0 = some (xs (k + 1)) := by
  match k, h with
  | 0, _ => exact x_s1
  | 1, _ => exact x_s2
  | 2, _ => exact x_s3
  | 3, _ => exact x_s4
  | 4, _ => exact x_s5
  | 5, _ => exact x_s6
  | 6, _ => exact x_s7
  | 7, _ => exact x_s8
theorem xs_last {k : Nat} (h : 8 ≤ k) : xs k = x9 ∧ stpO (xs k) 0 = none := by
  match k, h with
  | k + 8, _ => exact ⟨rfl, rfl⟩
theorem xs_led : ∀ k, Led (xs k)
  | 0 => x_led1
  | 1 => led_step x_led1 (by decide) x_s1
  | 2 => led_step (xs_led 1) (by decide) x_s2
  | 3 => led_step (xs_led 2) (by decide) x_s3
  | 4 => led_step (xs_led 3) (by decide) x_s4
  | 5 => led_step (xs_led 4) (by decide) x_s5
  | 6 => led_step (xs_led 5) (by decide) x_s6
  | 7 => led_step (xs_led 6) (by decide) x_s7
  | _ + 8 => x_led9
theorem xs_len : ∀ k, (xs k).cs.length = 3 ∧ (xs k).ps.length = 1
  | 0 => ⟨rfl, rfl⟩ | 1 => ⟨rfl, rfl⟩ | 2 => ⟨rfl, rfl⟩ | 3 => ⟨rfl, rfl⟩ | 4 => ⟨rfl, rfl⟩ | 5 => ⟨rfl, rfl⟩ | 6 => ⟨rfl, rfl⟩ | 7 => ⟨rfl, rfl⟩ | _ + 8 => ⟨rfl, rfl⟩
end Lk
end
section
open Go.RowKit Go.Maps
namespace Lk
theorem sta_ok {l : Ls} {p : Nat} {kd c : Int} (h : staE l p kd c = 0) : p < l.ps.length ∧ (2 ≤ c ∧ c < (l.cs.length : Int)) ∧ (1 ≤ kd ∧ kd ≤ 3) ∧ ((l.pr p).phase = 0 ∨ (l.pr p).phase = 18) := by
  unfold staE at h
  by_cases q0 : vldB l = false
  · rw [if_pos q0] at h; cases h
  · rw [if_neg q0] at h
    by_cases q1 : ¬ (0 ≤ (p : Int) ∧ (p : Int) < (l.ps.length : Int))
    · rw [if_pos q1] at h; cases h
    · rw [if_neg q1] at h
      by_cases q2 : c < 2 ∨ ¬ (0 ≤ c ∧ c < (l.cs.length : Int))
      · rw [if_pos q2] at h; cases h
      · rw [if_neg q2] at h
        by_cases q3 : kd = 0 ∨ ¬ (0 ≤ kd ∧ kd ≤ 3)
        · rw [if_pos q3] at h; cases h
        · rw [if_neg q3] at h
          by_cases q4 : (l.pr (p : Int).toNat).phase ≠ 0 ∧ (l.pr (p : Int).toNat).phase ≠ 18
          · rw [if_pos q4] at h; cases h
          · rw [Int.toNat_natCast] at q4
            refine ⟨by omega, ⟨by omega, by omega⟩, ⟨by omega, by omega⟩, by omega⟩
theorem sta_led {l : Ls} (h : Led l) {p : Nat} {kd c : Int} (e : staE l p kd c = 0) : Led (begV l p kd c) := by
  obtain ⟨h1, h2, h3, h4⟩ := sta_ok e
  exact led_beg h h1 h2 h3 h4
theorem beg_len (l : Ls) (p : Nat) (kd c : Int) : (begV l p kd c).cs.length = l.cs.length ∧ (begV l p kd c).ps.length = l.ps.length := ⟨rfl, Ls.len_setP _ _ _⟩
theorem stp_len {l l' : Ls} (v : Vld l) {p : Int} (e : stpO l p = some l') : l'.cs.length = l.cs.length ∧ l'.ps.length = l.ps.length := by
  unfold stpO at e
  split at e
  · exact bus_step v (by omega) e
  · cases e
theorem stp_led {l l' : Ls} (h : Led l) {p : Int} (e : stpO l p = some l') : Led l' := by
  unfold stpO at e
  split at e
  · exact led_step h (by omega) e
  · cases e
theorem getD_led {l : Ls} (h : Led l) (p : Int) : Led ((stpO l p).getD l) := by
  cases e : stpO l p with
  | none => exact h
  | some l' => exact stp_led h e
theorem getD_len {l : Ls} (v : Vld l) (p : Int) : ((stpO l p).getD l).cs.length = l.cs.length ∧ ((stpO l p).getD l).ps.length = l.ps.length := by
  cases e : stpO l p with
  | none => exact ⟨rfl, rfl⟩
  | some l' => exact stp_len v e
theorem has_far {w : World} {B : Nat} {t : TypeId} {cs : Array Value} (h : Has w B t cs) {p : Addr} (hp : p.block ≠ B) (v : Value) : Has (w.setCell p v) B t cs := (Below.heap_setCell w p v B (fun e => hp e.symm)).trans h
theorem HoL.glt {w : World} {B lo : Nat} {l : Ls} {n m G1 G2 d1 d2 : Nat} (h : HoL w B lo l n m G1 G2 d1 d2) (v : Vld l) : G1 < w.heap.size ∧ G2 < w.heap.size := by
  constructor
  · obtain ⟨b, o, q1, _, q3, _⟩ := h.rd.cs (by intro e; have := v.n2; rw [e] at this; simp at this)
    injection q1 with q1
    injection q1 with q1 _
    omega
  · obtain ⟨b, o, q1, _, q3, _⟩ := h.rd.ps (by intro e; have := v.m1; rw [e] at this; simp at this)
    injection q1 with q1
    injection q1 with q1 _
    omega
/-- What Start answers, in one form. -/
theorem sta_form {l : Ls} {p kd c : Int} {n m : Nat} {w : World} {e : Ending} {w' : World} (h : StaP l p kd c n m w e w') : ∃ (E : Int) (P1 P2 : Option Addr) (a1 a2 g1 g2 : Nat), e = .returned (.tuple #[.agg #[.slice P1 a1 g1, .slice P2 a2 g2], .int .i64 E]) ∧ E = staE l p kd c ∧ (E = 0 → ∃ G1 G2, P1 = some ⟨G1, 0, none⟩ ∧ P2 = some ⟨G2, 0, none⟩ ∧ a1 = n ∧ a2 = m ∧ RdL w' w.heap.size (some ⟨G1, 0, none⟩) (some ⟨G2, 0, none⟩) (begV l p.toNat kd c)) ∧ Below w.heap.size w w' := by
  rcases h with ⟨h0, rfl, hb⟩ | ⟨h0, G1, G2, d1, d2, rfl, hr, hb⟩
  · exact ⟨_, none, none, 0, 0, 0, 0, rfl, rfl, fun q => absurd q h0, hb⟩
  · exact ⟨0, some ⟨G1, 0, none⟩, some ⟨G2, 0, none⟩, n, m, d1, d2, rfl, h0.symm, fun _ => ⟨G1, G2, rfl, rfl, rfl, rfl, hr⟩, hb⟩
theorem tstp_tape {a b : World} {g : Nat} (h : TStep a g b) : Tape b g := h.1
/-- Nothing but one block has turned. -/
structure But (X : Nat) (w w' : World) : Prop where
  os : w'.os = w.os
  tape : w'.tape = w.tape
  output : w'.output = w.output
  size : w.heap.size ≤ w'.heap.size
  block : ∀ i, i < w.heap.size → i ≠ X → w'.heap[i]? = w.heap[i]?
section
variable {X : Nat} {a b c : World}
theorem But.of (h : Below a.heap.size a b) : But X a b := ⟨h.os, h.tape, h.output, h.size, fun i hi _ => h.block i hi⟩
theorem But.refl : But X a a := ⟨rfl, rfl, rfl, Nat.le_refl _, fun _ _ _ => rfl⟩
theorem But.set (h : But X a b) {p : Addr} (hp : p.block = X) (v : Value) : But X a (b.setCell p v) := ⟨h.os, h.tape, h.output, by simpa [World.setCell] using h.size, fun i hi hx => (Below.heap_setCell b p v i (by rw [hp]; exact hx)).trans (h.block i hi hx)⟩
theorem But.drew (h : But X a b) : But X a b.drew := ⟨h.os, h.tape, h.output, h.size, h.block⟩
theorem But.below (h : But X a b) {lo : Nat} (hX : lo ≤ X) (hl : lo ≤ a.heap.size) : Below lo a b := ⟨h.os, h.tape, h.output, h.size, fun i hi => h.block i (by omega) (by omega)⟩
theorem But.has {t : TypeId} {cs : Array Value} {B : Nat} (h : But X a b) (k : Has a B t cs) (hB : B ≠ X) : Has b B t cs := (h.block B k.lt hB).trans k
theorem But.rdl {lo : Nat} {A1 A2 : Option Addr} {l : Ls} (h : But X a b) (k : RdL a lo A1 A2 l) (hX : X < lo ∨ a.heap.size ≤ X) : RdL b lo A1 A2 l := k.keep h.size fun i h1 h2 => h.block i h2 (by omega)
theorem But.hol {B lo : Nat} {l : Ls} {n m G1 G2 d1 d2 : Nat} (h : But X a b) (k : HoL a B lo l n m G1 G2 d1 d2) (v : Vld l) (hB : B ≠ X) (h1 : G1 ≠ X) (h2 : G2 ≠ X) : HoL b B lo l n m G1 G2 d1 d2 := by
  have e := h.block B k.lt hB
  have hg := k.glt v
  refine ⟨(World.cell?_of_block (a := ⟨B, 0, none⟩) e).trans k.x0, (World.cell?_of_block (a := ⟨B, 1, none⟩) e).trans k.x1, fun o => (World.frozen?_of_block (a := ⟨B, o, none⟩) e).trans (k.fz o), k.n1, k.n2, k.lB, ⟨fun hc => ?_, fun hc => ?_⟩, k.hn, k.hm⟩
  · obtain ⟨b, o, q1, q2, q3, q4⟩ := k.rd.cs hc
    injection q1 with q1
    injection q1 with q5 q6
    subst q5
    exact ⟨_, o, by rw [q6], q2, Nat.lt_of_lt_of_le q3 h.size, fun i hi j u hu => (World.cell?_of_block (h.block _ hg.1 h1)).trans (q4 i hi j u hu)⟩
  · obtain ⟨b, o, q1, q2, q3, q4⟩ := k.rd.ps hc
    injection q1 with q1
    injection q1 with q5 q6
    subst q5
    exact ⟨_, o, by rw [q6], q2, Nat.lt_of_lt_of_le q3 h.size, fun i hi j u hu => (World.cell?_of_block (h.block _ hg.2 h2)).trans (q4 i hi j u hu)⟩
end
theorem rdr_set2 {α : Type} {enc : α → List Value} {k lo B : Nat} {w : World} {A : Option Addr} {l : List α} (h : RdR enc k w lo A l) (hB : B < lo) (u v : Value) : RdR enc k ((w.setCell ⟨B, 0, none⟩ u).setCell ⟨B, 1, none⟩ v) lo A l :=
  have k2 := ((But.refl (X := B) (a := w)).set (p := ⟨B, 0, none⟩) rfl u).set (p := ⟨B, 1, none⟩) rfl v
  RdR.keep h k2.size fun i h1 h2 => k2.block i h2 (by omega)
/-- What a drawn call of Start leaves: a box X that holds its list, the error E. R is what else stays. -/
def StRel (R : World → Prop) (l : Ls) (q n m lo : Nat) (s1 s2 : Value) (wx : World) : Prop := ∃ (X : Nat) (E kd c : Int) (P1 P2 : Option Addr) (a1 a2 f1 f2 : Nat), s1 = .pointer (some ⟨X, 0, none⟩) ∧ s2 = .int .i64 E ∧ wx.cell? ⟨X, 0, none⟩ = some (.slice P1 a1 f1) ∧ wx.cell? ⟨X, 1, none⟩ = some (.slice P2 a2 f2) ∧ R wx ∧ Hid (E = staE l (q : Int) kd c) ∧ Hid (E = 0 → ∃ K1 K2, P1 = some ⟨K1, 0, none⟩ ∧ P2 = some ⟨K2, 0, none⟩ ∧ n = a1 ∧ m = a2 ∧ RdL wx lo (some ⟨K1, 0, none⟩) (some ⟨K2, 0, none⟩) (begV l q kd c))
theorem StRel.mk {R : World → Prop} {l : Ls} {q n m lo base X : Nat} {E kd c : Int} {P1 P2 : Option Addr} {a1 a2 f1 f2 : Nat} {w6 wx : World} (hE : E = staE l (q : Int) kd c) (hok : E = 0 → ∃ G1 G2, P1 = some ⟨G1, 0, none⟩ ∧ P2 = some ⟨G2, 0, none⟩ ∧ a1 = n ∧ a2 = m ∧ RdL w6 base (some ⟨G1, 0, none⟩) (some ⟨G2, 0, none⟩) (begV l ((q : Int)).toNat kd c)) (hb : lo ≤ base) (hR : But X w6 wx → R wx) (k : But X w6 wx) (h0 : wx.cell? ⟨X, 0, none⟩ = some (.slice P1 a1 f1)) (h1 : wx.cell? ⟨X, 1, none⟩ = some (.slice P2 a2 f2)) (hX : X < base ∨ w6.heap.size ≤ X) : StRel R l q n m lo (.pointer (some ⟨X, 0, none⟩)) (.int .i64 E) wx := by
  refine ⟨X, E, kd, c, P1, P2, a1, a2, f1, f2, rfl, rfl, h0, h1, hR k, Lib.hid hE, Lib.hid fun he => ?_⟩
  obtain ⟨G1, G2, e1, e2, e3, e4, hr⟩ := hok he
  exact ⟨G1, G2, e1, e2, e3.symm, e4.symm, (k.rdl hr hX).low hb⟩
/-- What a drawn call of Step leaves: a box X that holds its list, whether it was a step. R is what else stays. -/
def SpRel (R : World → Prop) (l : Ls) (q : Int) (n m lo : Nat) (s1 s2 : Value) (wx : World) : Prop := ∃ (X G1 G2 d1 d2 : Nat) (b : Bool), s1 = .pointer (some ⟨X, 0, none⟩) ∧ s2 = .bool b ∧ wx.cell? ⟨X, 0, none⟩ = some (.slice (some ⟨G1, 0, none⟩) n d1) ∧ wx.cell? ⟨X, 1, none⟩ = some (.slice (some ⟨G2, 0, none⟩) m d2) ∧ R wx ∧ Hid (b = (stpO l q).isSome) ∧ RdL wx lo (some ⟨G1, 0, none⟩) (some ⟨G2, 0, none⟩) ((stpO l q).getD l)
theorem SpRel.mk {R : World → Prop} {l : Ls} {q : Int} {n m lo base X G1 G2 d1 d2 : Nat} {b : Bool} {w6 wx : World} (hb0 : b = (stpO l q).isSome) (hr : RdL w6 base (some ⟨G1, 0, none⟩) (some ⟨G2, 0, none⟩) ((stpO l q).getD l)) (hb : lo ≤ base) (hR : But X w6 wx → R wx) (k : But X w6 wx) (h0 : wx.cell? ⟨X, 0, none⟩ = some (.slice (some ⟨G1, 0, none⟩) n d1)) (h1 : wx.cell? ⟨X, 1, none⟩ = some (.slice (some ⟨G2, 0, none⟩) m d2)) (hX : X < base ∨ w6.heap.size ≤ X) : SpRel R l q n m lo (.pointer (some ⟨X, 0, none⟩)) (.bool b) wx :=
  ⟨X, G1, G2, d1, d2, b, rfl, rfl, h0, h1, hR k, Lib.hid hb0, (k.rdl hr hX).low hb⟩
theorem has_dec (l : List Nat) (i : Nat) : (nat2 l).contains (i : Int) = decide (i ∈ l) := by
  rw [Bool.eq_iff_iff]
  simp only [List.contains_iff_mem, nat2_mem, decide_eq_true_eq]
end Lk
end
section
open Go.RowKit Go.Maps
namespace Lk
theorem sel_false : selV [false] = fun _ => false := by
  funext i
  unfold selV
  match i - 2 with
  | 0 => rfl
  | _ + 1 => rfl
theorem x_sta : staE x0 0 1 2 = 0 := by
  unfold staE
  rw [vldB_yes x_led0.1, if_neg (by decide), if_neg (by decide), if_neg (by decide), if_neg (by decide), if_neg (by decide)]
set_option maxRecDepth 100000 in
set_option maxHeartbeats 6400000 in
theorem sane11_any (w : World) : Calls Tryz.prog 26 #[] w (Quiet (.bool true) w) := by
  have hb0 := ((Below.refl w.heap.size w).alloc (Nat.le_refl _) (.cells #[.string kb11] 9)).alloc (by rw [World.size_alloc]; omega) (.cells #[.bool false] 4)
  have HB0 := Lib.hid hb0
  have hNW := new_any (some ⟨w.heap.size, 0, none⟩) (some ⟨w.heap.size + 1, 0, none⟩) [kb11] [false] 1 1 1 1 1 ((w.alloc (.cells #[.string kb11] 9)).alloc (.cells #[.bool false] 4)) rfl rfl (RdR.low ((RdR.new (enc := trow) (e := 9) (fun _ => rfl) w kb11 _ rfl).below ((Below.refl _ _).alloc (Nat.le_refl _) (.cells #[.bool false] 4))) (Nat.zero_le _)) (by have := RdR.low (RdR.new (enc := brow) (e := 4) (fun _ => rfl) (w.alloc (.cells #[.string kb11] 9)) false _ rfl) (Nat.zero_le _); rw [World.size_alloc] at this; exact this) (by omega) (by omega)
  have HNW := Lib.hid hNW
  have HE : Hid (newE [kb11] [false] 1 = 0) := Lib.hid (by
    unfold newE
    rw [if_neg (by decide), if_neg (by decide), if_neg (fun q => q.elim (fun q => q rfl) (fun q => q (fun k hk => by simp at hk; subst hk; rfl))), if_neg (fun q => q (by simp))])
  clear hb0 hNW
  unfold kb11 at HNW HB0
  go_enter Tryz.func26, Tryz.ntmps26
  go_upto_region 1 with fail
  go_wp2_with (first | (go_at_call 46; (refine (HNW.out).mono ?_); rintro e w1 (⟨q, -, -⟩ | ⟨-, G1, G2, d1, d2, rfl, hr, hb⟩); (exact absurd HE.out q); rw [show newV [⟨#[98]⟩] (1 : Int).toNat (selV [false]) = x0 by rw [sel_false]; exact x_new] at hr; have HB1 := Lib.hid (HB0.out.trans (hb.mono HB0.out.size)); have hs1 := HB1.out.size; have HL1 := Lib.hid (HoL.new (d1 := d1) (d2 := d2) (t := 28) (n := 3) (m := 1) (RdL.low hr HB0.out.size) x_led0.1 hs1 rfl rfl); clear hr hb) | (go_at_call 14; (refine (start_any (some ⟨G1, 0, none⟩) (some ⟨G2, 0, none⟩) x0 0 1 2 3 1 d1 d2 _ rfl rfl (HL1.out.rd.low (Nat.zero_le _))).mono ?_); rintro e w2 (⟨q, -, -⟩ | ⟨-, J1, J2, e1, e2, rfl, hr, hb⟩); (exact absurd x_sta q); have hr : RdL w2 _ _ _ x1 := hr; have HB2 := Lib.hid ((HB1.out.alloc hs1 _).trans (hb.mono (by rw [World.size_alloc]; omega))); have HL2 := Lib.hid (HoL.put (d1 := e1) (d2 := e2) HL1.out hb hr x_led1.1 rfl rfl); have y0 := (HL1.out.below hb).x0; have y1 := (HL1.out.below hb).x1; have z0 := (HL1.out.below hb).fz 0; have z1 := (HL1.out.below hb).fz 1; clear hr hb))
  go_loopw [3, 4] (fun vn vo wr => ∃ k G1 G2 d1 d2 : Nat, vn = .int .i64 (k : Int) ∧ vo = .bool (decide (k < 9)) ∧ k ≤ 9 ∧ HoL wr w1.heap.size w.heap.size (xs k) 3 1 G1 G2 d1 d2 ∧ Below w.heap.size w wr) (fun vn _ _ => 20 - (intOf vn).toNat)
  case atStart => exact ⟨0, _, _, _, _, rfl, rfl, by omega, HL2.out, (HB2.out.setCell (p := ⟨w1.heap.size, 0, none⟩) hs1 _).setCell (p := ⟨w1.heap.size, 1, none⟩) hs1 _⟩
  case round =>
    clear HL1 HL2 HB1 HB2 y0 y1 z0 z1
    obtain ⟨k, J1, J2, e1, e2, rfl, rfl, hk, hl, hb⟩ := hrel
    have y0 := hl.x0
    have y1 := hl.x1
    have HL := Lib.hid hl
    have HBR := Lib.hid hb
    by_cases hlt : k < 9
    · have hd : decide (k < 9) = true := by simpa using hlt
      have h20 : decide ((k : Int) < 20) = true := by simp; omega
      have HSP := Lib.hid (step_any ⟨J1, 0, none⟩ ⟨J2, 0, none⟩ (xs k) 0 3 1 e1 e2 wr hl.hn hl.hm (hl.rd.low (Nat.zero_le _)) (xs_led k).1)
      clear hl hb
      by_cases h8 : k < 8
      · have HS := Lib.hid (xs_step h8)
        have h9 : decide (k + 1 < 9) = true := by simp; omega
        clear hlt
        go_wp2_with (go_at_call 17; (refine (HSP.out).mono ?_); rintro e w3 ⟨K1, K2, f1, f2, rfl, hr, hb3⟩; rw [HS.out] at hr ⊢; have hr : RdL w3 _ _ _ (xs (k + 1)) := hr; have HB3 := Lib.hid (HBR.out.trans (hb3.mono HBR.out.size)); have HL3 := Lib.hid (HoL.put (d1 := f1) (d2 := f2) HL.out hb3 hr (xs_led (k + 1)).1 (xs_len (k + 1)).1 (xs_len (k + 1)).2); have y0 := (HL.out.below hb3).x0; have y1 := (HL.out.below hb3).x1; have z0 := (HL.out.below hb3).fz 0; have z1 := (HL.out.below hb3).fz 1; clear hr hb3)
        exact ⟨⟨k + 1, _, _, _, _, by go_num, by rw [h9], by omega, HL3.out, (HB3.out.setCell (p := ⟨w1.heap.size, 0, none⟩) hs1 _).setCell (p := ⟨w1.heap.size, 1, none⟩) hs1 _⟩, by simp [intOf]; omega⟩
      · obtain rfl : k = 8 := by omega
        have HS := Lib.hid (xs_last (k := 8) (by omega)).2
        clear hlt
        go_wp2_with (go_at_call 17; (refine (HSP.out).mono ?_); rintro e w3 ⟨K1, K2, f1, f2, rfl, hr, hb3⟩; rw [HS.out] at hr ⊢; have hr : RdL w3 _ _ _ (xs 9) := hr; have HB3 := Lib.hid (HBR.out.trans (hb3.mono HBR.out.size)); have HL3 := Lib.hid (HoL.put (d1 := f1) (d2 := f2) HL.out hb3 hr (xs_led 9).1 (xs_len 9).1 (xs_len 9).2); have y0 := (HL.out.below hb3).x0; have y1 := (HL.out.below hb3).x1; have z0 := (HL.out.below hb3).fz 0; have z1 := (HL.out.below hb3).fz 1; clear hr hb3)
        exact ⟨⟨9, _, _, _, _, rfl, rfl, by omega, HL3.out, (HB3.out.setCell (p := ⟨w1.heap.size, 0, none⟩) hs1 _).setCell (p := ⟨w1.heap.size, 1, none⟩) hs1 _⟩, by decide⟩
    · obtain rfl : k = 9 := by omega
      have HLX : Hid (HoL wr w1.heap.size w.heap.size x9 3 1 J1 J2 e1 e2) := Lib.hid HL.out
      have HMB := Lib.hid (Members_any (some ⟨J1, 0, none⟩) (some ⟨J2, 0, none⟩) x9 3 1 e1 e2 wr rfl rfl (HLX.out.rd.low (Nat.zero_le _)))
      have HME : Hid ((if vldB x9 then nat2 (memV x9) else []) = [(2 : Int)]) := Lib.hid (by rw [vldB_yes x_led9.1, if_pos rfl, x_mem9]; rfl)
      clear hl hb hlt
      go_wp2_with (first | (go_at_call 20; (refine (HMB.out).mono ?_); rintro e w5 ⟨A, q, c, rfl, hq, -, -, hr, hb5⟩; rw [HME.out] at hq hr; obtain rfl : q = 1 := hq.symm; obtain ⟨b5, o5, e5, -, -, t5⟩ := num_at hr (i := 0) (by decide); subst e5; have t5 : w5.cell? ⟨b5, o5, none⟩ = some (.int .i64 2) := t5; have HB5 := Lib.hid (HBR.out.trans (hb5.mono HBR.out.size)); have HL5 := Lib.hid (HLX.out.below hb5); have y0 := HL5.out.x0; have y1 := HL5.out.x1; clear hr hb5 hq) | (go_at_call 22; (refine (check_any (some ⟨J1, 0, none⟩) (some ⟨J2, 0, none⟩) x9 3 1 e1 e2 _ rfl rfl (HL5.out.rd.low (Nat.zero_le _))).mono ?_); intro e w6 h6; obtain ⟨rfl, hb6⟩ := h6.yes x_chk9; have HB6 := Lib.hid (HB5.out.trans (hb6.mono HB5.out.size)); have HL6 := Lib.hid (HL5.out.below hb6); have y0 := HL6.out.x0; have y1 := HL6.out.x1; obtain ⟨b6, o6, e6, -, -, -, -, -, -, -, -, t6⟩ := HL6.out.rd.proc (i := 0) (by decide); (injection e6 with e6); (injection e6 with e7 e8); subst e7 e8; have t6 : w6.cell? ⟨J2, 6, none⟩ = some (.bool true) := t6; clear hb6))
      go_ret
      exact ⟨rfl, HB6.out⟩
end Lk
end
end Go.Proofs.YtmhbloefmknikaaGreatDoor
