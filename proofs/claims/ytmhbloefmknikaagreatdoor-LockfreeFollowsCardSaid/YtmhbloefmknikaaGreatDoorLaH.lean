/-
  Same of the reference of chapter 11, Has and SameInts of that of chapter 5: for what is the same, or any numbers. Condition: what is read can be read.
  A box that holds a list, across calls; the example of chapter 11. No condition.
  Words for the walks of chapter 11's statements: what Start and Step lead to; a world in which one block has turned. Conditions: those of each.
  The example of chapter 11. No condition.
-/
import Derived.Test.YtmhbloefmknikaaGreatDoorKzW
import Derived.Test.YtmhbloefmknikaaGreatDoorLzX
import Derived.Test.YtmhbloefmknikaaGreatDoorMaT
namespace Go.Proofs.YtmhbloefmknikaaGreatDoor
section
open Go.RowKit Go.Maps
namespace Lk

theorem eq_ce (x : Ce) (w : World) : (Op.equalIn 10000 66 x.val x.val).run Tryz.prog w = .ok true w := by
  unfold Ce.val
  rw [run_equalIn_agg w 9999 66 _ _ (by kernel_rfl) (by kernel_rfl)]
  simp [go_sem, Tryz.underlying66, Tryz.underlying3, Tryz.underlying9, Tryz.underlying4]
theorem neq_ce (x : Ce) (w : World) : (binOp .neq 66 x.val x.val).run Tryz.prog w = .ok (.bool false) w := by
  unfold Ce.val
  rw [run_neq_struct]
  have := eq_ce x w
  unfold Ce.val at this
  rw [this]
  rfl
theorem eq_po (x : Po) (w : World) : (Op.equalIn 10000 63 x.val x.val).run Tryz.prog w = .ok true w := by
  unfold Po.val
  rw [run_equalIn_agg w 9999 63 _ _ (by kernel_rfl) (by kernel_rfl)]
  simp [go_sem, Tryz.underlying63, Tryz.underlying3, Tryz.underlying4]
theorem neq_po (x : Po) (w : World) : (binOp .neq 63 x.val x.val).run Tryz.prog w = .ok (.bool false) w := by
  unfold Po.val
  rw [run_neq_struct]
  have := eq_po x w
  unfold Po.val at this
  rw [this]
  rfl
set_option maxRecDepth 100000 in
set_option maxHeartbeats 3200000 in
theorem rsame_self (A1 A2 B1 B2 : Option Addr) (l : Ls) (n m c1 c2 d1 d2 lo1 lo2 : Nat) (w : World) (hn : l.cs.length = n) (hm : l.ps.length = m) (h1 : RdL w lo1 A1 A2 l) (h2 : RdL w lo2 B1 B2 l) (n6 : n ≤ 1000000) (m6 : m ≤ 1000000) :
    Calls Tryz.prog 16 #[.agg #[.slice A1 n c1, .slice A2 m c2], .agg #[.slice B1 n d1, .slice B2 m d2]] w (Quiet (.bool true) w) := by
  have hb1 := (Below.refl w.heap.size w).alloc (Nat.le_refl _) (.cells #[.slice A1 n c1, .slice A2 m c2] 28)
  have hb2 := (Below.refl (w.alloc (.cells #[.slice A1 n c1, .slice A2 m c2] 28)).heap.size _).alloc (Nat.le_refl _) (.cells #[.slice B1 n d1, .slice B2 m d2] 28)
  have hb := hb1.trans (hb2.mono hb1.size)
  have HB := Lib.hid hb
  have HX := Lib.hid ((Has.new w 28 #[.slice A1 n c1, .slice A2 m c2]).below hb2)
  have HY := Lib.hid (Has.new (w.alloc (.cells #[.slice A1 n c1, .slice A2 m c2] 28)) 28 #[.slice B1 n d1, .slice B2 m d2])
  have H1 := Lib.hid (h1.below hb)
  have H2 := Lib.hid (h2.below hb)
  have HN := Lib.hid hn
  have HM := Lib.hid hm
  have hz : ((n : Int) != (n : Int)) = false := by simp
  have hz2 : ((m : Int) != (m : Int)) = false := by simp
  have hNE := fun x V => neq_ce x V
  have hNP := fun x V => neq_po x V
  clear hb1 hb2 hb h1 h2 hn hm
  go_enter Tryz.func16, Tryz.ntmps16
  go_upto_region 1 with fail
  have hsz : w.heap.size + 1 + 1 = ((w.alloc (.cells #[.slice A1 n c1, .slice A2 m c2] 28)).alloc (.cells #[.slice B1 n d1, .slice B2 m d2] 28)).heap.size := by rw [World.size_alloc, World.size_alloc]
  rw [World.size_alloc] at HY
  generalize (w.alloc (.cells #[.slice A1 n c1, .slice A2 m c2] 28)).alloc (.cells #[.slice B1 n d1, .slice B2 m d2] 28) = W at *
  have x0 := HX.out.cell 0
  have x1 := HX.out.cell 1
  have y0 := HY.out.cell 0
  have y1 := HY.out.cell 1
  go_wp2_with fail
  go_loopw [5] (fun i wr => ∃ k : Nat, i = .int .i64 (k : Int) ∧ k ≤ n ∧ Below W.heap.size W wr) (fun i _ => n - (intOf i).toNat)
  case atStart => exact ⟨0, rfl, by omega, Below.refl _ _⟩
  case round =>
    obtain ⟨k, rfl, hk, hB⟩ := hrel
    clear x0 x1 y0 y1
    have x0 := (HX.out.below hB).cell 0
    have x1 := (HX.out.below hB).cell 1
    have y0 := (HY.out.below hB).cell 0
    have y1 := (HY.out.below hB).cell 1
    by_cases hlt : k < n
    · obtain ⟨b1, o1, e1, -, q1, f0, f1, f2, f3, f4⟩ := H1.out.cell (i := k) (by rw [HN.out]; exact hlt)
      obtain ⟨b2, o2, e2, -, q2, g0, g1, g2, g3, g4⟩ := H2.out.cell (i := k) (by rw [HN.out]; exact hlt)
      subst e1 e2
      replace f0 := (hB.cell (p := ⟨b1, o1 + k * 5, none⟩) q1).trans f0
      replace f1 := (hB.cell (p := ⟨b1, o1 + k * 5 + 1, none⟩) q1).trans f1
      replace f2 := (hB.cell (p := ⟨b1, o1 + k * 5 + 2, none⟩) q1).trans f2
      replace f3 := (hB.cell (p := ⟨b1, o1 + k * 5 + 3, none⟩) q1).trans f3
      replace f4 := (hB.cell (p := ⟨b1, o1 + k * 5 + 4, none⟩) q1).trans f4
      replace g0 := (hB.cell (p := ⟨b2, o2 + k * 5, none⟩) q2).trans g0
      replace g1 := (hB.cell (p := ⟨b2, o2 + k * 5 + 1, none⟩) q2).trans g1
      replace g2 := (hB.cell (p := ⟨b2, o2 + k * 5 + 2, none⟩) q2).trans g2
      replace g3 := (hB.cell (p := ⟨b2, o2 + k * 5 + 3, none⟩) q2).trans g3
      replace g4 := (hB.cell (p := ⟨b2, o2 + k * 5 + 4, none⟩) q2).trans g4
      have hne := fun V => hNE (l.at_ k) V
      generalize l.at_ k = x at *
      obtain ⟨xk, xl, xr, xo, xg⟩ := x
      unfold Ce.val at hne
      simp only at f0 f1 f2 f3 f4 g0 g1 g2 g3 g4 hne
      have i0 : (0 : Int) ≤ (k : Int) := by omega
      have i1 : (k : Int) < (n : Int) := by omega
      have HB1 := Lib.hid hB
      clear hB hNE hNP q1 q2
      go_wp2_with fail
      go_quiet (fail)
      go_wp2_with fail
      exact ⟨⟨k + 1, by go_num, hlt, below_drw HB1.out _⟩, by simp [intOf]; omega⟩
    · obtain rfl : k = n := by omega
      have HB1 := Lib.hid hB
      clear hB hlt
      go_wp2_with fail
      go_loopw [6] (fun i wr => ∃ k : Nat, i = .int .i64 (k : Int) ∧ k ≤ m ∧ Below W.heap.size W wr) (fun i _ => m - (intOf i).toNat)
      case atStart => exact ⟨0, rfl, by omega, HB1.out⟩
      case round =>
        obtain ⟨j, rfl, hj, hB⟩ := hrel
        clear x0 x1 y0 y1
        have x0 := (HX.out.below hB).cell 0
        have x1 := (HX.out.below hB).cell 1
        have y0 := (HY.out.below hB).cell 0
        have y1 := (HY.out.below hB).cell 1
        by_cases hlt : j < m
        · obtain ⟨b1, o1, e1, -, q1, f0, f1, f2, f3, f4, f5, f6⟩ := H1.out.proc (i := j) (by rw [HM.out]; exact hlt)
          obtain ⟨b2, o2, e2, -, q2, g0, g1, g2, g3, g4, g5, g6⟩ := H2.out.proc (i := j) (by rw [HM.out]; exact hlt)
          subst e1 e2
          replace f0 := (hB.cell (p := ⟨b1, o1 + j * 7, none⟩) q1).trans f0
          replace f1 := (hB.cell (p := ⟨b1, o1 + j * 7 + 1, none⟩) q1).trans f1
          replace f2 := (hB.cell (p := ⟨b1, o1 + j * 7 + 2, none⟩) q1).trans f2
          replace f3 := (hB.cell (p := ⟨b1, o1 + j * 7 + 3, none⟩) q1).trans f3
          replace f4 := (hB.cell (p := ⟨b1, o1 + j * 7 + 4, none⟩) q1).trans f4
          replace f5 := (hB.cell (p := ⟨b1, o1 + j * 7 + 5, none⟩) q1).trans f5
          replace f6 := (hB.cell (p := ⟨b1, o1 + j * 7 + 6, none⟩) q1).trans f6
          replace g0 := (hB.cell (p := ⟨b2, o2 + j * 7, none⟩) q2).trans g0
          replace g1 := (hB.cell (p := ⟨b2, o2 + j * 7 + 1, none⟩) q2).trans g1
          replace g2 := (hB.cell (p := ⟨b2, o2 + j * 7 + 2, none⟩) q2).trans g2
          replace g3 := (hB.cell (p := ⟨b2, o2 + j * 7 + 3, none⟩) q2).trans g3
          replace g4 := (hB.cell (p := ⟨b2, o2 + j * 7 + 4, none⟩) q2).trans g4
          replace g5 := (hB.cell (p := ⟨b2, o2 + j * 7 + 5, none⟩) q2).trans g5
          replace g6 := (hB.cell (p := ⟨b2, o2 + j * 7 + 6, none⟩) q2).trans g6
          have hne := fun V => hNP (l.pr j) V
          generalize l.pr j = x at *
          obtain ⟨xk, xc, xp, xd, xs, xx, xr⟩ := x
          unfold Po.val at hne
          simp only at f0 f1 f2 f3 f4 f5 f6 g0 g1 g2 g3 g4 g5 g6 hne
          have i0 : (0 : Int) ≤ (j : Int) := by omega
          have i1 : (j : Int) < (m : Int) := by omega
          have HB2 := Lib.hid hB
          clear hB hNE hNP q1 q2
          go_wp2_with fail
          go_quiet (fail)
          go_wp2_with fail
          exact ⟨⟨j + 1, by go_num, hlt, below_drw HB2.out _⟩, by simp [intOf]; omega⟩
        · have HB2 := Lib.hid hB
          clear hB
          go_wp2_with fail
          go_ret
          exact ⟨rfl, HB.out.trans (HB2.out.mono (by rw [← hsz]; omega))⟩
set_option maxRecDepth 100000 in
set_option maxHeartbeats 800000 in
theorem rsameInts_self (A1 A2 : Option Addr) (a : List Int) (n c1 c2 lo1 lo2 : Nat) (w : World) (hn : a.length = n) (h1 : RdR nrow 1 w lo1 A1 a) (h2 : RdR nrow 1 w lo2 A2 a) (n6 : n ≤ 1000000) :
    Calls Tryz.prog 19 #[.slice A1 n c1, .slice A2 n c2] w (Quiet (.bool true) w) := by
  have hnn : ((n : Int) != (n : Int)) = false := by simp
  have HN := Lib.hid hn
  clear hn
  go_enter Tryz.func19, Tryz.ntmps19
  go_wp2_with fail
  go_loopw [5] (fun i wr => ∃ k : Nat, i = .int .i64 (k : Int) ∧ k ≤ n ∧ Below w.heap.size w wr) (fun i _ => n - (intOf i).toNat)
  case atStart => exact ⟨0, rfl, by omega, Below.refl _ _⟩
  case round =>
    clear hnn
    obtain ⟨k, rfl, hk, hB⟩ := hrel
    by_cases hlt : k < n
    · have k1 : k < a.length := by rw [HN.out]; exact hlt
      obtain ⟨b1, o1, e1, -, hb1, f1⟩ := num_at h1 k1
      obtain ⟨b2, o2, e2, -, hb2, f2⟩ := num_at h2 k1
      subst e1 e2
      replace f1 := (hB.cell (p := ⟨b1, o1 + k, none⟩) hb1).trans f1
      replace f2 := (hB.cell (p := ⟨b2, o2 + k, none⟩) hb2).trans f2
      generalize a[k] = x at *
      have hx : ((x : Int) != x) = false := by simp
      have i0 : (0 : Int) ≤ (k : Int) := by omega
      have i1 : (k : Int) < (n : Int) := by omega
      clear k1
      go_wp2_with fail
      go_quiet (fail)
      go_wp2_with fail
      exact ⟨⟨k + 1, by go_num, hlt, below_drw hB _⟩, by simp [intOf]; omega⟩
    · go_wp2_with fail
      go_ret
      exact ⟨rfl, hB⟩
end Lk
end
section
open Go.RowKit Go.Maps
namespace Lk
/-- Box B holds the list l, whose rows lie from lo on. -/
structure HoL (w : World) (B lo : Nat) (l : Ls) (n m G1 G2 d1 d2 : Nat) : Prop where
  x0 : w.cell? ⟨B, 0, none⟩ = some (.slice (some ⟨G1, 0, none⟩) n d1)
  x1 : w.cell? ⟨B, 1, none⟩ = some (.slice (some ⟨G2, 0, none⟩) m d2)
  fz : ∀ o, w.frozen? ⟨B, o, none⟩ = false
  n1 : G1 ≠ B
  n2 : G2 ≠ B
  lB : lo ≤ B
  rd : RdL w lo (some ⟨G1, 0, none⟩) (some ⟨G2, 0, none⟩) l
  hn : l.cs.length = n
  hm : l.ps.length = m
section
variable {w w' : World} {B lo : Nat} {l l' : Ls} {n m G1 G2 d1 d2 : Nat}
theorem HoL.lt (h : HoL w B lo l n m G1 G2 d1 d2) : B < w.heap.size := World.block_lt_of_cell? w _ h.x0
theorem HoL.keep (h : HoL w B lo l n m G1 G2 d1 d2) (hs : w.heap.size ≤ w'.heap.size) (q : ∀ i, lo ≤ i → i < w.heap.size → w'.heap[i]? = w.heap[i]?) : HoL w' B lo l n m G1 G2 d1 d2 :=
  have e := q B h.lB h.lt
  ⟨(World.cell?_of_block (a := ⟨B, 0, none⟩) e).trans h.x0, (World.cell?_of_block (a := ⟨B, 1, none⟩) e).trans h.x1, fun o => (World.frozen?_of_block (a := ⟨B, o, none⟩) e).trans (h.fz o), h.n1, h.n2, h.lB, h.rd.keep hs q, h.hn, h.hm⟩
theorem HoL.below (h : HoL w B lo l n m G1 G2 d1 d2) (q : Below w.heap.size w w') : HoL w' B lo l n m G1 G2 d1 d2 := h.keep q.size fun i _ h2 => q.block i h2
theorem HoL.step (h : HoL w B lo l n m G1 G2 d1 d2) {g : Nat} (hg : g < lo) (q : TStep w g w') : HoL w' B lo l n m G1 G2 d1 d2 := h.keep q.2.size fun i h1 h2 => q.2.block i h2 (fun e => by have := Option.some.inj e; omega)
theorem HoL.drew (h : HoL w B lo l n m G1 G2 d1 d2) : HoL w.drew B lo l n m G1 G2 d1 d2 := h.keep (Nat.le_refl _) fun _ _ _ => rfl
/-- Another box is stored to. -/
theorem HoL.far (h : HoL w B lo l n m G1 G2 d1 d2) {p : Addr} (h0 : p.block ≠ B) (h1 : p.block ≠ G1) (h2 : p.block ≠ G2) (v : Value) : HoL (w.setCell p v) B lo l n m G1 G2 d1 d2 := by
  have hb : ∀ i, i ≠ p.block → (w.setCell p v).heap[i]? = w.heap[i]? := fun i hi => Below.heap_setCell w p v i hi
  have e := hb B (fun q => h0 q.symm)
  refine ⟨(World.cell?_of_block (a := ⟨B, 0, none⟩) e).trans h.x0, (World.cell?_of_block (a := ⟨B, 1, none⟩) e).trans h.x1, fun o => (World.frozen?_of_block (a := ⟨B, o, none⟩) e).trans (h.fz o), h.n1, h.n2, h.lB, ⟨fun hc => ?_, fun hc => ?_⟩, h.hn, h.hm⟩
  · obtain ⟨b, o, q1, q2, q3, q4⟩ := h.rd.cs hc
    injection q1 with q1
    injection q1 with q5 q6
    subst q5
    exact ⟨_, o, by rw [q6], q2, by simpa using q3, fun i hi j u hu => (World.cell?_of_block (hb _ (fun q => h1 q.symm))).trans (q4 i hi j u hu)⟩
  · obtain ⟨b, o, q1, q2, q3, q4⟩ := h.rd.ps hc
    injection q1 with q1
    injection q1 with q5 q6
    subst q5
    exact ⟨_, o, by rw [q6], q2, by simpa using q3, fun i hi j u hu => (World.cell?_of_block (hb _ (fun q => h2 q.symm))).trans (q4 i hi j u hu)⟩
theorem rd_lo {G1 G2 : Nat} (h : RdL w lo (some ⟨G1, 0, none⟩) (some ⟨G2, 0, none⟩) l) (v : Vld l) : lo ≤ G1 ∧ lo ≤ G2 := by
  constructor
  · obtain ⟨b, o, e, h1, _⟩ := h.cs (by intro e; have := v.n2; rw [e] at this; simp at this)
    injection e with e
    injection e with e1 e2
    omega
  · obtain ⟨b, o, e, h1, _⟩ := h.ps (by intro e; have := v.m1; rw [e] at this; simp at this)
    injection e with e
    injection e with e1 e2
    omega
/-- Both cells of a box are stored: a list whose rows are elsewhere. -/
theorem HoL.mk2 {B : Nat} (hx0 : w.cell? ⟨B, 0, none⟩ ≠ none) (hx1 : w.cell? ⟨B, 1, none⟩ ≠ none) (hf : ∀ o, w.frozen? ⟨B, o, none⟩ = false) (hlB : lo ≤ B) (hr : RdL w lo (some ⟨G1, 0, none⟩) (some ⟨G2, 0, none⟩) l) (n1 : G1 ≠ B) (n2 : G2 ≠ B) (hn : l.cs.length = n) (hm : l.ps.length = m) :
    HoL ((w.setCell ⟨B, 0, none⟩ (.slice (some ⟨G1, 0, none⟩) n d1)).setCell ⟨B, 1, none⟩ (.slice (some ⟨G2, 0, none⟩) m d2)) B lo l n m G1 G2 d1 d2 := by
  obtain ⟨a, ha⟩ := Option.ne_none_iff_exists'.1 hx0
  obtain ⟨b, hb⟩ := Option.ne_none_iff_exists'.1 hx1
  have h2 := twice0 w B (.slice (some ⟨G1, 0, none⟩) n d1) (.slice (some ⟨G2, 0, none⟩) m d2) a b ha hb
  have hk : ∀ i, i ≠ B → ((w.setCell ⟨B, 0, none⟩ (.slice (some ⟨G1, 0, none⟩) n d1)).setCell ⟨B, 1, none⟩ (.slice (some ⟨G2, 0, none⟩) m d2)).heap[i]? = w.heap[i]? := fun i hi => by
    rw [Below.heap_setCell _ _ _ _ hi, Below.heap_setCell _ _ _ _ hi]
  refine ⟨h2.1, h2.2, fun o => by rw [World.frozen?_setCell, World.frozen?_setCell]; exact hf o, n1, n2, hlB, ⟨fun hc => ?_, fun hc => ?_⟩, hn, hm⟩
  · obtain ⟨b, o, q1, q2, q3, q4⟩ := hr.cs hc
    injection q1 with q1
    injection q1 with q5 q6
    subst q5
    exact ⟨_, o, by rw [q6], q2, by simpa using q3, fun i hi j u hu => (World.cell?_of_block (hk _ n1)).trans (q4 i hi j u hu)⟩
  · obtain ⟨b, o, q1, q2, q3, q4⟩ := hr.ps hc
    injection q1 with q1
    injection q1 with q5 q6
    subst q5
    exact ⟨_, o, by rw [q6], q2, by simpa using q3, fun i hi j u hu => (World.cell?_of_block (hk _ n2)).trans (q4 i hi j u hu)⟩
/-- What a call made is stored in the box. -/
theorem HoL.put {g1 g2 e1 e2 n' m' : Nat} (h : HoL w B lo l n m g1 g2 e1 e2) (hb : Below w.heap.size w w') (hr : RdL w' w.heap.size (some ⟨G1, 0, none⟩) (some ⟨G2, 0, none⟩) l') (v : Vld l') (hn : l'.cs.length = n') (hm : l'.ps.length = m') :
    HoL ((w'.setCell ⟨B, 0, none⟩ (.slice (some ⟨G1, 0, none⟩) n' d1)).setCell ⟨B, 1, none⟩ (.slice (some ⟨G2, 0, none⟩) m' d2)) B lo l' n' m' G1 G2 d1 d2 := by
  have hl := rd_lo hr v
  have hB := h.lt
  have h' := h.below hb
  exact HoL.mk2 (by rw [h'.x0]; simp) (by rw [h'.x1]; simp) h'.fz h.lB (hr.low (by have := h.lB; omega)) (by omega) (by omega) hn hm
/-- A new box. -/
theorem HoL.new {t : TypeId} (hr : RdL w lo (some ⟨G1, 0, none⟩) (some ⟨G2, 0, none⟩) l) (v : Vld l) (hlo : lo ≤ w.heap.size) (hn : l.cs.length = n) (hm : l.ps.length = m) :
    HoL (w.alloc (.cells #[.slice (some ⟨G1, 0, none⟩) n d1, .slice (some ⟨G2, 0, none⟩) m d2] t)) w.heap.size lo l n m G1 G2 d1 d2 := by
  have hx := Has.new w t #[.slice (some ⟨G1, 0, none⟩) n d1, .slice (some ⟨G2, 0, none⟩) m d2]
  have hb := (Below.refl w.heap.size w).alloc (Nat.le_refl _) (.cells #[.slice (some ⟨G1, 0, none⟩) n d1, .slice (some ⟨G2, 0, none⟩) m d2] t)
  have h1 : G1 < w.heap.size := by
    obtain ⟨b, o, e, h1, h2, _⟩ := hr.cs (by intro e; have := v.n2; rw [e] at this; simp at this)
    injection e with e
    injection e with e1 e2
    omega
  have h2 : G2 < w.heap.size := by
    obtain ⟨b, o, e, h1, h2, _⟩ := hr.ps (by intro e; have := v.m1; rw [e] at this; simp at this)
    injection e with e
    injection e with e1 e2
    omega
  exact ⟨hx.cell 0, hx.cell 1, hx.frozen, by omega, by omega, hlo, hr.below hb, hn, hm⟩
end
/-- The lists of the example. -/
def xs : Nat → Ls
  | 0 => x1 | 1 => x2 | 2 => x3 | 3 => x4 | 4 => x5 | 5 => x6 | 6 => x7 | 7 => x8 | _ => x9
end Lk
end
section
open Go.RowKit Go.Maps
namespace Lk
theorem has_far {w : World} {B : Nat} {t : TypeId} {cs : Array Value} (h : Has w B t cs) {p : Addr} (hp : p.block ≠ B) (v : Value) : Has (w.setCell p v) B t cs := (Below.heap_setCell w p v B (fun e => hp e.symm)).trans h
theorem tstp_tape {a b : World} {g : Nat} (h : TStep a g b) : Tape b g := h.1
/-- Nothing but one block has turned. -/
structure But (X : Nat) (w w' : World) : Prop where
  os : w'.os = w.os
  tape : w'.tape = w.tape
  output : w'.output = w.output
  size : w.heap.size ≤ w'.heap.size
  block : ∀ i, i < w.heap.size → i ≠ X → w'.heap[i]? = w.heap[i]?
section
variable {X : Nat} {a b c : World}
theorem But.of (h : Below a.heap.size a b) : But X a b := ⟨h.os, h.tape, h.output, h.size, fun i hi _ => h.block i hi⟩
theorem But.refl : But X a a := ⟨rfl, rfl, rfl, Nat.le_refl _, fun _ _ _ => rfl⟩
theorem But.set (h : But X a b) {p : Addr} (hp : p.block = X) (v : Value) : But X a (b.setCell p v) := ⟨h.os, h.tape, h.output, by simpa [World.setCell] using h.size, fun i hi hx => (Below.heap_setCell b p v i (by rw [hp]; exact hx)).trans (h.block i hi hx)⟩
theorem But.drew (h : But X a b) : But X a b.drew := ⟨h.os, h.tape, h.output, h.size, h.block⟩
theorem But.below (h : But X a b) {lo : Nat} (hX : lo ≤ X) (hl : lo ≤ a.heap.size) : Below lo a b := ⟨h.os, h.tape, h.output, h.size, fun i hi => h.block i (by omega) (by omega)⟩
theorem But.has {t : TypeId} {cs : Array Value} {B : Nat} (h : But X a b) (k : Has a B t cs) (hB : B ≠ X) : Has b B t cs := (h.block B k.lt hB).trans k
theorem But.rdl {lo : Nat} {A1 A2 : Option Addr} {l : Ls} (h : But X a b) (k : RdL a lo A1 A2 l) (hX : X < lo ∨ a.heap.size ≤ X) : RdL b lo A1 A2 l := k.keep h.size fun i h1 h2 => h.block i h2 (by omega)
end
/-- What a drawn call of Start leaves: a box X that holds its list, the error E. R is what else stays. -/
def StRel (R : World → Prop) (l : Ls) (q n m lo : Nat) (s1 s2 : Value) (wx : World) : Prop := ∃ (X : Nat) (E kd c : Int) (P1 P2 : Option Addr) (a1 a2 f1 f2 : Nat), s1 = .pointer (some ⟨X, 0, none⟩) ∧ s2 = .int .i64 E ∧ wx.cell? ⟨X, 0, none⟩ = some (.slice P1 a1 f1) ∧ wx.cell? ⟨X, 1, none⟩ = some (.slice P2 a2 f2) ∧ R wx ∧ Hid (E = staE l (q : Int) kd c) ∧ Hid (E = 0 → ∃ K1 K2, P1 = some ⟨K1, 0, none⟩ ∧ P2 = some ⟨K2, 0, none⟩ ∧ n = a1 ∧ m = a2 ∧ RdL wx lo (some ⟨K1, 0, none⟩) (some ⟨K2, 0, none⟩) (begV l q kd c))
theorem StRel.mk {R : World → Prop} {l : Ls} {q n m lo base X : Nat} {E kd c : Int} {P1 P2 : Option Addr} {a1 a2 f1 f2 : Nat} {w6 wx : World} (hE : E = staE l (q : Int) kd c) (hok : E = 0 → ∃ G1 G2, P1 = some ⟨G1, 0, none⟩ ∧ P2 = some ⟨G2, 0, none⟩ ∧ a1 = n ∧ a2 = m ∧ RdL w6 base (some ⟨G1, 0, none⟩) (some ⟨G2, 0, none⟩) (begV l ((q : Int)).toNat kd c)) (hb : lo ≤ base) (hR : But X w6 wx → R wx) (k : But X w6 wx) (h0 : wx.cell? ⟨X, 0, none⟩ = some (.slice P1 a1 f1)) (h1 : wx.cell? ⟨X, 1, none⟩ = some (.slice P2 a2 f2)) (hX : X < base ∨ w6.heap.size ≤ X) : StRel R l q n m lo (.pointer (some ⟨X, 0, none⟩)) (.int .i64 E) wx := by
  refine ⟨X, E, kd, c, P1, P2, a1, a2, f1, f2, rfl, rfl, h0, h1, hR k, Lib.hid hE, Lib.hid fun he => ?_⟩
  obtain ⟨G1, G2, e1, e2, e3, e4, hr⟩ := hok he
  exact ⟨G1, G2, e1, e2, e3.symm, e4.symm, (k.rdl hr hX).low hb⟩
/-- What a drawn call of Step leaves: a box X that holds its list, whether it was a step. R is what else stays. -/
def SpRel (R : World → Prop) (l : Ls) (q : Int) (n m lo : Nat) (s1 s2 : Value) (wx : World) : Prop := ∃ (X G1 G2 d1 d2 : Nat) (b : Bool), s1 = .pointer (some ⟨X, 0, none⟩) ∧ s2 = .bool b ∧ wx.cell? ⟨X, 0, none⟩ = some (.slice (some ⟨G1, 0, none⟩) n d1) ∧ wx.cell? ⟨X, 1, none⟩ = some (.slice (some ⟨G2, 0, none⟩) m d2) ∧ R wx ∧ Hid (b = (stpO l q).isSome) ∧ RdL wx lo (some ⟨G1, 0, none⟩) (some ⟨G2, 0, none⟩) ((stpO l q).getD l)
theorem SpRel.mk {R : World → Prop} {l : Ls} {q : Int} {n m lo base X G1 G2 d1 d2 : Nat} {b : Bool} {w6 wx : World} (hb0 : b = (stpO l q).isSome) (hr : RdL w6 base (some ⟨G1, 0, none⟩) (some ⟨G2, 0, none⟩) ((stpO l q).getD l)) (hb : lo ≤ base) (hR : But X w6 wx → R wx) (k : But X w6 wx) (h0 : wx.cell? ⟨X, 0, none⟩ = some (.slice (some ⟨G1, 0, none⟩) n d1)) (h1 : wx.cell? ⟨X, 1, none⟩ = some (.slice (some ⟨G2, 0, none⟩) m d2)) (hX : X < base ∨ w6.heap.size ≤ X) : SpRel R l q n m lo (.pointer (some ⟨X, 0, none⟩)) (.bool b) wx :=
  ⟨X, G1, G2, d1, d2, b, rfl, rfl, h0, h1, hR k, Lib.hid hb0, (k.rdl hr hX).low hb⟩
end Lk
end
section
open Go.RowKit Go.Maps
namespace Lk
theorem sel_false : selV [false] = fun _ => false := by
  funext i
  unfold selV
  match i - 2 with
  | 0 => rfl
  | _ + 1 => rfl
end Lk
end
end Go.Proofs.YtmhbloefmknikaaGreatDoor
