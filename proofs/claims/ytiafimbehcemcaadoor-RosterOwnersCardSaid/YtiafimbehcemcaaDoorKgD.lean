/-
  Sort of package roster, of at most 19 nodes: what it gives. Condition: the nodes can be read.
-/
import Derived.Test.YtiafimbehcemcaaDoorKgC
import Derived.Laws.Externs
namespace Go.Proofs.YtiafimbehcemcaaDoor
open Go.RowKit

/-- What the function literal answers while the sort runs, and what the library's exchange does. -/
def LessN (B : Nat) (w : World) (g : Nat) (pad : List Value) (n : Nat) : Prop := ∀ (W : World) (d : Array Nd), SRel w g pad W d → d.size = n → ∀ i j : Nat, i < n → j < n →
  Calls Tryd.prog 107 #[.int .i64 (i : Int), .int .i64 (j : Int), .pointer (some ⟨B, 0, none⟩)] W fun e W' => e = .returned (.bool (nlt d[i]! d[j]!)) ∧ Below W.heap.size W W'
def SwapN (sf : Nat) (sb : Array Value) (w : World) (g : Nat) (pad : List Value) (n : Nat) : Prop := ∀ (W : World) (d : Array Nd), SRel w g pad W d → d.size = n → ∀ i j : Nat, i < n → j < n → i ≠ j →
  ∃ W', (callFunc sf (#[.int .i64 (i : Int), .int .i64 (j : Int)] ++ sb)).run Tryd.prog W = .ok (.value (.tuple #[])) W' ∧ SRel w g pad W' (Go.Sort.swp d i j) ∧ W'.heap.size = W.heap.size
theorem lessN {B g n cap : Nat} {w : World} {pad : List Value} (hB : w.cell? ⟨B, 0, none⟩ = some (.slice (some ⟨g, 0, none⟩) n cap)) (hBl : B < w.heap.size) (hBg : B ≠ g) : LessN B w g pad n := fun W d h hd i j hi hj => by
  have c1 := h.cells (i := i) (by omega)
  have c2 := h.cells (i := j) (by omega)
  refine less_any B g 0 n cap i j d[i]! d[j]! W ?_ hi hj ?_ ?_ ?_ ?_
  · exact (World.cell?_of_block (h.1.block B hBl (fun e => hBg (Option.some.inj e)))).trans hB
  · rw [Nat.zero_add]; exact c1.1
  · rw [Nat.zero_add]; exact c1.2.1
  · rw [Nat.zero_add]; exact c2.1
  · rw [Nat.zero_add]; exact c2.2.1
set_option maxRecDepth 100000 in
theorem swapN {g n cap : Nat} {w : World} {pad : List Value} : SwapN 170 #[.slice (some ⟨g, 0, none⟩) n cap, typeHandle Tryd.prog 60] w g pad n := fun W d h hd i j hi hj _ => by
  obtain ⟨inf, hif, hif1, hif2, hif3⟩ := infoN_parts
  have cc : ∀ x, x < d.size → ∀ u v, ([.int .i64 d[x]!.id, .string d[x]!.key, .int .u32 (d[x]!.word : Int)] : List Value)[u]? = some v → W.cell? ⟨g, 0 + x * inf.size + u, none⟩ = some v := fun x hx u v hv => by
    have c := h.cells hx
    rw [Nat.zero_add, hif2]
    match u, hv with
    | 0, hv => exact c.1.trans hv
    | 1, hv => exact c.2.1.trans hv
    | 2, hv => exact c.2.2.trans hv
  have fr : ∀ o, W.frozen? ⟨g, o, none⟩ = false := fun o => h.2.frozen o
  have o1 : ∀ x : Nd, ∀ v ∈ ([.int .i64 x.id, .string x.key, .int .u32 (x.word : Int)] : List Value), v.oneCell' = true := fun x v hv => by
    simp at hv
    rcases hv with rfl | rfl | rfl <;> rfl
  have hrun := Go.Lib.run_swap_cells (P := Tryd.prog) false 60 inf hif (fun _ => by kernel_rfl) g 0 n cap i j hi hj [.int .i64 d[i]!.id, .string d[i]!.key, .int .u32 (d[i]!.word : Int)] [.int .i64 d[j]!.id, .string d[j]!.key, .int .u32 (d[j]!.word : Int)] (by rw [hif2]; rfl) (by rw [hif2]; rfl) (o1 d[i]!) (o1 d[j]!) W (cc i (by omega)) (cc j (by omega)) (fun k _ => fr _) (fun k _ => fr _)
  rw [hif2] at hrun
  refine ⟨_, ?_, h.swap (i := i) (j := j) (by omega) (by omega), by simp [World.setCells, World.setCell]⟩
  have hx := run_callFunc_extern Tryd.func170 (by kernel_rfl) (by kernel_rfl) (by kernel_rfl) (e := Go.Extern.ReflectliteSwapper.swap false) (by kernel_rfl) (#[.int .i64 (i : Int), .int .i64 (j : Int)] ++ #[.slice (some ⟨g, 0, none⟩) n cap, typeHandle Tryd.prog 60]) W
  rw [hx]
  rw [show (#[Value.int .i64 (i : Int), Value.int .i64 (j : Int)] ++ #[Value.slice (some ⟨g, 0, none⟩) n cap, typeHandle Tryd.prog 60]) = #[.int .i64 i, .int .i64 j, .slice (some ⟨g, 0, none⟩) n cap, typeHandle Tryd.prog 60] from rfl, hrun]
  rfl
theorem ins_out {a b i : Nat} {d : Array Nd} (h : i < b) : Go.Sort.insOuter nlt a b i d = Go.Sort.insOuter nlt a b (i + 1) (Go.Sort.insInner nlt a i d) := by
  rw [Go.Sort.insOuter, if_pos h]
theorem ins_end {a b i : Nat} {d : Array Nd} (h : ¬ i < b) : Go.Sort.insOuter nlt a b i d = d := by
  rw [Go.Sort.insOuter, if_neg h]
theorem ins_go {a p : Nat} {d : Array Nd} (h : a < p + 1) (k : nlt d[p + 1]! d[p]! = true) : Go.Sort.insInner nlt a (p + 1) d = Go.Sort.insInner nlt a p (Go.Sort.swp d (p + 1) p) := by
  rw [Go.Sort.insInner, if_pos (by simp [k]; omega)]
theorem ins_stop {a j : Nat} {d : Array Nd} (h : j ≤ a ∨ nlt d[j]! d[j - 1]! = false) : Go.Sort.insInner nlt a j d = d := by
  cases j with
  | zero => rfl
  | succ p =>
    rw [Go.Sort.insInner, if_neg]
    rcases h with h | h
    · simp only [Bool.and_eq_true, decide_eq_true_eq, not_and]
      intro h2
      omega
    · rw [show p + 1 - 1 = p by omega] at h
      simp [h]
theorem SRel.base {w w1 W : World} {g : Nat} {pad : List Value} {d : Array Nd} (h : SRel w1 g pad W d) (k : w.grownBy w1 (some g)) : SRel w g pad W d := ⟨grownBy_trans k h.1, h.2⟩
theorem SRel.aside {w W : World} {g : Nat} {pad : List Value} {d : Array Nd} (h : SRel w g pad W d) {X : Nat} {t : TypeId} {cs : Array Value} (hX : Has w X t cs) (hne : X ≠ g) : Has W X t cs := (h.1.block X hX.lt (fun e => hne (Option.some.inj e))).trans hX

set_option maxRecDepth 100000 in
set_option maxHeartbeats 3200000 in
theorem ins_func (B g n cap : Nat) (pad : List Value) (sf : Nat) (sb : Array Value) (hSw : ∀ w1, SwapN sf sb w1 g pad n) (d : Array Nd) (a b : Nat) (w : World) (hg : Has w g 60 (flatN d.toList ++ pad).toArray) (hd : d.size = n)
    (hB : w.cell? ⟨B, 0, none⟩ = some (.slice (some ⟨g, 0, none⟩) n cap)) (hBl : B < w.heap.size) (hBg : B ≠ g) (hab : a ≤ b) (hb : b ≤ n) (hn : n ≤ 1000000) :
    Calls Tryd.prog 171 #[.agg #[.func (.func 107) #[] #[.pointer (some ⟨B, 0, none⟩)], .func (.func sf) #[] sb], .int .i64 (a : Int), .int .i64 (b : Int)] w fun e W' => e = .returned (.tuple #[]) ∧ SRel w g pad W' (Go.Sort.insertionSort nlt d a b) := by
  have hgl := hg.lt
  obtain ⟨w1, hw1⟩ : ∃ w1, w1 = w.alloc (.cells #[.func (.func 107) #[] #[.pointer (some ⟨B, 0, none⟩)], .func (.func sf) #[] sb] 186) := ⟨_, rfl⟩
  have hbw : Below w.heap.size w w1 := by rw [hw1]; exact (Below.refl _ _).alloc (Nat.le_refl _) _
  have hX : Has w1 w.heap.size 186 #[.func (.func 107) #[] #[.pointer (some ⟨B, 0, none⟩)], .func (.func sf) #[] sb] := by rw [hw1]; exact Has.new _ _ _
  have hk1 : w.grownBy w1 (some g) := ⟨hbw.os, hbw.tape, hbw.output, hbw.size, fun i hi _ => hbw.block i hi⟩
  have hs1 : SRel w1 g pad w1 d := SRel.start (hg.below hbw)
  have HL := Lib.hid (lessN (w := w1) (pad := pad) ((hbw.cell (p := ⟨B, 0, none⟩) hBl).trans hB) (Nat.lt_of_lt_of_le hBl hbw.size) hBg)
  have HSW := Lib.hid (hSw w1)
  have HK := Lib.hid hk1
  have hXg : w.heap.size ≠ g := by omega
  have HO0 : Hid (Go.Sort.insertionSort nlt d a b = Go.Sort.insOuter nlt a b (a + 1) d) := Lib.hid rfl
  generalize Go.Sort.insertionSort nlt d a b = Z at *
  have wa : IntKind.i64.wrap ((a : Int) + 1) = (a : Int) + 1 := IntWalk.i64_in _ (by omega)
  clear hB hBl hBg hg hSw hk1 hbw
  go_enter Tryd.func171, Tryd.ntmps171
  go_wp2_with fail
  rw [← hw1]
  clear hw1
  go_loopw [6] (fun vi wr => ∃ (i : Nat) (dk : Array Nd), vi = .int .i64 (i : Int) ∧ a < i ∧ i ≤ b + 1 ∧ dk.size = n ∧ SRel w1 g pad wr dk ∧ Hid (Z = Go.Sort.insOuter nlt a b i dk)) (fun vi _ => b + 1 - (intOf vi).toNat)
  case atStart => exact ⟨a + 1, d, by go_num, by omega, by omega, hd, hs1, HO0⟩
  case round =>
    clear hs1 HO0 wa
    obtain ⟨i, dk, rfl, hai, hib, hsk, hs, HO⟩ := hrel
    by_cases hlt : i < b
    · have hltz : (i : Int) < (b : Int) := by omega
      go_wp2_with fail
      go_loopw [7] (fun vj wz => ∃ (j : Nat) (dj : Array Nd), vj = .int .i64 (j : Int) ∧ a ≤ j ∧ j ≤ i ∧ dj.size = n ∧ SRel w1 g pad wz dj ∧ Hid (Go.Sort.insInner nlt a j dj = Go.Sort.insInner nlt a i dk)) (fun vj _ => (intOf vj).toNat)
      case atStart => exact ⟨i, dk, rfl, by omega, by omega, hsk, hs, Lib.hid rfl⟩
      case round =>
        clear hs
        obtain ⟨j, dj, rfl, haj, hji, hsj, hs, HI⟩ := hrel
        have OUT : Hid ((j ≤ a ∨ nlt dj[j]! dj[j - 1]! = false) → Z = Go.Sort.insOuter nlt a b (i + 1) dj) := Lib.hid fun h => by
          rw [HO.out, ins_out hlt, ← HI.out, ins_stop h]
        by_cases hja : a < j
        · obtain ⟨p, rfl⟩ : ∃ p, j = p + 1 := ⟨j - 1, by omega⟩
          have hjz : (a : Int) < ((p + 1 : Nat) : Int) := by omega
          have hwp : IntKind.i64.wrap (((p + 1 : Nat) : Int) - 1) = (p : Int) := by rw [show ((p + 1 : Nat) : Int) - 1 = (p : Int) by omega]; exact IntWalk.i64_in _ (by omega)
          have hXw := hs.aside hX hXg
          have x0 := hXw.cell 0
          have x1 := hXw.cell 1
          have hl := HL.out wr dj hs hsj (p + 1) p (by omega) (by omega)
          have HGO := Lib.hid (ins_go (d := dj) hja)
          cases hlv : nlt dj[p + 1]! dj[p]!
          · have hz := OUT.out (.inr (by simpa using hlv))
            have HZ := Lib.hid hz
            rw [hlv] at hl
            have HLc := Lib.hid hl
            clear hl hz OUT HGO hlv
            go_wp2_with fail
            refine (HLc.out).mono ?_
            rintro e w2 ⟨rfl, hb2⟩
            go_wp2_with fail
            exact ⟨⟨i + 1, dj, by go_num, by omega, by omega, hsj, hs.below hb2, HZ⟩, by simp [intOf]; omega⟩
          · have HZ := Lib.hid (HGO.out hlv)
            rw [hlv] at hl
            have HLc := Lib.hid hl
            clear hl OUT HGO hlv
            go_wp2_with fail
            refine (HLc.out).mono ?_
            rintro e w2 ⟨rfl, hb2⟩
            have hs2 := hs.below hb2
            have hXw2 := hs2.aside hX hXg
            have x0' := hXw2.cell 0
            have x1' := hXw2.cell 1
            obtain ⟨w3, hr3, hs3, _⟩ := HSW.out w2 dj hs2 hsj (p + 1) p (by omega) (by omega) (by omega)
            rw [show ((p + 1 : Nat) : Int) = (p : Int) + 1 by omega] at hr3
            go_wp2_with fail
            exact ⟨⟨p, Go.Sort.swp dj (p + 1) p, by go_num, by omega, by omega, by rw [Go.Sort.swp_size]; exact hsj, hs3, Lib.hid (by rw [← HZ.out, HI.out])⟩, by simp [intOf]⟩
        · have HZ := Lib.hid (OUT.out (.inl (by omega)))
          have hjz : ¬ (a : Int) < (j : Int) := by omega
          clear OUT
          go_wp2_with fail
          exact ⟨⟨i + 1, dj, by go_num, by omega, by omega, hsj, hs, HZ⟩, by simp [intOf]; omega⟩
    · have HZ : Hid (Z = dk) := Lib.hid (by rw [HO.out, ins_end hlt])
      have hltz : ¬ (i : Int) < (b : Int) := by omega
      go_wp2_with fail
      go_end0
      exact ⟨rfl, by rw [HZ.out]; exact hs.base HK.out⟩
end Go.Proofs.YtiafimbehcemcaaDoor
