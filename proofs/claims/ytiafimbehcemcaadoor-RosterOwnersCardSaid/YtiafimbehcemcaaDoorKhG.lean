/-
  Sort of package roster, of any list of at most 100,000 nodes: what it gives. Condition: the nodes can be read.
-/
import Derived.Test.YtiafimbehcemcaaDoorKhF
import Derived.Test.YtiafimbehcemcaaDoorKgF
namespace Go.Proofs.YtiafimbehcemcaaDoor
open Go.RowKit

set_option maxRecDepth 100000 in
set_option maxHeartbeats 800000 in
theorem ins_none (lb : Array Value) (sf : Nat) (sb : Array Value) (w : World) :
    Calls Tryd.prog 171 #[.agg #[.func (.func 107) #[] lb, .func (.func sf) #[] sb], .int .i64 0, .int .i64 0] w fun e w' => e = .returned (.tuple #[]) ∧ Below w.heap.size w w' := by
  have hb := (Below.refl w.heap.size w).alloc (Nat.le_refl _) (.cells #[.func (.func 107) #[] lb, .func (.func sf) #[] sb] 186)
  go_enter Tryd.func171, Tryd.ntmps171
  go_wp2_with fail
  refine wp_loop_rounds 1 ?_
  rw [rounds_succ]
  go_wp2_with fail
  go_end0
  exact ⟨rfl, hb⟩
set_option maxRecDepth 100000 in
set_option maxHeartbeats 800000 in
theorem stable_none (lb : Array Value) (sf : Nat) (sb : Array Value) (w : World) :
    Calls Tryd.prog 149 #[.agg #[.func (.func 107) #[] lb, .func (.func sf) #[] sb], .int .i64 0] w fun e w' => e = .returned (.tuple #[]) ∧ Below w.heap.size w w' := by
  have hb := (Below.refl w.heap.size w).alloc (Nat.le_refl _) (.cells #[.func (.func 107) #[] lb, .func (.func sf) #[] sb] 186)
  have hX := Has.new w 186 #[.func (.func 107) #[] lb, .func (.func sf) #[] sb]
  have x0 := hX.cell 0
  have x1 := hX.cell 1
  have H := Lib.hid (ins_none lb sf sb (w.alloc (.cells #[.func (.func 107) #[] lb, .func (.func sf) #[] sb] 186)))
  clear hX
  go_enter Tryd.func149, Tryd.ntmps149
  go_wp2_with fail
  refine wp_loop_rounds 1 ?_
  rw [rounds_succ]
  go_wp2_with fail
  refine (H.out).mono ?_
  rintro e w2 ⟨rfl, hb2⟩
  go_wp2_with fail
  refine wp_loop_rounds 1 ?_
  rw [rounds_succ]
  go_wp2_with fail
  go_end0
  exact ⟨rfl, hb.trans (hb2.mono hb.size)⟩
theorem swapper_k0 (inf : TypeInfo) : Go.Lib.swapperK 0 inf 25 = 1 := by simp [Go.Lib.swapperK]
/-- What Sort gives. -/
def StsP (l : List Nd) (w : World) (e : Ending) (w' : World) : Prop := ∃ s, StbS l s ∧ NdsP s w e w'

set_option maxRecDepth 100000 in
set_option maxHeartbeats 1600000 in
theorem sort_nil (A : Option Addr) (c : Nat) (w : World) :
    Calls Tryd.prog 47 #[.slice A 0 c] w (StsP [] w) := by
  have HC := Lib.hid (clone_any A [] c w (Nds.nil A) (Nat.zero_le _))
  obtain ⟨inf, hif⟩ : ∃ i, Tryd.prog.info? 60 = some i := ⟨(Tryd.prog.info? 60).get (by kernel_rfl), by kernel_rfl⟩
  have hsk := swapper_k0 inf
  go_enter Tryd.func47, Tryd.ntmps47
  go_wp2_with fail
  refine (HC.out).mono ?_
  rintro e w1 ⟨A1, c1, rfl, ho, hb1⟩
  have hX := Has.new w1 23 #[.slice A1 0 c1]
  have hb2 := hb1.alloc hb1.size (.cells #[.slice A1 0 c1] 23)
  have x0 := hX.cell 0
  have HSL : Hid (Calls Tryd.prog 106 #[.iface 23 (.slice A1 0 c1), .func (.func 107) #[] #[.pointer (some ⟨w1.heap.size, 0, none⟩)]] (w1.alloc (.cells #[.slice A1 0 c1] 23)) fun e W' => e = .returned (.tuple #[]) ∧ Below (w1.alloc (.cells #[.slice A1 0 c1] 23)).heap.size (w1.alloc (.cells #[.slice A1 0 c1] 23)) W') := Lib.hid (by
    refine slice_of A1 0 c1 162 inf hif (by rw [hsk]; kernel_rfl) _ #[] (by rw [hsk]; rfl) _ _ ?_
    intro W hW
    refine (stable_none _ _ _ W).mono ?_
    rintro e W' ⟨rfl, hb⟩
    exact ⟨rfl, hW.trans (hb.mono hW.size)⟩)
  have HX := Lib.hid hX
  have HO := Lib.hid ho
  clear hX hsk hb1 ho
  go_wp2_with fail
  refine (HSL.out).mono ?_
  rintro e w3 ⟨rfl, hb3⟩
  have y0 := (HX.out.below hb3).cell 0
  go_wp2_with fail
  go_ret
  refine ⟨[], ⟨[], rfl, List.Pairwise.nil, fun t => by simp⟩, A1, c1, rfl, ?_, hb2.trans (hb3.mono hb2.size)⟩
  exact (HO.out.below ((Below.refl _ _).alloc (Nat.le_refl _) _)).below hb3

set_option maxRecDepth 100000 in
set_option maxHeartbeats 1600000 in
theorem sort_big (A : Option Addr) (l : List Nd) (c : Nat) (w : World) (hl : Nds w w.heap.size A l) (hn : l.length ≤ 100000) :
    Calls Tryd.prog 47 #[.slice A l.length c] w (StsP l w) := by
  by_cases h0 : l = []
  · subst h0
    exact sort_nil A c w
  have HC := Lib.hid (clone_any A l c w hl hn)
  obtain ⟨n, hn'⟩ : ∃ n, n = l.length := ⟨_, rfl⟩
  have hn1 : 1 ≤ n := by rw [hn']; exact List.length_pos_iff.2 h0
  rw [← hn'] at hn HC ⊢
  have HN := Lib.hid hn'
  clear hl hn'
  obtain ⟨inf, hif⟩ : ∃ i, Tryd.prog.info? 60 = some i := ⟨(Tryd.prog.info? 60).get (by kernel_rfl), by kernel_rfl⟩
  have hsk := swapper_k inf hif n hn1
  go_enter Tryd.func47, Tryd.ntmps47
  go_wp2_with fail
  refine (HC.out).mono ?_
  rintro e w1 ⟨A1, c1, rfl, ho, hb1⟩
  obtain ⟨g, cap, pad, e1, hgb, hg, hback⟩ := ho.row h0
  rw [← HN.out] at e1 ⊢
  injection e1 with e1 _ e2
  subst e1 e2
  have hgl := hg.lt
  have hX := Has.new w1 23 #[.slice (some ⟨g, 0, none⟩) n c1]
  have hb2 := hb1.alloc hb1.size (.cells #[.slice (some ⟨g, 0, none⟩) n c1] 23)
  have hg2 := hg.alloc (.cells #[.slice (some ⟨g, 0, none⟩) n c1] 23)
  have hl2 : (w1.alloc (.cells #[.slice (some ⟨g, 0, none⟩) n c1] 23)).heap.size = w1.heap.size + 1 := World.size_alloc _ _
  have x0 := hX.cell 0
  have HR : Hid (∀ (sf : Nat) (sb : Array Value), (∀ w1, SwapN sf sb w1 g pad n) → ∀ W, Below (w1.alloc (.cells #[.slice (some ⟨g, 0, none⟩) n c1] 23)).heap.size (w1.alloc (.cells #[.slice (some ⟨g, 0, none⟩) n c1] 23)) W →
      Calls Tryd.prog 149 #[.agg #[.func (.func 107) #[] #[.pointer (some ⟨w1.heap.size, 0, none⟩)], .func (.func sf) #[] sb], .int .i64 (n : Int)] W fun e W' => e = .returned (.tuple #[]) ∧ ∃ d, SRel (w1.alloc (.cells #[.slice (some ⟨g, 0, none⟩) n c1] 23)) g pad W' d ∧ d.size = n ∧ StbS l d.toList) := Lib.hid fun sf sb hsw W hbW => by
    refine (stable_any (nth l) w1.heap.size g n c1 pad _ sf sb hsw x0 (by rw [hl2]; exact Nat.lt_succ_self _) (by omega) (by omega) W ⟨l.toArray, (SRel.start (d := l.toArray) hg2).below hbW, by simp [HN.out], fun k hk => ?_⟩).mono ?_
    · rw [getElem!_pos l.toArray k (by simpa [HN.out] using hk)]
      rw [HN.out] at hk
      simp [nth, List.getElem?_eq_getElem hk]
    · rintro e W' ⟨rfl, hgr, G', ⟨d, h1, h2⟩, h3, h4⟩
      exact ⟨rfl, d, h1, h2.1, stb_of HN.out.symm h2 h3 h4⟩
  have HSL : Hid (Calls Tryd.prog 106 #[.iface 23 (.slice (some ⟨g, 0, none⟩) n c1), .func (.func 107) #[] #[.pointer (some ⟨w1.heap.size, 0, none⟩)]] (w1.alloc (.cells #[.slice (some ⟨g, 0, none⟩) n c1] 23)) fun e W' => e = .returned (.tuple #[]) ∧ ∃ d, SRel (w1.alloc (.cells #[.slice (some ⟨g, 0, none⟩) n c1] 23)) g pad W' d ∧ d.size = n ∧ StbS l d.toList) := Lib.hid (by
    by_cases h1 : n = 1
    · rw [if_pos h1] at hsk
      refine slice_of _ n c1 163 inf hif (by rw [hsk]; kernel_rfl) _ #[] (by rw [hsk]; rfl) _ _ (HR.out _ _ ?_)
      intro w1 W d _ _ i j hi hj hij
      omega
    · rw [if_neg h1] at hsk
      exact slice_of _ n c1 170 inf hif (by rw [hsk]; kernel_rfl) _ _ (by rw [hsk]; rfl) _ _ (HR.out _ _ fun w1 => swapN))
  have hgw : ∀ j, some g = some j → w.heap.size ≤ j := fun j e => by rw [← Option.some.inj e]; exact hgb
  have hBg : w1.heap.size ≠ g := by omega
  have HX := Lib.hid hX
  have HBK := Lib.hid hback
  clear hX HR hsk hback ho hg hg2 hb1
  go_wp2_with fail
  refine (HSL.out).mono ?_
  rintro e w3 ⟨rfl, d, hs, hd, hstb⟩
  have y0 := (hs.aside HX.out hBg).cell 0
  go_wp2_with fail
  go_ret
  have hdl : d.toList.length = l.length := by rw [Array.length_toList, hd, HN.out]
  have ho3 := HBK.out w3 d.toList hdl hs.2
  refine ⟨d.toList, hstb, some ⟨g, 0, none⟩, c1, ?_, ho3, hb2.grown hs.1 hb2.size hgw⟩
  rw [hdl, ← HN.out]
  rfl
end Go.Proofs.YtiafimbehcemcaaDoor
