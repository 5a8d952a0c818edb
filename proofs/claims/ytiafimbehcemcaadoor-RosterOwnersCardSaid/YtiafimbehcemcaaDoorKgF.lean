/-
  Sort of package roster, of at most 19 nodes that are a roster: what it gives. Condition: the nodes can be read.
-/
import Derived.Test.YtiafimbehcemcaaDoorKgE
import Derived.Test.YtiafimbehcemcaaDoorKdG
namespace Go.Proofs.YtiafimbehcemcaaDoor
open Go.RowKit

set_option maxRecDepth 100000 in
set_option maxHeartbeats 800000 in
theorem clone_any (A : Option Addr) (l : List Nd) (c : Nat) (w : World) (hl : Nds w w.heap.size A l) (hn : l.length ≤ 100000) :
    Calls Tryd.prog 105 #[.slice A l.length c] w (NdsP l w) := by
  have q23 : ∀ (w : World) (a : Option Addr) (n c n' c' : Nat), (binOp .eql 23 (.slice a n c) (.slice none n' c')).run Tryd.prog w = .ok (.bool a.isNone) w := fun w a n c n' c' => Lib.run_eql_slice_nil w _ _ a n c n' c' Tryd.underlying23
  cases A with
  | none =>
    have hl0 : l = [] := by
      rcases List.eq_nil_or_concat l with h | ⟨a, b, h⟩
      · exact h
      · obtain ⟨b, o, e, _⟩ := hl (by rw [h]; simp)
        cases e
    subst hl0
    clear hl
    go_enter Tryd.func105, Tryd.ntmps105
    go_wp2_with fail
    go_ret
    exact ⟨none, 0, rfl, OwnN.nil _ _, Below.refl _ _⟩
  | some a =>
    obtain ⟨inf, hif, hif1, hif2, hif3⟩ := infoN_parts
    have hbw := (Below.refl w.heap.size w).alloc (Nat.le_refl _) (.cells #[] 60)
    have hem := OwnN.empty w
    have hnd := hl.below hbw
    obtain ⟨n, hn'⟩ : ∃ n, n = l.length := ⟨_, rfl⟩
    have hn2 := hn'
    rw [← hn'] at hn ⊢
    have HN := Lib.hid hn'
    clear hn' hl
    go_enter Tryd.func105, Tryd.ntmps105
    go_wp2_with (at_builtin; refine wpList_pushNs rfl _ _ 23 rfl w.heap.size inf Tryd.underlying23 hif hif1 hif2 hif3 (.slice (some ⟨w.heap.size, 0, none⟩) 0 0) [] rfl hem w.heap.size (some a) l n c hn2.symm rfl hnd (by simp; omega) hbw.size ?_; intro v1 w1 ho hb)
    go_ret
    obtain ⟨A1, c1, rfl, -⟩ := ho.read
    exact ⟨A1, c1, rfl, ho, hbw.trans hb⟩

theorem srt_ins (l : List Nd) : Srt l (Go.Sort.insertionSort nlt l.toArray 0 l.length).toList := by
  have h := Go.Sort.insertionSort_holds (lt := nlt) nlt_swo l.toArray 0 l.length (Nat.zero_le _) (by simp)
  obtain ⟨⟨h1, _, h3⟩, h4⟩ := h
  generalize Go.Sort.insertionSort nlt l.toArray 0 l.length = Z at *
  have hz : Z.size = l.length := by simpa using h1
  have e1 : (Z.extract 0 l.length) = Z := by rw [← hz]; simp
  have e2 : (l.toArray.extract 0 l.length) = l.toArray := by simp
  rw [e1, e2] at h3
  refine ⟨by simpa using h3, List.pairwise_iff_getElem.2 fun i j hi hj hij => ?_⟩
  have hj' : j < Z.size := by simpa using hj
  have := h4 i j (Nat.zero_le _) hij (by omega)
  rw [getElem!_pos Z j hj', getElem!_pos Z i (by omega)] at this
  simpa using this
theorem swapper_k (inf : TypeInfo) (hif : Tryd.prog.info? 60 = some inf) (n : Nat) (h : 1 ≤ n) : Go.Lib.swapperK n inf 25 = if n = 1 then 2 else 9 := by
  have a : inf.hasPointers = true := by
    have h : (Tryd.prog.info? 60).map (·.hasPointers) = some true := by kernel_rfl
    rw [hif] at h
    exact Option.some.inj h
  have b : inf.bytes = 32 := by
    have h : (Tryd.prog.info? 60).map (·.bytes) = some 32 := by kernel_rfl
    rw [hif] at h
    exact Option.some.inj h
  have c : (n == 0) = false := by simp; omega
  by_cases d : n = 1
  · simp [Go.Lib.swapperK, d]
  · simp [Go.Lib.swapperK, a, b, c, d]

/-- What Sort gives. -/
def SrtP (l : List Nd) (w : World) (e : Ending) (w' : World) : Prop := ∃ s, Srt l s ∧ NdsP s w e w'
set_option maxRecDepth 100000 in
set_option maxHeartbeats 1600000 in
theorem sort_any (A : Option Addr) (l : List Nd) (c : Nat) (w : World) (hl : Nds w w.heap.size A l) (h0 : l ≠ []) (hn : l.length < 20) :
    Calls Tryd.prog 47 #[.slice A l.length c] w (SrtP l w) := by
  have HC := Lib.hid (clone_any A l c w hl (by omega))
  obtain ⟨n, hn'⟩ : ∃ n, n = l.length := ⟨_, rfl⟩
  have hn1 : 1 ≤ n := by
    rw [hn']
    cases l with
    | nil => exact absurd rfl h0
    | cons x l => simp
  have HS := Lib.hid (srt_ins l)
  rw [← hn'] at hn HC HS ⊢
  have HN := Lib.hid hn'
  clear hl hn'
  obtain ⟨inf, hif⟩ : ∃ i, Tryd.prog.info? 60 = some i := ⟨(Tryd.prog.info? 60).get (by kernel_rfl), by kernel_rfl⟩
  have hsk := swapper_k inf hif n hn1
  go_enter Tryd.func47, Tryd.ntmps47
  go_wp2_with fail
  refine (HC.out).mono ?_
  rintro e w1 ⟨A1, c1, rfl, ho, hb1⟩
  obtain ⟨g, cap, pad, e1, hgb, hg, hback⟩ := ho.row h0
  rw [← HN.out] at e1 ⊢
  injection e1 with e1 _ e2
  subst e1 e2
  have hgl := hg.lt
  have hX := Has.new w1 23 #[.slice (some ⟨g, 0, none⟩) n c1]
  have hb2 := hb1.alloc hb1.size (.cells #[.slice (some ⟨g, 0, none⟩) n c1] 23)
  have hg2 := hg.alloc (.cells #[.slice (some ⟨g, 0, none⟩) n c1] 23)
  have hl2 : (w1.alloc (.cells #[.slice (some ⟨g, 0, none⟩) n c1] 23)).heap.size = w1.heap.size + 1 := World.size_alloc _ _
  have x0 := hX.cell 0
  have HR : Hid (∀ (sf : Nat) (sb : Array Value), (∀ w1, SwapN sf sb w1 g pad n) → ∀ W, Below (w1.alloc (.cells #[.slice (some ⟨g, 0, none⟩) n c1] 23)).heap.size (w1.alloc (.cells #[.slice (some ⟨g, 0, none⟩) n c1] 23)) W →
      Calls Tryd.prog 149 #[.agg #[.func (.func 107) #[] #[.pointer (some ⟨w1.heap.size, 0, none⟩)], .func (.func sf) #[] sb], .int .i64 (n : Int)] W fun e W' => e = .returned (.tuple #[]) ∧ SRel (w1.alloc (.cells #[.slice (some ⟨g, 0, none⟩) n c1] 23)) g pad W' (Go.Sort.insertionSort nlt l.toArray 0 n)) := Lib.hid fun sf sb hsw W hbW => by
    refine (stable_func w1.heap.size g n c1 pad sf sb hsw l.toArray W (hg2.below hbW) (by simp [HN.out]) ((hbW.cell (p := ⟨w1.heap.size, 0, none⟩) (by rw [hl2]; exact Nat.lt_succ_self _)).trans x0) (by have := hbW.size; omega) (by omega) hn).mono ?_
    rintro e W' ⟨rfl, h⟩
    exact ⟨rfl, h.below_base hbW⟩
  have HSL : Hid (Calls Tryd.prog 106 #[.iface 23 (.slice (some ⟨g, 0, none⟩) n c1), .func (.func 107) #[] #[.pointer (some ⟨w1.heap.size, 0, none⟩)]] (w1.alloc (.cells #[.slice (some ⟨g, 0, none⟩) n c1] 23)) fun e W' => e = .returned (.tuple #[]) ∧ SRel (w1.alloc (.cells #[.slice (some ⟨g, 0, none⟩) n c1] 23)) g pad W' (Go.Sort.insertionSort nlt l.toArray 0 n)) := Lib.hid (by
    by_cases h1 : n = 1
    · rw [if_pos h1] at hsk
      refine slice_of _ n c1 163 inf hif (by rw [hsk]; kernel_rfl) _ #[] (by rw [hsk]; rfl) _ _ (HR.out _ _ ?_)
      intro w1 W d _ _ i j hi hj hij
      omega
    · rw [if_neg h1] at hsk
      exact slice_of _ n c1 170 inf hif (by rw [hsk]; kernel_rfl) _ _ (by rw [hsk]; rfl) _ _ (HR.out _ _ fun w1 => swapN))
  have HSZ : Hid ((Go.Sort.insertionSort nlt l.toArray 0 n).toList.length = n) := by
    have := HS.out.len
    rw [← HN.out] at this
    exact Lib.hid this
  generalize Go.Sort.insertionSort nlt l.toArray 0 n = Z at *
  have hgw : ∀ j, some g = some j → w.heap.size ≤ j := fun j e => by rw [← Option.some.inj e]; exact hgb
  have hBg : w1.heap.size ≠ g := by omega
  have HX := Lib.hid hX
  have HBK := Lib.hid hback
  clear hX HR hsk hback ho hg hg2 hb1
  go_wp2_with fail
  refine (HSL.out).mono ?_
  rintro e w3 ⟨rfl, hs⟩
  have y0 := (hs.aside HX.out hBg).cell 0
  go_wp2_with fail
  go_ret
  have ho3 := HBK.out w3 Z.toList (HSZ.out.trans HN.out) hs.2
  refine ⟨Z.toList, HS.out, some ⟨g, 0, none⟩, c1, ?_, ho3, hb2.grown hs.1 hb2.size hgw⟩
  rw [HSZ.out]
  rfl
end Go.Proofs.YtiafimbehcemcaaDoor
