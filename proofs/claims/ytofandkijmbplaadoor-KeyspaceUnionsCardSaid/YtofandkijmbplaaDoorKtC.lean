/-
  slices.SortFunc as Union of package keyspace calls it: a row of the call's own is sorted by the lower bounds; else nothing that was there turns. Condition: at most 1000 ranges.
-/
import Derived.Test.YtofandkijmbplaaDoorKtB
import Derived.Test.YtofandkijmbplaaDoorKsU
import Derived.Shelf.SlSortCmp.WholeK
import Derived.Shelf.SlSortCmp.NoneTotal
import Derived.Shelf.Lay
import Derived.Ground.SlsfProg
namespace Go.Proofs.YtofandkijmbplaaDoor
open Go.RowKit Go.Shelf Go.Lib Go.Sort
set_option maxRecDepth 100000

shelf_lay_g SlLaysF0.n6 Slsf 6 at Tryd 55 as sortRg

instance : Inhabited Rg := ⟨⟨⟨ByteArray.empty, false⟩, ⟨ByteArray.empty, false⟩⟩⟩
def encRg (x : Rg) : List Value := [.string x.lo.key, .bool x.lo.top, .string x.hi.key, .bool x.hi.top]

theorem cmp_grow (a b : Bd) (w : World) :
    Calls Tryd.prog 31 #[a.val, b.val] w fun e w' => e = .returned (.int .i64 (a.cmp b)) ∧ (w.alloc (.cells #[.string a.key, .bool a.top] 28)).alloc (.cells #[.string b.key, .bool b.top] 28) = w' := by
  obtain ⟨ak, at'⟩ := a
  obtain ⟨bk, bt⟩ := b
  cases at' <;> cases bt
  all_goals
    go_enter Tryd.func31, Tryd.ntmps31
    go_wp2
  all_goals
    go_ret
    refine ⟨ret_int ?_, rfl⟩
    first | rfl | exact (cmp_lt ‹_›).symm | exact (cmp_gt ‹_› ‹_›).symm | exact (cmp_eq ‹_› ‹_›).symm | exact (cmp_gt2 ‹_›).symm | exact (cmp_eq2 ‹_› ‹_›).symm

theorem by_lo (x y : Rg) (W : World) : Calls Tryd.prog 56 #[.agg (encRg x).toArray, .agg (encRg y).toArray] W fun e w' => e = .returned (.int .i64 (x.lo.cmp y.lo)) ∧ ∃ q os', w' = grow (W.drewN q) os' := by
  obtain ⟨⟨xk, xt⟩, ⟨yk, yt⟩⟩ := x
  obtain ⟨⟨uk, ut⟩, ⟨vk', vt⟩⟩ := y
  show Calls Tryd.prog 56 #[.agg #[.string xk, .bool xt, .string yk, .bool yt], .agg #[.string uk, .bool ut, .string vk', .bool vt]] W _
  go_enter Tryd.func56, Tryd.ntmps56
  go_wp2_with (go_at_call 31; refine (cmp_grow ⟨_, _⟩ ⟨_, _⟩ _).mono ?_; rintro e w' ⟨rfl, rfl⟩)
  go_ret
  exact ⟨rfl, 0, _, by rw [alloc_eq_grow, alloc_eq_grow, alloc_eq_grow, alloc_eq_grow, grow_grow, grow_grow, grow_grow]; rfl⟩

theorem ltOf_lo (x y : Rg) : ltOf (fun x y : Rg => x.lo.cmp y.lo) x y = decide (x.lo.cmp y.lo < 0) := rfl
theorem swo_lo : SWO (ltOf fun x y : Rg => x.lo.cmp y.lo) where
  irrefl x := by rw [ltOf_lo, cmp_self]; rfl
  trans x y z h1 h2 := by rw [ltOf_lo] at *; simp at *; exact cmp_trans h1 h2
  ntrans x y z h1 h2 := by
    rw [ltOf_lo] at *
    simp at *
    have h3 := cmp_swap x.lo y.lo
    have h4 := cmp_swap y.lo z.lo
    have h5 := cmp_swap x.lo z.lo
    have := cmp_le_trans (a := z.lo) (b := y.lo) (c := x.lo) (by omega) (by omega)
    omega

theorem flat_size (l : List Rg) : flatK encRg 4 l.toArray = (flat l).toArray := by
  refine ext_get! (by simp [flat_len]) fun t ht => ?_
  have ht' : t < l.length * 4 := by simpa using ht
  rw [get_flatK _ _ _ _ (by simpa using ht')]
  have h1 : t / 4 < l.length := by omega
  have h2 := flat_at l (t / 4) h1 (t % 4) (by omega)
  rw [show t / 4 * 4 + t % 4 = t by omega] at h2
  have e1 : (l.toArray)[t / 4]! = l[t / 4] := by simp [h1]
  rw [e1]
  have e3 : t < (flat l).length := by rw [flat_len]; exact ht'
  rw [List.getElem?_eq_getElem e3] at h2
  have e4 : (flat l).toArray[t]! = (flat l)[t] := by simp [e3]
  rw [e4]
  have h5 : (encRg l[t / 4])[t % 4]? = some (flat l)[t] := h2.symm
  rw [List.getElem!_eq_getElem?_getD, h5]; rfl
theorem holds_row {w : World} {g : Nat} {cur : Array Value} {e : TypeId} {l : List Rg} (hb : w.heap[g]? = some (.cells cur e (0, 0))) (ht : cur.toList.take (l.length * 4) = flat l) : HoldsK encRg 4 w g 0 l.toArray := by
  unfold HoldsK
  rw [flat_size]
  intro j hj
  have hj' : j < l.length * 4 := by simpa [flat_len] using hj
  refine ⟨?_, by simp [World.frozen?, hb]⟩
  have h1 : (cur.toList.take (l.length * 4))[j]? = (flat l)[j]? := by rw [ht]
  rw [List.getElem?_take_of_lt hj', Array.getElem?_toList] at h1
  rw [Nat.zero_add, cell_of_row w g j cur e (0, 0) hb, h1]
  have e3 : j < (flat l).length := by rw [flat_len]; exact hj'
  simp [e3]
theorem heap_sortedK {w : World} {g n : Nat} {os : Array Obj} {cur : Array Value} {e : TypeId} (d : Array Rg) (hb : w.heap[g]? = some (.cells cur e (0, 0))) :
    (sortWorldK encRg 4 w g 0 n d os).heap[g]? = some (.cells (putCells id 0 (flatK encRg 4 d) cur) e (0, 0)) := by
  have hg : g < w.heap.size := (Array.getElem?_eq_some_iff.1 hb).1
  unfold sortWorldK
  rw [heap_grow_old _ _ (by simpa [putRowK] using hg)]
  simp [putRowK, putRow, mapBlock, Sort.ahead, Array.getElem?_modify, hb, onCells]
theorem grownBy_sortedK {w : World} {g n : Nat} {os : Array Obj} (d : Array Rg) : w.grownBy (sortWorldK encRg 4 w g 0 n d os) (some g) := by
  unfold sortWorldK
  refine ⟨rfl, rfl, rfl, by simp [putRowK], fun k hk hne => ?_⟩
  rw [heap_grow_old _ _ (by simpa [putRowK] using hk)]
  have : g ≠ k := fun e => hne (by rw [e])
  simp [putRowK, putRow, mapBlock, Sort.ahead, Array.getElem?_modify, this]
theorem take_put (cur : Array Value) (F : Array Value) (h : F.size ≤ cur.size) : (putCells id 0 F cur).toList.take F.size = F.toList := by
  apply List.ext_getElem?
  intro j
  by_cases hj : j < F.size
  · rw [List.getElem?_take_of_lt hj, Array.getElem?_toList]
    simp [putCells, hj, show j < cur.size by omega]
  · rw [List.getElem?_take_eq_none (by omega), List.getElem?_eq_none (by simp; omega)]

/-- What the sort gives: the same slice owns a permutation of l, ascending by the lower bounds. -/
def SortP (l : List Rg) (v : Value) (base : Nat) (w : World) (e : Ending) (w' : World) : Prop :=
  e = .returned (.tuple #[]) ∧ ∃ m : List Rg, m.Perm l ∧ (∀ i j (hi : i < j) (hj : j < m.length), (m[i]'(by omega)).lo.cmp m[j].lo ≤ 0) ∧ w'.ownsRow base 30 4 v l.length (flat m) ∧ w.grownBy w' v.ownBlock

set_option maxHeartbeats 1600000 in
theorem sort_rg (l : List Rg) (v : Value) (base : Nat) (w : World) (ho : w.ownsRow base 30 4 v l.length (flat l)) (hn : l.length ≤ 1000) :
    Calls Tryd.prog 55 #[v, .func (.func 56) #[] #[]] w (SortP l v base w) := by
  have ho' := ho
  obtain ⟨h1, ⟨rfl, h2⟩ | ⟨g, cap, cur, rfl, h4, h5, h6, h7, h8, h9⟩⟩ := ho
  · have hcon := AnyF.slices_SortFunc_none sortRg none 0 (.func (.func 56) #[] #[]) w
    change Calls Tryd.prog 55 _ _ _ at hcon
    refine hcon.mono fun e w' ⟨he, hw⟩ => ?_
    subst hw
    have hl : l = [] := List.eq_nil_of_length_eq_zero h2
    subst hl
    exact ⟨he, [], List.Perm.nil, (fun _ _ _ h => by cases h), ho', grownBy_refl _ _⟩
  · have eg : ∀ args w, (callFunc 56 args).run Tryd.prog w = .ok (.enter 56 args) w := enters_of Tryd.func56 (by kernel_rfl) rfl
    have hcmp : CmpLays Tryd.prog 56 #[] encRg 4 (fun x y => x.lo.cmp y.lo) g 0 l.toArray.size w := fun _ _ _ _ x y => by_lo x y _
    have hcon := AnyQ.slices_SortFunc sortRg 4 Tryd.isAgg30 Tryd.sizeOf30 encRg (fun _ => rfl) (fun x v hv => by simp [encRg] at hv; rcases hv with rfl | rfl | rfl | rfl <;> rfl) (fun x y => x.lo.cmp y.lo) swo_lo 56 #[] g 0 cap l.toArray w eg hcmp (holds_row h5 h9) (Has.lt h5) (by simp; omega)
    change Calls Tryd.prog 55 _ _ _ at hcon
    rw [List.size_toArray] at hcon
    refine hcon.mono fun e w' ⟨he, d', n, os, hp, hs, hw⟩ => ?_
    subst hw
    obtain ⟨p1, _, p3⟩ := hp
    have hsz : d'.size = l.length := by rw [p1]; simp
    have hperm : d'.toList.Perm l := by
      have e1 : d'.extract 0 l.length = d' := by rw [← hsz]; simp
      have e2 : l.toArray.extract 0 l.length = l.toArray := by simp
      rw [e1, e2] at p3
      exact p3
    have hd : d'.toList.toArray = d' := by simp
    refine ⟨he, d'.toList, hperm, fun i j hi hj => ?_, ⟨by rw [flat_len]; simp [hsz], .inr ⟨g, cap, _, rfl, h4, heap_sortedK d' h5, h6, h7, by simp [putCells, h8], ?_⟩⟩, grownBy_sortedK d'⟩
    · have hj' : j < d'.size := by simpa using hj
      have := hs i j (Nat.zero_le _) hi (by omega)
      rw [ltOf_lo] at this
      simp at this
      have e1 : d'[j]! = d'[j] := by simp [hj']
      have e2 : d'[i]! = d'[i] := by simp [show i < d'.size by omega]
      rw [e1, e2] at this
      have h10 := cmp_swap d'[i].lo d'[j].lo
      simp
      omega
    · have e1 : flatK encRg 4 d' = (flat d'.toList).toArray := by rw [← flat_size, hd]
      have e2 : (flat d'.toList).toArray.size = l.length * 4 := by simp [flat_len, hsz]
      rw [e1, ← e2]
      have := take_put cur (flat d'.toList).toArray (by rw [e2, h8]; omega)
      simpa using this
end Go.Proofs.YtofandkijmbplaaDoor
