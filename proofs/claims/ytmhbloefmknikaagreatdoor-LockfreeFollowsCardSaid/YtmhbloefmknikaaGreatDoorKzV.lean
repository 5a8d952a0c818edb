/-
  members, Members and Bound of package locked. Conditions: the list can be read; it is valid, or nothing is returned.
-/
import Derived.Test.YtmhbloefmknikaaGreatDoorLzQ
import Derived.Shelf.SlSortCmp.Whole1
import Derived.Shelf.SlSortCmp.NoneTotal
import Derived.Shelf.Lay
import Derived.Ground.SlsfProg
import Derived.Laws.EntriesVeiled
import Derived.StillTailTactics
namespace Go.Proofs.YtmhbloefmknikaaGreatDoor
open Go.RowKit Go.Maps Go.Shelf Go.Lib Go.Sort
set_option maxRecDepth 100000
shelf_lay_g SlLaysF.n6 Slsf 6 at Tryz 108 as sortZ
theorem cmpI_lt (a b : Int) : decide (cmpI a b < 0) = decide (a < b) := by
  unfold cmpI
  by_cases h : a < b
  · simp [h]
  · by_cases h2 : b < a <;> simp [h, h2]
theorem swo_by {α : Type} (g : α → Int) : SWO (ltOf fun x y : α => cmpI (g x) (g y)) where
  irrefl x := by show decide (cmpI _ _ < 0) = false; rw [cmpI_lt]; simp
  trans x y z h1 h2 := by
    have e : ∀ a b : α, ltOf (fun x y : α => cmpI (g x) (g y)) a b = decide (g a < g b) := fun a b => cmpI_lt _ _
    rw [e] at *; simp at *; omega
  ntrans x y z h1 h2 := by
    have e : ∀ a b : α, ltOf (fun x y : α => cmpI (g x) (g y)) a b = decide (g a < g b) := fun a b => cmpI_lt _ _
    rw [e] at *; simp at *; omega
section
variable {α : Type} [Inhabited α]
theorem grownBy_sorted1 (enc : α → Value) {w : World} {g n : Nat} {os : Array Obj} (d : Array α) : w.grownBy (sortWorld enc w g 0 n d os) (some g) := by
  unfold sortWorld
  refine ⟨rfl, rfl, rfl, by simp, fun k hk hne => ?_⟩
  rw [heap_grow_old _ _ (by simpa using hk)]
  have : g ≠ k := fun e => hne (by rw [e])
  simp [putRow, mapBlock, Sort.ahead, Array.getElem?_modify, this]
theorem heap_sorted1 (enc : α → Value) {w : World} {g n : Nat} {os : Array Obj} {cur : Array Value} {e : TypeId} (d : Array α) (hb : w.heap[g]? = some (.cells cur e (0, 0))) :
    (sortWorld enc w g 0 n d os).heap[g]? = some (.cells (putCells enc 0 d cur) e (0, 0)) := by
  have hg : g < w.heap.size := (Array.getElem?_eq_some_iff.1 hb).1
  unfold sortWorld
  rw [heap_grow_old _ _ (by simpa using hg)]
  simp [putRow, mapBlock, Sort.ahead, Array.getElem?_modify, hb, onCells]
theorem take_put1 (enc : α → Value) (cur : Array Value) (d : Array α) (h : d.size ≤ cur.size) : (putCells enc 0 d cur).toList.take d.size = d.toList.map enc := by
  apply List.ext_getElem?
  intro j
  by_cases hj : j < d.size
  · rw [List.getElem?_take_of_lt hj, Array.getElem?_toList]
    simp [putCells, hj, show j < cur.size by omega]
  · rw [List.getElem?_take_eq_none (by omega), List.getElem?_eq_none (by simp; omega)]
theorem holds_row1 (enc : α → Value) {w : World} {g : Nat} {cur : Array Value} {e : TypeId} {d : Array α} (hb : w.heap[g]? = some (.cells cur e (0, 0))) (ht : cur.toList.take d.size = d.toList.map enc) : Holds enc w g 0 d := fun j hj => by
  refine ⟨?_, by simp [World.frozen?, hb]⟩
  have h1 : (cur.toList.take d.size)[j]? = (d.toList.map enc)[j]? := by rw [ht]
  rw [List.getElem?_take_of_lt hj, Array.getElem?_toList] at h1
  rw [Nat.zero_add, cell_of_row w g j cur e (0, 0) hb, h1]
  simp [hj]
/-- A row of the call's own, sorted. -/
def SortedP (enc : α → Value) (g : α → Int) (base : Nat) (t : TypeId) (l : List α) (v : Value) (w : World) (e : Ending) (w' : World) : Prop :=
  e = .returned (.tuple #[]) ∧ ∃ m : List α, m.Perm l ∧ m.Pairwise (fun x y => g x ≤ g y) ∧ w'.ownsRow base t 1 v l.length (m.map enc) ∧ w.grownBy w' v.ownBlock
end
/-- What the library's sort answers, for a row of the call's own. -/
theorem sorted_of {α : Type} [Inhabited α] (enc : α → Value) (g : α → Int) (base : Nat) (t : TypeId) (l : List α) (G cap : Nat) (cur : Array Value) (w : World) (hb : w.heap[G]? = some (.cells cur t (0, 0))) (hG : base ≤ G) (hc1 : l.length ≤ cap) (hc2 : cap ≤ maxLen) (hcs : cur.size = cap) (e : Ending) (w' : World)
    (h : e = .returned (.tuple #[]) ∧ ∃ d' n os, PermIn 0 l.toArray.size l.toArray d' ∧ SortedIn (ltOf fun x y : α => cmpI (g x) (g y)) 0 l.toArray.size d' ∧ w' = sortWorld enc w G 0 n d' os) : SortedP enc g base t l (.slice (some ⟨G, 0, none⟩) l.length cap) w e w' := by
  obtain ⟨he, d', n, os, hp, hs, rfl⟩ := h
  obtain ⟨p1, _, p3⟩ := hp
  have hsz : d'.size = l.length := by rw [p1]; simp
  have hperm : d'.toList.Perm l := by
    have e1 : d'.extract 0 l.toArray.size = d' := by rw [← p1]; simp
    have e2 : l.toArray.extract 0 l.toArray.size = l.toArray := by simp
    rw [e1, e2] at p3
    exact p3
  refine ⟨he, d'.toList, hperm, ?_, ⟨by simp [hsz], .inr ⟨G, cap, _, rfl, hG, heap_sorted1 enc d' hb, hc1, hc2, by simp [putCells, hcs], ?_⟩⟩, grownBy_sorted1 enc d'⟩
  · rw [List.pairwise_iff_getElem]
    intro i j hi hj hij
    have hj' : j < d'.size := by simpa using hj
    have h3 := hs i j (Nat.zero_le _) hij (by simpa [hsz] using hj)
    have e : ∀ a b : α, ltOf (fun x y : α => cmpI (g x) (g y)) a b = decide (g a < g b) := fun a b => cmpI_lt _ _
    rw [e] at h3
    have e1 : d'[j]! = d'[j] := by simp [hj']
    have e2 : d'[i]! = d'[i]'(by omega) := by simp [show i < d'.size by omega]
    rw [e1, e2] at h3
    simp at h3
    simp
    omega
  · have := take_put1 enc cur d' (by rw [hsz, hcs]; exact hc1)
    rw [hsz] at this
    simpa using this
namespace Lk
/-- A value, and what memory was made. -/
def QuietG (v : Value) (w : World) (e : Ending) (w' : World) : Prop := e = .returned v ∧ ∃ q os, w' = grow (w.drewN q) os
set_option maxRecDepth 100000 in
set_option maxHeartbeats 1600000 in
theorem compare_g (A : Option Addr) (l : Ls) (c a b : Nat) (lo : Nat) (w : World) (hl : Ces w lo A l.cs) (ha : a < l.cs.length) (hb : b < l.cs.length) :
    Calls Tryz.prog 110 #[.slice A l.cs.length c, .int .i64 (a : Int), .int .i64 (b : Int)] w (QuietG (.int .i64 (cmpC l a b)) w) := by
  obtain ⟨b1, o1, e1, h1, h2, f1, -⟩ := hl.at_ ha
  obtain ⟨b2, o2, e2, -, -, g1, -⟩ := hl.at_ hb
  subst e1
  injection e2 with e2
  injection e2 with e3 e4
  subst e3 e4
  rw [l.at_lt ha] at f1
  rw [l.at_lt hb] at g1
  unfold cmpC
  generalize (l.at_ a).key = ka at *
  generalize (l.at_ b).key = kb at *
  have a0 : (0 : Int) ≤ (a : Int) := by omega
  have a1 : (a : Int) < (l.cs.length : Int) := by omega
  have b0 : (0 : Int) ≤ (b : Int) := by omega
  have b3 : (b : Int) < (l.cs.length : Int) := by omega
  obtain ⟨N, hN⟩ : ∃ N, N = l.cs.length := ⟨_, rfl⟩
  rw [← hN] at a1 b3 ⊢
  clear hl ha hb hN
  go_enter Tryz.func110, Tryz.ntmps110
  go_wp2_with fail
  refine wp_region_still_tail 16 (by kernel_rfl) (by kernel_rfl) ?_
  simp only [List.take_succ_cons, List.take_zero, List.drop_succ_cons, List.drop_zero]
  change wpStill _ _ w.drew (fun a' => wpList _ _ _ _ a' w.drew) _ _
  replace f1 : w.drew.cell? ⟨b1, o1 + a * 5, none⟩ = _ := f1
  replace g1 : w.drew.cell? ⟨b1, o1 + b * 5, none⟩ = _ := g1
  have HD : Hid (w.drew = w.drewN 1) := Lib.hid rfl
  generalize w.drew = w9 at *
  repeat still_step
  still_call ((side_any a w9).mono fun _ _ h => ⟨h.1, h.2.symm⟩)
  repeat still_step
  still_call ((side_any b w9).mono fun _ _ h => ⟨h.1, h.2.symm⟩)
  repeat still_step
  still_call ((cmp_int _ _ w9).mono fun _ _ h => ⟨h.1, h.2.symm⟩)
  repeat still_step
  still_call ((cmp_string ka kb w9).mono fun _ _ h => ⟨h.1, h.2.symm⟩)
  repeat still_step
  refine wpStill_nil ?_
  generalize cmpI (sidV a) (sidV b) = X at *
  generalize cmpT ka kb = Y at *
  have hN := blk_cells (blk_new w9 3 #[.int .i64 X, .int .i64 Y])
  have HO := Lib.hid (or2_any w9.heap.size 2 X Y _ (hN.1 0) (hN.1 1))
  clear f1 g1 hN
  go_wp2_with fail
  refine (HO.out).mono ?_
  rintro e w10 ⟨rfl, rfl⟩
  go_wp2_with fail
  go_ret
  exact ⟨rfl, 1, _, by rw [alloc_eq_grow, HD.out]⟩
/-- What a call that returns numbers leaves. -/
def NumP (ns : List Int) (w : World) (e : Ending) (w' : World) : Prop := ∃ A k c, e = .returned (.slice A k c) ∧ ns.length = k ∧ k ≤ c ∧ OwnR nrow 1 3 w' w.heap.size (.slice A k c) ns ∧ RdR nrow 1 w' w.heap.size A ns ∧ Below w.heap.size w w'
theorem nrow_map (l : List Int) : l.flatMap nrow = l.map (Value.int .i64) := by
  induction l with
  | nil => rfl
  | cons x l ih => rw [List.flatMap_cons, ih]; rfl
theorem members1_any (B : Nat) (A1 A2 : Option Addr) (l : Ls) (n m c1 c2 a b lo : Nat) (w : World) (hn : l.cs.length = n) (hx : Has w B 28 #[.slice A1 n c1, .slice A2 m c2]) (h : Ces w lo A1 l.cs) (ha : a < n) (hb : b < n) :
    Calls Tryz.prog 109 #[.int .i64 (a : Int), .int .i64 (b : Int), .pointer (some ⟨B, 0, none⟩)] w (QuietG (.int .i64 (cmpC l a b)) w) := by
  subst hn
  have x0 := hx.cell 0
  have HC := Lib.hid (compare_g A1 l c1 a b lo w h ha hb)
  clear h ha hb hx
  generalize l.cs.length = n at *
  go_enter Tryz.func109, Tryz.ntmps109
  go_wp2_with fail
  refine (HC.out).mono ?_
  rintro e w5 ⟨rfl, q, os, rfl⟩
  clear x0
  go_wp2_with fail
  go_ret
  exact ⟨rfl, q, os, rfl⟩
/-- The sort that members calls. -/
theorem sort_mem (B : Nat) (A1 A2 : Option Addr) (l : Ls) (n m c1 c2 lo : Nat) (w0 w : World) (hn : l.cs.length = n) (hx : Has w0 B 28 #[.slice A1 n c1, .slice A2 m c2]) (h : Ces w0 lo A1 l.cs) (v : Vld l) (hb : Below w0.heap.size w0 w) (u : Value) (xs : List Nat) (hlen : xs.length ≤ 100) (hxs : ∀ i ∈ xs, i < n) (ho : OwnR nrow 1 3 w w0.heap.size u (nat2 xs)) :
    Calls Tryz.prog 108 #[u, .func (.func 109) #[] #[.pointer (some ⟨B, 0, none⟩)]] w fun e w' => e = .returned (.tuple #[]) ∧ ∃ ys : List Nat, ys.Perm xs ∧ ys.Pairwise (fun x y => rnk l x ≤ rnk l y) ∧ OwnR nrow 1 3 w' w0.heap.size u (nat2 ys) ∧ Below w0.heap.size w0 w' := by
  by_cases h0 : xs = []
  · subst h0
    obtain ⟨A, c, e⟩ := ho.shape
    have e' : u = .slice A 0 c := e
    subst e'
    have hh := AnyF.slices_SortFunc_none { sortZ with } A c (.func (.func 109) #[] #[.pointer (some ⟨B, 0, none⟩)]) w
    change Calls Tryz.prog 108 _ _ _ at hh
    exact hh.mono fun e w' ⟨he, hw⟩ => ⟨he, [], List.Perm.refl _, List.Pairwise.nil, by subst hw; exact ho, by subst hw; exact hb⟩
  · obtain ⟨G, cap, hu, hG, hM⟩ := ho.mut (fun _ => rfl) (by intro e; exact h0 (List.map_eq_nil_iff.1 e))
    rw [nat2_len] at hu
    subst hu
    obtain ⟨i0, hi0⟩ := List.exists_mem_of_ne_nil xs h0
    haveI : Inhabited {i : Nat // i < n} := ⟨⟨i0, hxs i0 hi0⟩⟩
    obtain ⟨d, hd⟩ : ∃ d : List {i : Nat // i < n}, d.map Subtype.val = xs := ⟨xs.pmap Subtype.mk hxs, by rw [List.map_pmap]; simp⟩
    have hdl : d.length = xs.length := by rw [← hd, List.length_map]
    have hd2 : d.map (fun x => Value.int .i64 (x.1 : Int)) = (nat2 xs).map (Value.int .i64) := by
      rw [← hd]
      unfold nat2
      rw [List.map_map, List.map_map]
      rfl
    obtain ⟨hc1, hc2, cur, hblk, hcs, -⟩ := hM
    obtain ⟨_, ⟨e, _⟩ | ⟨G', cap', cur', e, hG', hblk', hc1', hc2', hcs', htk⟩⟩ := ho
    · cases e
    injection e with e1 e2 e3
    injection e1 with e1
    injection e1 with e1
    subst e1 e3
    have hcc : cur' = cur := by
      have h1 : w.heap[G]? = some (.cells cur 3 (0, 0)) := hblk
      have h2 : w.heap[G]? = some (.cells cur' 3 (0, 0)) := hblk'
      rw [h1] at h2
      injection h2 with h2
      injection h2 with h2
      exact h2.symm
    subst hcc
    rw [nrow_map, nat2_len] at htk
    rw [nat2_len] at hc1
    have eg : ∀ args w, (callFunc 109 args).run Tryz.prog w = .ok (.enter 109 args) w := enters_of Tryz.func109 (by kernel_rfl) rfl
    have hGw : G < w.heap.size := (Array.getElem?_eq_some_iff.1 hblk).1
    have hcmp : CmpLays1 Tryz.prog 109 #[.pointer (some ⟨B, 0, none⟩)] (fun x : {i : Nat // i < n} => Value.int .i64 (x.1 : Int)) (fun x y => cmpI (rnk l x.1 : Int) (rnk l y.1 : Int)) G 0 d.toArray.size w := fun mm os dk _ x y => by
      have hg := grownBy_sorted1 (fun x : {i : Nat // i < n} => Value.int .i64 (x.1 : Int)) (w := w) (g := G) (n := mm) (os := os) dk
      have hB2 : Below w0.heap.size w0 (sortWorld (fun x : {i : Nat // i < n} => Value.int .i64 (x.1 : Int)) w G 0 mm dk os) := hb.trans (grown_below hg hb.size (fun j e => by have := Option.some.inj e; omega))
      have := members1_any B A1 A2 l n m c1 c2 x.1 y.1 lo _ hn (hx.below hB2) (RdR.below h hB2) x.2 y.2
      rw [cmpC_rnk v (by rw [hn]; exact x.2) (by rw [hn]; exact y.2)] at this
      exact this
    have ht' : cur'.toList.take d.toArray.size = d.toArray.toList.map (fun x => Value.int .i64 (x.1 : Int)) := by
      rw [Nat.mul_one] at htk
      rw [List.size_toArray, hdl, htk, ← hd2]
    have hcon := Any.slices_SortFunc sortZ (fun x : {i : Nat // i < n} => Value.int .i64 (x.1 : Int)) (fun _ => rfl) (fun x y => cmpI (rnk l x.1 : Int) (rnk l y.1 : Int)) (swo_by fun x : {i : Nat // i < n} => (rnk l x.1 : Int)) 109 #[.pointer (some ⟨B, 0, none⟩)] G 0 cap d.toArray w eg hcmp (holds_row1 _ hblk ht') hGw (by simp; omega)
    change Calls Tryz.prog 108 _ _ _ at hcon
    rw [List.size_toArray, hdl] at hcon
    refine hcon.mono fun e w' hh => ?_
    rw [← hdl] at hh
    have hs := sorted_of (fun x : {i : Nat // i < n} => Value.int .i64 (x.1 : Int)) (fun x => (rnk l x.1 : Int)) w0.heap.size 3 d G cap cur' w hblk hG (by omega) hc2 (by omega) e w' (by rw [List.size_toArray]; exact hh)
    obtain ⟨he, ym, hp, hm2, hrow, hgr⟩ := hs
    have hml : (ym.map Subtype.val).length = xs.length := by rw [List.length_map, hp.length_eq, hdl]
    refine ⟨he, ym.map Subtype.val, by rw [← hd]; exact hp.map _, ?_, ?_, ?_⟩
    · rw [List.pairwise_map]
      exact hm2.imp fun {a b} q => (by exact Int.ofNat_le.1 q)
    · unfold OwnR
      rw [nat2_len, hml, nrow_map, ← hdl]
      have e4 : (nat2 (ym.map Subtype.val)).map (Value.int .i64) = ym.map (fun x => Value.int .i64 (x.1 : Int)) := by
        unfold nat2
        rw [List.map_map, List.map_map]
        rfl
      rw [e4]
      exact hrow
    · exact hb.trans (grown_below hgr hb.size (fun j e => by have e' : G = j := Option.some.inj e; omega))
/-- The cells that are not gone, the first k. -/
def memT (l : Ls) (k : Nat) : List Nat := (List.range k).filter (fun i => decide (2 ≤ i) && !(l.at_ i).gone)
theorem memT_lo (l : Ls) {k : Nat} (h : k ≤ 2) : memT l k = [] := by
  unfold memT
  rw [List.filter_eq_nil_iff]
  intro i hi
  rw [List.mem_range] at hi
  simp; omega
theorem memT_next (l : Ls) {k : Nat} (h : 2 ≤ k) : memT l (k + 1) = if (l.at_ k).gone then memT l k else memT l k ++ [k] := by
  unfold memT
  rw [List.range_succ, List.filter_append]
  cases hg : (l.at_ k).gone <;> simp [h, hg]
theorem memT_len (l : Ls) (k : Nat) : (memT l k).length ≤ k := by
  unfold memT
  have := List.length_filter_le (fun i => decide (2 ≤ i) && !(l.at_ i).gone) (List.range k)
  rwa [List.length_range] at this
theorem memT_lt (l : Ls) {k i : Nat} (h : i ∈ memT l k) : i < k := by
  unfold memT at h
  exact List.mem_range.1 (List.mem_filter.1 h).1
theorem mem_sorted {l : Ls} (v : Vld l) {ys : List Nat} (hp : ys.Perm (memT l l.cs.length)) (hs : ys.Pairwise (fun x y => rnk l x ≤ rnk l y)) : ys = memV l := by
  have o := rnk_odr v
  have hlt : ∀ i ∈ ys, i < l.cs.length := fun i hi => memT_lt l (hp.mem_iff.1 hi)
  refine List.Perm.eq_of_pairwise (le := fun x y => rnk l x ≤ rnk l y) (fun a b ha hb h1 h2 => ?_) hs ((memI_asc v _).imp fun h => Nat.le_of_lt h) (hp.trans (List.mergeSort_perm _ _).symm)
  exact o.inj a b (hlt a ha) ((mem_memV b).1 hb).1 (Nat.le_antisymm h1 h2)
set_option maxHeartbeats 3200000 in
theorem members_any (A1 A2 : Option Addr) (l : Ls) (n m c1 c2 : Nat) (w : World) (hn : l.cs.length = n) (_hm : l.ps.length = m) (h : RdL w 0 A1 A2 l) (v : Vld l) :
    Calls Tryz.prog 59 #[.agg #[.slice A1 n c1, .slice A2 m c2]] w (NumP (nat2 (memV l)) w) := by
  have hb := (Below.refl w.heap.size w).alloc (Nat.le_refl _) (.cells #[.slice A1 n c1, .slice A2 m c2] 28)
  have HB := Lib.hid hb
  have HX := Lib.hid (Has.new w 28 #[.slice A1 n c1, .slice A2 m c2])
  have HL := Lib.hid (h.below hb)
  have HN := Lib.hid hn
  have HV := Lib.hid v
  have n2 : 2 ≤ n := by rw [← hn]; exact v.n2
  have n66 : n ≤ 66 := by rw [← hn]; exact v.n66
  clear hb h hn v
  go_enter Tryz.func59, Tryz.ntmps59
  go_upto_region 1 with fail
  have hW : (w.alloc (.cells #[.slice A1 n c1, .slice A2 m c2] 28)).heap.size = w.heap.size + 1 := World.size_alloc _ _
  generalize w.alloc (.cells #[.slice A1 n c1, .slice A2 m c2] 28) = W at *
  obtain ⟨B, hB⟩ : ∃ B, B = w.heap.size := ⟨_, rfl⟩
  have HBB := Lib.hid hB
  rw [← hB] at HB HX hW ⊢
  clear hB
  go_wp2_with fail
  go_loopw [3, 4] (fun vo vi wr => ∃ (i : Nat) (v1 : Value), vi = .int .i64 (i : Int) ∧ v1 = vo ∧ 2 ≤ i ∧ i ≤ n ∧ OwnR nrow 1 3 wr W.heap.size v1 (nat2 (memT l i)) ∧ Below W.heap.size W wr) (fun _ vi _ => n - (intOf vi).toNat)
  case atStart => exact ⟨2, _, rfl, rfl, by omega, n2, by rw [memT_lo l (Nat.le_refl _)]; exact OwnR.nil, Below.refl _ _⟩
  case round =>
    obtain ⟨i, v1, rfl, rfl, hi2, hi, hO, hB⟩ := hrel
    have HBW := Lib.hid hB
    have HXW := Lib.hid (HX.out.below hB)
    have hsz := hB.size
    have x0 := HXW.out.cell 0
    obtain ⟨A3, n3, q3, hv3⟩ := own_sh hO
    subst hv3
    have HO := Lib.hid hO
    clear hO
    by_cases hlt : i < n
    · have i2 : i < l.cs.length := by rw [HN.out]; exact hlt
      obtain ⟨b, o, e, -, hb, -, -, -, -, f4⟩ := HL.out.cell i2
      subst e
      replace f4 := (hB.cell (p := ⟨b, o + i * 5 + 4, none⟩) hb).trans f4
      have i0 : (0 : Int) ≤ (i : Int) := by omega
      have i1 : (i : Int) < (n : Int) := by omega
      have HNX := Lib.hid (memT_next l hi2)
      have HLN := Lib.hid (memT_len l i)
      clear hB hb i2
      cases hg : (l.at_ i).gone with
      | true =>
        rw [hg] at f4 HNX
        clear hg
        go_wp2_with fail
        exact ⟨⟨i + 1, _, by go_num, rfl, by omega, hlt, by rw [HNX.out]; exact HO.out, HBW.out⟩, by simp [intOf]; omega⟩
      | false =>
        rw [hg] at f4 HNX
        clear hg
        go_wp2_with (at_builtin; refine wpList_pushR RowT.nu rfl (.tmp 19) (.tmp 21) rfl W.heap.size (.slice A3 n3 q3) (nat2 (memT l i)) wr (i : Int) _ rfl (by simp [Act.eval]) HO.out (by simp [Act.eval]) (by have := HLN.out; rw [nat2_len]; omega) hsz ?_; intro v5 w5 ho5 hg5 hat5; obtain ⟨A5, n5, q5, hv5⟩ := own_sh ho5; subst hv5; have HO5 := Lib.hid ho5; have HG5 := Lib.hid (HBW.out.trans (grown_below hg5 hsz (fun j e => (HO.out.lt j e).1))); clear ho5 hg5 hat5)
        refine ⟨⟨i + 1, _, by go_num, rfl, by omega, hlt, ?_, HG5.out⟩, by simp [intOf]; omega⟩
        rw [HNX.out, if_neg Bool.false_ne_true]
        have := HO5.out
        rwa [show nat2 (memT l i) ++ [(i : Int)] = nat2 (memT l i ++ [i]) by simp [nat2]] at this
    · obtain rfl : i = n := by omega
      have HS := Lib.hid (sort_mem B A1 A2 l i m c1 c2 0 W wr HN.out HX.out HL.out.cs HV.out HBW.out (.slice A3 n3 q3) (memT l i) (by have := memT_len l i; omega) (fun j hj => memT_lt l hj) HO.out)
      clear hB
      go_wp2_with fail
      refine (HS.out).mono ?_
      rintro e w5 ⟨rfl, ys, hp, hpw, ho, hb5⟩
      have HE : Hid (ys = memV l) := Lib.hid (mem_sorted HV.out (by rw [HN.out]; exact hp) hpw)
      rw [HE.out] at ho
      have HO5 := Lib.hid ho
      have HB5 := Lib.hid hb5
      clear ho hb5 hp hpw x0
      go_wp2_with fail
      go_ret
      obtain ⟨A, c, e, q1, q2, q3⟩ := HO5.out.read (fun _ => rfl)
      injection e with e1 e2 e3
      subst e1 e3
      refine ⟨A3, n3, _, rfl, e2.symm, by omega, (HO5.out).low (by rw [← HBB.out]; omega), q3.low (by rw [← HBB.out]; omega), ?_⟩
      rw [← HBB.out]
      exact HB.out.trans (HB5.out.mono (by omega))
end Lk
end Go.Proofs.YtmhbloefmknikaaGreatDoor
