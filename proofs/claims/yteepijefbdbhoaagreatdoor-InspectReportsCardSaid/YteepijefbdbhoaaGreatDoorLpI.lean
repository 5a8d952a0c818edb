/-
  slices.SortFunc as package inspect calls it: numbers by their places, sets by the places of their first numbers. Conditions: the rows are the call's own; the places lie in a map.
  Plain facts and rows for the components of package inspect. No condition.
  components, Components and Connected of package inspect. Conditions: the nodes and links can be read; numbers are of 64 bits.
  Components and Connected of package inspect. Conditions: the nodes and links can be read; numbers are of 64 bits.
-/
import Derived.Test.YteepijefbdbhoaaGreatDoorLpF
import Derived.Shelf.SlSortCmp.Whole1
import Derived.Shelf.Lay
import Derived.Ground.SlsfProg
import Derived.Laws.EntriesVeiled
import Derived.Test.YteepijefbdbhoaaGreatDoorLpC
import Derived.Shelf.SlSortCmp.NoneTotal
namespace Go.Proofs.YteepijefbdbhoaaGreatDoor
section
open Go.RowKit Go.Shelf Go.Lib Go.Sort

set_option maxRecDepth 100000
shelf_lay_g SlLaysF.n6 Slsf 6 at Tryz 80 as sortZ
shelf_lay_g SlLaysF.n6 Slsf 6 at Tryz 81 as sortS

/-- The places of numbers lie in the map of block bm, to which the cell of block pb points. -/
structure PlcM (w : World) (pb bm nm : Nat) (f : Int → Option Value) (pf : Int → Int) : Prop where
  cell : w.cell? ⟨pb, 0, none⟩ = some (.map (some bm))
  map_ : VMap w bm nm (.int .i64 0) f
  val : ∀ i : Int, -9223372036854775808 ≤ i → i ≤ 9223372036854775807 → (f i).getD (.int .i64 0) = .int .i64 (pf i)
  ne : pb ≠ bm
theorem PlcM.grown {w w' : World} {pb bm nm : Nat} {f : Int → Option Value} {pf : Int → Int} {row : Option Nat} (h : PlcM w pb bm nm f pf) (hg : w.grownBy w' row) (h1 : some pb ≠ row) (h2 : some bm ≠ row) : PlcM w' pb bm nm f pf :=
  ⟨(World.cell?_of_block (a := ⟨pb, 0, none⟩) (hg.block pb (World.block_lt_of_cell? w _ h.cell) h1)).trans h.cell, h.map_.kept hg h2, h.val, h.ne⟩
theorem PlcM.below {w w' : World} {pb bm nm : Nat} {f : Int → Option Value} {pf : Int → Int} (h : PlcM w pb bm nm f pf) (k : Below w.heap.size w w') : PlcM w' pb bm nm f pf := h.grown (row := none) ⟨k.os, k.tape, k.output, k.size, fun i hi _ => k.block i hi⟩ (by simp) (by simp)
theorem places_any (pb bm nm : Nat) (f : Int → Option Value) (pf : Int → Int) (x y : Int) (w : World) (h : PlcM w pb bm nm f pf) (hx : -9223372036854775808 ≤ x ∧ x ≤ 9223372036854775807) (hy : -9223372036854775808 ≤ y ∧ y ≤ 9223372036854775807) :
    Calls Tryz.prog 79 #[.int .i64 x, .int .i64 y, .pointer (some ⟨pb, 0, none⟩)] w fun e w' => e = .returned (.int .i64 (cmpI (pf x) (pf y))) ∧ w = w' := by
  have hc := h.cell
  have h1 := h.map_.look Tryz.underlying56 (zeroInt w) hx.1 hx.2
  have h2 := h.map_.look Tryz.underlying56 (zeroInt w) hy.1 hy.2
  rw [h.val x hx.1 hx.2] at h1
  rw [h.val y hy.1 hy.2] at h2
  clear h
  generalize pf x = a at *
  generalize pf y = b at *
  go_enter Tryz.func79, Tryz.ntmps79
  go_wp2_with fail
  refine (cmp_int a b _).mono ?_
  rintro e w' ⟨rfl, rfl⟩
  go_wp2_with fail
  go_ret
  exact ⟨rfl, rfl⟩
theorem cmpI_lt (a b : Int) : decide (cmpI a b < 0) = decide (a < b) := by
  unfold cmpI
  by_cases h : a < b
  · simp [h]
  · by_cases h2 : b < a <;> simp [h, h2]
theorem swo_by {α : Type} (g : α → Int) : SWO (ltOf fun x y : α => cmpI (g x) (g y)) where
  irrefl x := by show decide (cmpI _ _ < 0) = false; rw [cmpI_lt]; simp
  trans x y z h1 h2 := by
    have e : ∀ a b : α, ltOf (fun x y : α => cmpI (g x) (g y)) a b = decide (g a < g b) := fun a b => cmpI_lt _ _
    rw [e] at *; simp at *; omega
  ntrans x y z h1 h2 := by
    have e : ∀ a b : α, ltOf (fun x y : α => cmpI (g x) (g y)) a b = decide (g a < g b) := fun a b => cmpI_lt _ _
    rw [e] at *; simp at *; omega
section
variable {α : Type} [Inhabited α]
theorem grownBy_sorted1 (enc : α → Value) {w : World} {g n : Nat} {os : Array Obj} (d : Array α) : w.grownBy (sortWorld enc w g 0 n d os) (some g) := by
  unfold sortWorld
  refine ⟨rfl, rfl, rfl, by simp, fun k hk hne => ?_⟩
  rw [heap_grow_old _ _ (by simpa using hk)]
  have : g ≠ k := fun e => hne (by rw [e])
  simp [putRow, mapBlock, Sort.ahead, Array.getElem?_modify, this]
theorem heap_sorted1 (enc : α → Value) {w : World} {g n : Nat} {os : Array Obj} {cur : Array Value} {e : TypeId} (d : Array α) (hb : w.heap[g]? = some (.cells cur e (0, 0))) :
    (sortWorld enc w g 0 n d os).heap[g]? = some (.cells (putCells enc 0 d cur) e (0, 0)) := by
  have hg : g < w.heap.size := (Array.getElem?_eq_some_iff.1 hb).1
  unfold sortWorld
  rw [heap_grow_old _ _ (by simpa using hg)]
  simp [putRow, mapBlock, Sort.ahead, Array.getElem?_modify, hb, onCells]
theorem take_put1 (enc : α → Value) (cur : Array Value) (d : Array α) (h : d.size ≤ cur.size) : (putCells enc 0 d cur).toList.take d.size = d.toList.map enc := by
  apply List.ext_getElem?
  intro j
  by_cases hj : j < d.size
  · rw [List.getElem?_take_of_lt hj, Array.getElem?_toList]
    simp [putCells, hj, show j < cur.size by omega]
  · rw [List.getElem?_take_eq_none (by omega), List.getElem?_eq_none (by simp; omega)]
theorem holds_row1 (enc : α → Value) {w : World} {g : Nat} {cur : Array Value} {e : TypeId} {d : Array α} (hb : w.heap[g]? = some (.cells cur e (0, 0))) (ht : cur.toList.take d.size = d.toList.map enc) : Holds enc w g 0 d := fun j hj => by
  refine ⟨?_, by simp [World.frozen?, hb]⟩
  have h1 : (cur.toList.take d.size)[j]? = (d.toList.map enc)[j]? := by rw [ht]
  rw [List.getElem?_take_of_lt hj, Array.getElem?_toList] at h1
  rw [Nat.zero_add, cell_of_row w g j cur e (0, 0) hb, h1]
  simp [hj]
/-- A row of the call's own, sorted. -/
def SortedP (enc : α → Value) (g : α → Int) (base : Nat) (t : TypeId) (l : List α) (v : Value) (w : World) (e : Ending) (w' : World) : Prop :=
  e = .returned (.tuple #[]) ∧ ∃ m : List α, m.Perm l ∧ m.Pairwise (fun x y => g x ≤ g y) ∧ w'.ownsRow base t 1 v l.length (m.map enc) ∧ w.grownBy w' v.ownBlock
end
/-- What the library's sort answers, for a row of the call's own. -/
theorem sorted_of {α : Type} [Inhabited α] (enc : α → Value) (g : α → Int) (base : Nat) (t : TypeId) (l : List α) (G cap : Nat) (cur : Array Value) (w : World) (hb : w.heap[G]? = some (.cells cur t (0, 0))) (hG : base ≤ G) (hc1 : l.length ≤ cap) (hc2 : cap ≤ maxLen) (hcs : cur.size = cap) (e : Ending) (w' : World)
    (h : e = .returned (.tuple #[]) ∧ ∃ d' n os, PermIn 0 l.toArray.size l.toArray d' ∧ SortedIn (ltOf fun x y : α => cmpI (g x) (g y)) 0 l.toArray.size d' ∧ w' = sortWorld enc w G 0 n d' os) : SortedP enc g base t l (.slice (some ⟨G, 0, none⟩) l.length cap) w e w' := by
  obtain ⟨he, d', n, os, hp, hs, rfl⟩ := h
  obtain ⟨p1, _, p3⟩ := hp
  have hsz : d'.size = l.length := by rw [p1]; simp
  have hperm : d'.toList.Perm l := by
    have e1 : d'.extract 0 l.toArray.size = d' := by rw [← p1]; simp
    have e2 : l.toArray.extract 0 l.toArray.size = l.toArray := by simp
    rw [e1, e2] at p3
    exact p3
  refine ⟨he, d'.toList, hperm, ?_, ⟨by simp [hsz], .inr ⟨G, cap, _, rfl, hG, heap_sorted1 enc d' hb, hc1, hc2, by simp [putCells, hcs], ?_⟩⟩, grownBy_sorted1 enc d'⟩
  · rw [List.pairwise_iff_getElem]
    intro i j hi hj hij
    have hj' : j < d'.size := by simpa using hj
    have h3 := hs i j (Nat.zero_le _) hij (by simpa [hsz] using hj)
    have e : ∀ a b : α, ltOf (fun x y : α => cmpI (g x) (g y)) a b = decide (g a < g b) := fun a b => cmpI_lt _ _
    rw [e] at h3
    have e1 : d'[j]! = d'[j] := by simp [hj']
    have e2 : d'[i]! = d'[i]'(by omega) := by simp [show i < d'.size by omega]
    rw [e1, e2] at h3
    simp at h3
    simp
    omega
  · have := take_put1 enc cur d' (by rw [hsz, hcs]; exact hc1)
    rw [hsz] at this
    simpa using this
instance inhI64 : Inhabited {x : Int // -9223372036854775808 ≤ x ∧ x ≤ 9223372036854775807} := ⟨⟨0, by decide⟩⟩
/-- The numbers of a set, sorted by their places. -/
theorem sort_num (l : List Int) (v : Value) (base pb bm nm : Nat) (f : Int → Option Value) (pf : Int → Int) (w : World) (ho : OwnZ w base v l) (hP : PlcM w pb bm nm f pf) (h1 : v.ownBlock ≠ some pb) (h2 : v.ownBlock ≠ some bm) (hl : l ≠ []) (hn : l.length ≤ 1000000) :
    Calls Tryz.prog 80 #[v, .func (.func 79) #[] #[.pointer (some ⟨pb, 0, none⟩)]] w fun e w' => e = .returned (.tuple #[]) ∧ ∃ m : List Int, m.Perm l ∧ m.Pairwise (fun x y => pf x ≤ pf y) ∧ OwnZ w' base v m ∧ w.grownBy w' v.ownBlock := by
  obtain ⟨⟨_, ⟨_, h0⟩ | ⟨G, cap, cur, rfl, hG, hb, hc1, hc2, hcs, ht⟩⟩, hr⟩ := ho
  · exact absurd (List.eq_nil_of_length_eq_zero h0) hl
  obtain ⟨d, hd⟩ : ∃ d : List {x : Int // -9223372036854775808 ≤ x ∧ x ≤ 9223372036854775807}, d.map Subtype.val = l := ⟨l.pmap Subtype.mk hr, by rw [List.map_pmap]; simp⟩
  have hdl : d.length = l.length := by rw [← hd, List.length_map]
  have eg : ∀ args w, (callFunc 79 args).run Tryz.prog w = .ok (.enter 79 args) w := enters_of Tryz.func79 (by kernel_rfl) rfl
  have hcmp : CmpLays1 Tryz.prog 79 #[.pointer (some ⟨pb, 0, none⟩)] (fun x : {x : Int // -9223372036854775808 ≤ x ∧ x ≤ 9223372036854775807} => Value.int .i64 x.1) (fun x y => cmpI (pf x.1) (pf y.1)) G 0 d.toArray.size w := fun m os dk _ x y =>
    (places_any pb bm nm f pf x.1 y.1 _ (hP.grown (grownBy_sorted1 _ dk) (fun e => h1 e.symm) (fun e => h2 e.symm)) x.2 y.2).mono fun e w' ⟨he, hw⟩ => ⟨he, 0, #[], by subst hw; exact (grow_empty _).symm⟩
  have ht' : cur.toList.take d.toArray.size = d.toArray.toList.map (fun x => Value.int .i64 x.1) := by
    rw [Nat.mul_one] at ht
    rw [List.size_toArray, hdl, ht, ← hd, List.map_map]
    rfl
  have hcon := Any.slices_SortFunc sortZ (fun x : {x : Int // -9223372036854775808 ≤ x ∧ x ≤ 9223372036854775807} => Value.int .i64 x.1) (fun _ => rfl) (fun x y => cmpI (pf x.1) (pf y.1)) (swo_by fun x : {x : Int // -9223372036854775808 ≤ x ∧ x ≤ 9223372036854775807} => pf x.1) 79 #[.pointer (some ⟨pb, 0, none⟩)] G 0 cap d.toArray w eg hcmp (holds_row1 _ hb ht') (Has.lt hb) (by simp; omega)
  change Calls Tryz.prog 80 _ _ _ at hcon
  rw [List.size_toArray, hdl] at hcon
  refine hcon.mono fun e w' h => ?_
  rw [← hdl] at h
  have hs := sorted_of (fun x : {x : Int // -9223372036854775808 ≤ x ∧ x ≤ 9223372036854775807} => Value.int .i64 x.1) (fun x => pf x.1) base 3 d G cap cur w hb hG (by omega) hc2 (by omega) e w' (by rw [List.size_toArray]; exact h)
  obtain ⟨he, m, hp, hm, hrow, hg⟩ := hs
  have hml : (m.map Subtype.val).length = l.length := by rw [List.length_map, hp.length_eq, hdl]
  refine ⟨he, m.map Subtype.val, by rw [← hd]; exact hp.map _, List.pairwise_map.2 hm, ⟨?_, fun x hx => ?_⟩, hdl ▸ hg⟩
  · rw [hml, List.map_map, ← hdl]
    exact hrow
  · obtain ⟨y, _, rfl⟩ := List.mem_map.1 hx
    exact y.2

def hd0 (l : List Int) : Int := l.headD 0
set_option maxHeartbeats 800000 in
theorem heads_any (pf2 pb bm nm base : Nat) (f : Int → Option Value) (pf : Int → Int) (x y : Value × List Int) (w : World) (h : PlcM w pb bm nm f pf) (hc : w.cell? ⟨pf2, 0, none⟩ = some (.func (.func 79) #[] #[.pointer (some ⟨pb, 0, none⟩)])) (hx : OwnZ w base x.1 x.2) (hy : OwnZ w base y.1 y.2) (hx0 : x.2 ≠ []) (hy0 : y.2 ≠ []) :
    Calls Tryz.prog 82 #[x.1, y.1, .pointer (some ⟨pf2, 0, none⟩)] w fun e w' => e = .returned (.int .i64 (cmpI (pf (hd0 x.2)) (pf (hd0 y.2)))) ∧ ∃ q, w' = w.drewN q := by
  obtain ⟨x1, x2⟩ := x
  obtain ⟨y1, y2⟩ := y
  simp only at *
  obtain ⟨A1, c1, e1, r1, _⟩ := hx.read
  obtain ⟨A2, c2, e2, r2, _⟩ := hy.read
  subst e1 e2
  have l1 : 0 < x2.length := List.length_pos_iff.2 hx0
  have l2 : 0 < y2.length := List.length_pos_iff.2 hy0
  obtain ⟨b1, o1, e1, _, hb1, f1⟩ := r1.at_ l1
  obtain ⟨b2, o2, e2, _, hb2, f2⟩ := r2.at_ l2
  subst e1 e2
  have h1 : x2[0] = hd0 x2 := by cases x2 with | nil => simp at l1 | cons a t => rfl
  have h2 : y2[0] = hd0 y2 := by cases y2 with | nil => simp at l2 | cons a t => rfl
  rw [h1] at f1 hb1
  rw [h2] at f2 hb2
  rw [Nat.add_zero] at f1 f2
  have HP := Lib.hid (fun (W : World) (k : w.grownBy W none) => places_any pb bm nm f pf (hd0 x2) (hd0 y2) W (h.grown k (by simp) (by simp)) hb1 hb2)
  generalize cmpI (pf (hd0 x2)) (pf (hd0 y2)) = R at *
  generalize hd0 x2 = xa at *
  generalize hd0 y2 = ya at *
  clear h hx hy r1 r2 h1 h2
  have l3 : (0 : Int) < (x2.length : Int) := by omega
  have l4 : (0 : Int) < (y2.length : Int) := by omega
  generalize x2.length = p1 at *
  generalize y2.length = p2 at *
  go_enter Tryz.func82, Tryz.ntmps82
  go_wp2_with fail
  go_quiet ((go_at_call 79; exact quiet_left (HP.out _ (grownBy_drewN (grownBy_refl _ _) _))))
  go_wp2_with fail
  go_ret
  exact ⟨rfl, _, rfl⟩
/-- The sets, sorted by the places of their first numbers. -/
theorem sort_set (Z : List (Value × List Int)) (v : Value) (base base2 pf2 pb bm nm : Nat) (f : Int → Option Value) (pf : Int → Int) (w : World) (ho : OwnV w base2 v (Z.map Prod.fst)) (hI : Inn w base Z) (hne : ∀ p ∈ Z, p.2 ≠ []) (hP : PlcM w pb bm nm f pf) (hc : w.cell? ⟨pf2, 0, none⟩ = some (.func (.func 79) #[] #[.pointer (some ⟨pb, 0, none⟩)])) (h1 : v.ownBlock ≠ some pb) (h2 : v.ownBlock ≠ some bm) (h3 : v.ownBlock ≠ some pf2) (hd : ∀ p ∈ Z, ∀ k, p.1.ownBlock = some k → v.ownBlock ≠ some k) (hZ : Z ≠ []) (hn : Z.length ≤ 1000000) :
    Calls Tryz.prog 81 #[v, .func (.func 82) #[] #[.pointer (some ⟨pf2, 0, none⟩)]] w fun e w' => e = .returned (.tuple #[]) ∧ ∃ Y : List (Value × List Int), Y.Perm Z ∧ Y.Pairwise (fun x y => pf (hd0 x.2) ≤ pf (hd0 y.2)) ∧ OwnV w' base2 v (Y.map Prod.fst) ∧ w.grownBy w' v.ownBlock := by
  obtain ⟨_, ⟨_, h0⟩ | ⟨G, cap, cur, rfl, hG, hb, hc1, hc2, hcs, ht⟩⟩ := ho
  · exact absurd (List.eq_nil_of_length_eq_zero (by simpa using h0)) hZ
  obtain ⟨z0, hz0⟩ := List.exists_mem_of_ne_nil Z hZ
  haveI : Inhabited {z : Value × List Int // z ∈ Z} := ⟨⟨z0, hz0⟩⟩
  obtain ⟨d, hdd⟩ : ∃ d : List {z : Value × List Int // z ∈ Z}, d.map Subtype.val = Z := ⟨Z.attach, List.attach_map_subtype_val Z⟩
  have hdl : d.length = Z.length := by conv => rhs; rw [← hdd, List.length_map]
  have hdm : d.map (fun x => x.1.1) = Z.map Prod.fst := by
    have e : d.map (fun x => x.1.1) = (d.map Subtype.val).map Prod.fst := by rw [List.map_map]; rfl
    rw [e, hdd]
  have hone : OneCell (fun x : {z : Value × List Int // z ∈ Z} => x.1.1) := fun x => by
    obtain ⟨A, c, e⟩ := (hI.own _ x.2).shape
    show x.1.1.oneCell' = true
    rw [e]
    rfl
  have eg : ∀ args w, (callFunc 82 args).run Tryz.prog w = .ok (.enter 82 args) w := enters_of Tryz.func82 (by kernel_rfl) rfl
  have hcmp : CmpLays1 Tryz.prog 82 #[.pointer (some ⟨pf2, 0, none⟩)] (fun x : {z : Value × List Int // z ∈ Z} => x.1.1) (fun x y => cmpI (pf (hd0 x.1.2)) (pf (hd0 y.1.2))) G 0 d.toArray.size w := fun m os dk _ x y => by
    have hg := grownBy_sorted1 (fun x : {z : Value × List Int // z ∈ Z} => x.1.1) (w := w) (g := G) (n := m) (os := os) dk
    have hk : ∀ z : {z : Value × List Int // z ∈ Z}, OwnZ (sortWorld (fun x : {z : Value × List Int // z ∈ Z} => x.1.1) w G 0 m dk os) base z.1.1 z.1.2 := fun z => (hI.own _ z.2).blk fun i _ hi hb => hg.block i hi (fun e => hd _ z.2 i hb e.symm)
    refine (heads_any pf2 pb bm nm base f pf x.1 y.1 _ (hP.grown hg (fun e => h1 e.symm) (fun e => h2 e.symm)) ((World.cell?_of_block (a := ⟨pf2, 0, none⟩) (hg.block pf2 (World.block_lt_of_cell? w _ hc) (fun e => h3 e.symm))).trans hc) (hk x) (hk y) (hne _ x.2) (hne _ y.2)).mono fun e w' ⟨he, n, hw⟩ => ⟨he, n, #[], ?_⟩
    rw [hw, grow_empty]
  have ht' : cur.toList.take d.toArray.size = d.toArray.toList.map (fun x => x.1.1) := by
    rw [Nat.mul_one, List.length_map] at ht
    rw [List.size_toArray, hdl, ht, ← hdm]
  have hcon := Any.slices_SortFunc sortS (fun x : {z : Value × List Int // z ∈ Z} => x.1.1) hone (fun x y => cmpI (pf (hd0 x.1.2)) (pf (hd0 y.1.2))) (swo_by fun x : {z : Value × List Int // z ∈ Z} => pf (hd0 x.1.2)) 82 #[.pointer (some ⟨pf2, 0, none⟩)] G 0 cap d.toArray w eg hcmp (holds_row1 _ hb ht') (Has.lt hb) (by simp; omega)
  change Calls Tryz.prog 81 _ _ _ at hcon
  rw [List.size_toArray, hdl] at hcon
  rw [List.length_map] at *
  refine hcon.mono fun e w' h => ?_
  rw [← hdl] at h
  have hs := sorted_of (fun x : {z : Value × List Int // z ∈ Z} => x.1.1) (fun x => pf (hd0 x.1.2)) base2 22 d G cap cur w hb hG (by omega) hc2 (by omega) e w' (by rw [List.size_toArray]; exact h)
  obtain ⟨he, m, hp, hm, hrow, hg⟩ := hs
  have hml : m.length = Z.length := hp.length_eq.trans hdl
  rw [hdl] at hrow hg
  refine ⟨he, m.map Subtype.val, (hp.map Subtype.val).trans (List.Perm.of_eq hdd), List.pairwise_map.2 hm, ?_, hg⟩
  have e1 : ((m.map Subtype.val).map Prod.fst).length = Z.length := by rw [List.length_map, List.length_map]; exact hml
  have e2 : (m.map Subtype.val).map Prod.fst = m.map fun x => x.1.1 := by rw [List.map_map]; rfl
  unfold OwnV
  rw [e1, e2]
  exact hrow
end
section
open Go.RowKit

theorem VMap.blk {w w' : World} {b n : Nat} {z : Value} {f : Int → Option Value} (h : VMap w b n z f) (k : w'.heap[b]? = w.heap[b]?) : VMap w' b n z f := by
  obtain ⟨D, ⟨es, clock, h1, h3⟩, h2⟩ := h
  exact ⟨D, ⟨es, clock, k.trans h1, h3⟩, h2⟩
/-- The places of the first k numbers. -/
def plcF (ids : List Int) (k : Nat) (i : Int) : Option Value := if pos ids i < k then some (.int .i64 (pos ids i : Int)) else none
def plcN (ids : List Int) (i : Int) : Int := if pos ids i < ids.length then (pos ids i : Int) else 0
theorem plcF_zero (ids : List Int) : plcF ids 0 = fun _ => none := by
  funext i
  simp [plcF]
theorem plcF_next {ids : List Int} (hd : ids.Nodup) {k : Nat} (hk : k < ids.length) (i : Int) : updV (plcF ids k) ids[k] (.int .i64 (k : Int)) i = plcF ids (k + 1) i := by
  unfold updV plcF
  have h1 := pos_get hd hk
  by_cases e : i = ids[k]
  · rw [if_pos e, e, h1, if_pos (by omega)]
  · rw [if_neg e]
    have hne : pos ids i ≠ k := fun h => e (by
      have h2 := pos_at (ids := ids) (x := i) (by rw [h]; exact hk)
      rw [← h2]
      simp only [h])
    by_cases h : pos ids i < k
    · rw [if_pos h, if_pos (by omega)]
    · rw [if_neg h, if_neg (by omega)]
theorem plcF_val (ids : List Int) (i : Int) : (plcF ids ids.length i).getD (.int .i64 0) = .int .i64 (plcN ids i) := by
  unfold plcF plcN
  by_cases h : pos ids i < ids.length
  · rw [if_pos h, if_pos h]; rfl
  · rw [if_neg h, if_neg h]; rfl
theorem plcN_le {ids : List Int} {x y : Int} (hx : x ∈ ids) (hy : y ∈ ids) : plcN ids x ≤ plcN ids y ↔ pos ids x ≤ pos ids y := by
  unfold plcN
  rw [if_pos (pos_lt.2 hx), if_pos (pos_lt.2 hy)]
  omega
theorem len_flat {S : List (List Int)} (h : ∀ s ∈ S, s ≠ []) : S.length ≤ S.flatten.length ∧ ∀ s ∈ S, s.length ≤ S.flatten.length := by
  induction S with
  | nil => exact ⟨Nat.le_refl _, fun s hs => by cases hs⟩
  | cons a S ih =>
    obtain ⟨h1, h2⟩ := ih fun s hs => h s (List.mem_cons_of_mem _ hs)
    have h3 := List.length_pos_iff.2 (h a List.mem_cons_self)
    rw [List.flatten_cons, List.length_append, List.length_cons]
    refine ⟨by omega, fun s hs => ?_⟩
    rcases List.mem_cons.1 hs with rfl | hs
    · omega
    · have := h2 s hs
      omega
theorem set_bounds {n : List Ld} {lo k : Nat} (hk : k ≤ n.length) (h64 : n.length ≤ 64) : (∀ s ∈ setV n lo k, s ≠ []) ∧ (setV n lo k).length ≤ 64 ∧ ∀ s ∈ setV n lo k, s.length ≤ 64 := by
  have hp := set_prt (n := n) lo k hk
  obtain ⟨h1, h2⟩ := len_flat hp.ne
  have h3 := hp.perm.length_eq
  rw [List.length_map] at h3
  exact ⟨hp.ne, by omega, fun s hs => by have := h2 s hs; omega⟩
theorem set_next {n : List Ld} {lo k : Nat} (hk : k < n.length) : setV n lo (k + 1) = uniV (setV n lo k) (arnV n[k] lo) := by
  unfold setV
  rw [List.take_succ_eq_append_getElem hk, List.foldl_append]
  rfl
theorem arn_len {x : Ld} {lo : Nat} (h : x.levels.length ≤ 17) : (arnV x lo).length ≤ 35 := by
  have : ∀ l : List Lk, (l.flatMap fun y => [y.left, y.right]).length = l.length * 2 := fun l => by
    induction l with
    | nil => rfl
    | cons a l ih => rw [List.flatMap_cons, List.length_append, ih]; simp; omega
  unfold arnV
  rw [List.length_cons, this, List.length_drop]
  omega
/-- Slices with numbers of their own, one for one. -/
structure InQ (w : World) (base : Nat) (q : List Value) (T : List (List Int)) : Prop where
  len : q.length = T.length
  own : ∀ i (h : i < q.length) (h2 : i < T.length), OwnZ w base q[i] T[i]
  dis : q.Pairwise fun a b => ∀ k, a.ownBlock = some k → b.ownBlock ≠ some k
theorem InQ.of {w : World} {base : Nat} {Z : List (Value × List Int)} (h : Inn w base Z) : InQ w base (Z.map Prod.fst) (Z.map Prod.snd) :=
  ⟨by simp, fun i h1 h2 => by simpa using h.own _ (List.getElem_mem (show i < Z.length by simpa using h1)), List.pairwise_map.2 h.dis⟩
theorem InQ.to {w : World} {base : Nat} {q : List Value} {T : List (List Int)} (h : InQ w base q T) : Inn w base (q.zip T) ∧ (q.zip T).map Prod.fst = q ∧ (q.zip T).map Prod.snd = T := by
  have e1 : (q.zip T).map Prod.fst = q := List.map_fst_zip (by rw [h.len]; exact Nat.le_refl _)
  have e2 : (q.zip T).map Prod.snd = T := List.map_snd_zip (by rw [h.len]; exact Nat.le_refl _)
  refine ⟨⟨fun p hp => ?_, ?_⟩, e1, e2⟩
  · obtain ⟨i, hi, rfl⟩ := List.mem_iff_getElem.1 hp
    have hi2 : i < q.length := by simp at hi; omega
    rw [List.getElem_zip]
    exact h.own i hi2 (by rw [← h.len]; exact hi2)
  · have := h.dis
    rw [← e1] at this
    exact List.pairwise_map.1 this
theorem dis_at {q : List Value} (h : q.Pairwise fun a b => ∀ k, a.ownBlock = some k → b.ownBlock ≠ some k) {i j : Nat} (hi : i < q.length) (hj : j < q.length) (hij : i ≠ j) {k : Nat} (hk : q[i].ownBlock = some k) : q[j].ownBlock ≠ some k := by
  have h2 := List.pairwise_iff_getElem.1 h
  rcases Nat.lt_or_gt_of_ne hij with h3 | h3
  · exact h2 i j hi hj h3 k hk
  · exact fun e => h2 j i hj hi h3 k e hk
/-- One of the slices sorted in place. -/
theorem InQ.put {w w' : World} {base : Nat} {q : List Value} {T : List (List Int)} (h : InQ w base q T) {j : Nat} (hj : j < q.length) (m : List Int) (hm : OwnZ w' base q[j] m) (hg : w.grownBy w' q[j].ownBlock) : InQ w' base q (T.set j m) := by
  refine ⟨by rw [List.length_set]; exact h.len, fun i h1 h2 => ?_, h.dis⟩
  rw [List.length_set] at h2
  rw [List.getElem_set]
  by_cases e : j = i
  · subst e
    rw [if_pos rfl]
    exact hm
  · rw [if_neg e]
    refine (h.own i h1 h2).blk fun k _ hk hb => hg.block k hk fun e2 => ?_
    exact dis_at h.dis h1 hj (fun e3 => e e3.symm) hb e2.symm
theorem comp_end {w : World} {base base2 : Nat} {v : Value} {Y : List (Value × List Int)} (ho : OwnV w base2 v (Y.map Prod.fst)) (hi : ∀ p ∈ Y, OwnZ w base p.1 p.2) : ∃ A c, v = .slice A Y.length c ∧ RwI w w.heap.size A (Y.map Prod.snd) := by
  obtain ⟨A, c, e, hr⟩ := ho.read
  rw [List.length_map] at e
  refine ⟨A, c, e, fun hn => ?_⟩
  obtain ⟨b, o, e2, hb, hc⟩ := hr (fun e3 => hn (by
    have := congrArg List.length e3
    simp at this
    subst this
    rfl))
  refine ⟨b, o, e2, hb, fun i h => ?_⟩
  have hi2 : i < Y.length := by simpa using h
  obtain ⟨Ai, ci, e4, hrd, _⟩ := (hi _ (List.getElem_mem hi2)).read
  refine ⟨Ai, ci, ?_, by simpa using hrd⟩
  have h5 := hc i (by simpa using hi2)
  rw [h5]
  simp only [List.getElem_map]
  rw [e4]
end
section
open Go.RowKit

set_option maxRecDepth 100000 in
set_option maxHeartbeats 6400000 in
theorem components_cons (A : Option Addr) (n : List Ld) (c lo : Nat) (w : World) (hn : Lds w w.heap.size A n) (hd : (n.map Ld.id).Nodup) (hI : ∀ x ∈ n, -9223372036854775808 ≤ x.id ∧ x.id ≤ 9223372036854775807) (hY : ∀ x ∈ n, ∀ y ∈ x.levels, (-9223372036854775808 ≤ y.left ∧ y.left ≤ 9223372036854775807) ∧ (-9223372036854775808 ≤ y.right ∧ y.right ≤ 9223372036854775807)) (hlv : ∀ x ∈ n, lo < x.levels.length ∧ x.levels.length ≤ 17) (h64 : n.length ≤ 64) (h0 : n ≠ []) :
    Calls Tryz.prog 51 #[.slice A n.length c, .int .i64 (lo : Int)] w (LstP (jnd (n.map Ld.id) (prN n lo n.length)) w) := by
  obtain ⟨b, o, rfl, hb, hcells⟩ := hn h0
  have HAT := Lib.hid (fun (i : Nat) (hi : i < n.length) => hn.at_ hi)
  have HI := Lib.hid (fun (i : Nat) (hi : i < n.length) => hI _ (List.getElem_mem hi))
  have HLV := Lib.hid (fun (i : Nat) (hi : i < n.length) => hlv _ (List.getElem_mem hi))
  have HY := Lib.hid (fun (i : Nat) (hi : i < n.length) => hY _ (List.getElem_mem hi))
  have HPN := Lib.hid (fun (k : Nat) (hk : k < n.length) => plcF_next hd (k := k) (by simpa using hk))
  have HPZ : Hid (plcF (n.map Ld.id) 0 = fun _ => none) := Lib.hid (plcF_zero _)
  have HSB := Lib.hid (fun (k : Nat) (hk : k ≤ n.length) => set_bounds (lo := lo) hk h64)
  have HSN := Lib.hid (fun (k : Nat) (hk : k < n.length) => set_next (lo := lo) hk)
  have HAL := Lib.hid (fun (i : Nat) (hi : i < n.length) => arn_len (lo := lo) (hlv _ (List.getElem_mem hi)).2)
  have HS0 : Hid (setV n lo 0 = n.map fun x => [x.id]) := Lib.hid rfl
  obtain ⟨inz, hz0, hz1, hz2, hz3⟩ := infoZ_parts
  obtain ⟨N, hN⟩ : ∃ N, N = n.length := ⟨_, rfl⟩
  have HN := Lib.hid hN
  rw [← hN] at h64 ⊢
  have HR : Hid (∀ (T U : List (List Int)), (setV n lo N).length = T.length → (∀ i (h1 : i < (setV n lo N).length) (h2 : i < T.length), T[i].Perm (setV n lo N)[i]) → T.Perm U → InOrd (n.map Ld.id) U → U = jnd (n.map Ld.id) (prN n lo N)) := Lib.hid fun T U h1 h2 h3 h4 => by
    rw [hN] at *
    exact set_jnd hd lo h1 h2 h3 h4
  have HMS : Hid (∀ s ∈ setV n lo N, ∀ x ∈ s, x ∈ n.map Ld.id) := Lib.hid fun s hs x hx => by
    rw [hN] at hs
    exact (set_prt (n := n) lo n.length (Nat.le_refl _)).sub hs hx
  have HVL : Hid (∀ i : Int, -9223372036854775808 ≤ i → i ≤ 9223372036854775807 → (plcF (n.map Ld.id) N i).getD (.int .i64 0) = .int .i64 (plcN (n.map Ld.id) i)) := Lib.hid fun i _ _ => by
    have := plcF_val (n.map Ld.id) i
    rwa [List.length_map, ← hN] at this
  have hN1 : 1 ≤ N := by rw [hN]; exact List.length_pos_iff.2 h0
  generalize jnd (n.map Ld.id) (prN n lo N) = R at *
  clear hn hd hI hY hlv h0 hN hcells
  have hmm := @run_makeMap Tryz.prog
  go_enter Tryz.func51, Tryz.ntmps51
  have hb1 := (Below.refl w.heap.size w).alloc (Nat.le_refl _) (.map #[] 0)
  have HM0 := Lib.hid (VMap.made w (.int .i64 0))
  obtain ⟨bm, hbm⟩ : ∃ bm, bm = w.heap.size := ⟨_, rfl⟩
  have hwA : (w.alloc (.map #[] 0)).heap.size = w.heap.size + 1 := by rw [World.size_alloc]
  have hb2 := hb1.alloc (by rw [hwA]; omega) (.cells #[.map (some bm)] 56)
  have HPB := Lib.hid (Has.new (w.alloc (.map #[] 0)) 56 #[.map (some bm)])
  have HM1 := Lib.hid (HM0.out.below ((Below.refl (w.alloc (.map #[] 0)).heap.size (w.alloc (.map #[] 0))).alloc (Nat.le_refl _) (.cells #[.map (some bm)] 56)))
  have HB2 := Lib.hid hb2
  obtain ⟨pb, hpb⟩ : ∃ pb, pb = bm + 1 := ⟨_, rfl⟩
  have HPE : Hid (bm = w.heap.size ∧ pb = w.heap.size + 1) := Lib.hid ⟨hbm, by rw [hpb, hbm]⟩
  rw [hwA, ← hbm, ← hpb] at HPB
  have HSZ : Hid (((w.alloc (.map #[] 0)).alloc (.cells #[.map (some bm)] 56)).heap.size = w.heap.size + 2) := Lib.hid (by rw [World.size_alloc, hwA])
  go_upto_region 3 with fail
  rw [← hbm] at HM1 ⊢
  rw [← hpb]
  generalize (w.alloc (.map #[] 0)).alloc (.cells #[.map (some bm)] 56) = w2 at *
  clear hb1 hb2 HM0 hmm hbm hpb hwA
  go_wp2_with fail
  go_loopw [5, 17] (fun vo vi wr => ∃ (v1 : Value) (k : Nat) (Z : List (Value × List Int)), v1 = vo ∧ vi = .int .i64 (k : Int) ∧ k ≤ N ∧ OwnV wr w2.heap.size v1 (Z.map Prod.fst) ∧ Inn wr w2.heap.size Z ∧ (∀ p ∈ Z, ∀ kk, p.1.ownBlock = some kk → v1.ownBlock ≠ some kk) ∧ Has wr pb 56 #[.map (some bm)] ∧ VMap wr bm k (.int .i64 0) (plcF (n.map Ld.id) k) ∧ Below w.heap.size w wr ∧ w2.heap.size ≤ wr.heap.size ∧ Hid (Z.map Prod.snd = (n.take k).map fun x => [x.id]) ∧ Z.length = k) (fun _ vi _ => N - (intOf vi).toNat)
  case atStart => exact ⟨_, 0, [], rfl, rfl, by omega, OwnV.nil _ _, ⟨(fun p hp => by cases hp), List.Pairwise.nil⟩, (fun p hp => by cases hp), HPB.out, by rw [HPZ.out]; exact HM1.out, HB2.out, Nat.le_refl _, Lib.hid (by simp), rfl⟩
  case round =>
    clear HPB HM1 HB2
    obtain ⟨v1, k, Z, rfl, rfl, hk, ho, hin, hds, hpb, hM, hB, hsz, HZ, hzl⟩ := hrel
    by_cases hlt : k < N
    · have k2 : k < n.length := by rw [← HN.out]; exact hlt
      obtain ⟨b', o', e', hb', f1, A', c', f2, hc1, hc2, hls⟩ := HAT.out k k2
      injection e' with e'
      injection e' with e1 e2
      subst e1 e2
      have hi := HI.out k k2
      have hpn := HPN.out k k2
      have HTK : Hid ((n.take (k + 1)).map (fun x => [x.id]) = (n.take k).map (fun x => [x.id]) ++ [[n[k].id]]) := Lib.hid (by rw [List.take_succ_eq_append_getElem k2, List.map_append]; rfl)
      rw [List.getElem_map] at hpn
      generalize n[k].levels.length = m at *
      generalize n[k].id = xi at *
      have HPX := Lib.hid hpn
      have F1 := (hB.cell (p := ⟨b, o + k * 2, none⟩) hb).trans f1
      have F2 := (hB.cell (p := ⟨b, o + k * 2 + 1, none⟩) hb).trans f2
      have i0 : (0 : Int) ≤ (k : Int) := by omega
      have i1 : (k : Int) < (N : Int) := by omega
      have HO := Lib.hid ho
      have HIN := Lib.hid hin
      have HDS := Lib.hid hds
      have HPB := Lib.hid hpb
      have HM := Lib.hid hM
      have HB := Lib.hid hB
      have hbX := (Below.refl wr.heap.size wr).alloc (Nat.le_refl _) (.cells #[.int .i64 xi, .slice A' m c'] 46)
      have HX := Lib.hid (Has.new wr 46 #[.int .i64 xi, .slice A' m c'])
      have HBX := Lib.hid hbX
      obtain ⟨A5, c5, hv5⟩ := ho.shape
      rw [List.length_map, hzl] at hv5
      subst hv5
      clear ho hin hds hpb hM hB hbX f1 f2 hpn hc1 hc2 hls k2
      go_upto_region 6 with fail
      generalize wr.alloc (.cells #[.int .i64 xi, .slice A' m c'] 46) = WA at *
      clear F1 F2
      have x0 := HX.out.cell 0
      have hpc := (HPB.out.below HBX.out).cell 0
      have hMA := HM.out.below HBX.out
      have HMA := Lib.hid hMA
      clear hMA
      have hbml : bm < wr.heap.size := HM.out.lt
      have hWA := HBX.out.size
      have hsz2 : wr.heap.size < WA.heap.size := HX.out.lt
      go_upto_region 7 with (at_mapUpdate; refine wpList_vput _ rfl _ _ _ 56 rfl 3 Tryz.underlying56 bm k _ (plcF (n.map Ld.id) k) HMA.out rfl (by unfold maxLen; omega) xi hi (.int .i64 (k : Int)) rfl rfl ?_; intro w5 hm5 hgr5; have x05 := (World.cell?_of_block (a := ⟨wr.heap.size, 0, none⟩) (hgr5.block wr.heap.size hsz2 (fun e => (by have := Option.some.inj e; omega)))).trans (HX.out.cell 0); have HM5 := Lib.hid hm5; have HG5 := Lib.hid hgr5; clear hm5 hgr5)
      have HOA := Lib.hid (HO.out.below HBX.out)
      have HO5 := Lib.hid (HOA.out.blk (w' := w5) fun i h5 h6 _ => HG5.out.block i h6 (fun e => by have := Option.some.inj e; have := HPE.out; have := HSZ.out; omega))
      have HI5 : Hid (∀ p ∈ Z, OwnZ w5 w2.heap.size p.1 p.2) := Lib.hid fun p hp => ((HIN.out.own p hp).below HBX.out).blk fun i h5 h6 _ => HG5.out.block i h6 (fun e => by have := Option.some.inj e; have := HPE.out; have := HSZ.out; omega)
      have HP5 : Hid (Has w5 pb 56 #[.map (some bm)]) := Lib.hid ((HG5.out.block pb (HPB.out.below HBX.out).lt (fun e => by have := Option.some.inj e; have := HPE.out; omega)).trans (HPB.out.below HBX.out))
      have HB5 := Lib.hid ((HB.out.trans (HBX.out.mono HB.out.size)).grown HG5.out (Nat.le_trans HB.out.size hWA) (fun kk e => by have := Option.some.inj e; have := HPE.out; omega))
      have hs5 := HG5.out.size
      have HBI := Lib.hid ((Below.refl w5.heap.size w5).alloc (Nat.le_refl _) (.cells #[.int .i64 xi] 3))
      have HOI := Lib.hid ((OwnZ.one w5 xi hi).low (show w2.heap.size ≤ w5.heap.size by omega))
      have HI6 := Lib.hid (fun p hp => (HI5.out p hp).below HBI.out)
      have HO6 := Lib.hid (HO5.out.below HBI.out)
      have hIs : (w5.alloc (.cells #[.int .i64 xi] 3)).heap.size = w5.heap.size + 1 := World.size_alloc _ _
      have hbase : w2.heap.size ≤ (w5.alloc (.cells #[.int .i64 xi] 3)).heap.size := by rw [hIs]; omega
      have hql : (Z.map Prod.fst).length < 1000000 := by rw [List.length_map]; omega
      have HOL := Lib.hid (fun kk (e : (Value.slice A5 k c5).ownBlock = some kk) => (HO5.out.lt kk e).2)
      clear HOA HG5 HX HPB HBX HM HB HMA
      obtain ⟨q, hq⟩ : ∃ q, q = Z.map Prod.fst := ⟨_, rfl⟩
      have HQ := Lib.hid hq
      rw [← hq] at HO6 hql
      clear hq
      go_wp2_with (at_builtin; refine wpList_pushV rfl _ _ 54 rfl w2.heap.size inz Tryz.underlying54 hz0 hz1 hz2 hz3 (.slice A5 k c5) q (w5.alloc (.cells #[.int .i64 xi] 3)) (.slice (some ⟨w5.heap.size, 0, none⟩) 1 1) rfl rfl HO6.out (by rw [hIs]; rfl) hql hbase ?_; intro v9 w9 ho9 hb9 hkp hat; have HHB := Lib.hid hb9; have HKP := Lib.hid hkp; have HAT9 := Lib.hid hat; have HO9 := Lib.hid ho9; obtain ⟨V9, hV9⟩ : ∃ V9, V9 = v9 := ⟨_, rfl⟩; subst hV9; clear hb9 hkp hat ho9)
      refine ⟨⟨_, k + 1, Z ++ [(.slice (some ⟨w5.heap.size, 0, none⟩) 1 1, [xi])], rfl, by go_num, hlt, by rw [List.map_append, ← HQ.out]; exact HO9.out, ⟨fun p hp => ?_, ?_⟩, fun p hp kk e => ?_, ?_, ?_, ?_, ?_, Lib.hid (by rw [List.map_append, HZ.out, HTK.out]; rfl), by rw [List.length_append, hzl]; rfl⟩, by simp [intOf]; omega⟩
      · rcases List.mem_append.1 hp with h5 | h5
        · exact (HI6.out p h5).blk fun i h6 h7 h8 => HKP.out i h7 (HDS.out p h5 i h8)
        · rw [List.mem_singleton.1 h5]
          exact HOI.out.blk fun i h6 h7 h8 => HKP.out i h7 fun e => by
            have h9 := HOL.out i e
            have h10 : w5.heap.size = i := Option.some.inj h8
            omega
      · refine List.pairwise_append.2 ⟨HIN.out.dis, List.pairwise_singleton _ _, fun a ha b2 hb2 kk hk2 => ?_⟩
        rw [List.mem_singleton.1 hb2]
        intro e
        have h9 := ((HI5.out a ha).lt kk hk2).2
        have h10 : w5.heap.size = kk := Option.some.inj e
        omega
      · rcases List.mem_append.1 hp with h5 | h5
        · rcases HAT9.out with h6 | ⟨k7, h7, h8⟩
          · rw [h6]; exact HDS.out p h5 kk e
          · rw [h8]
            intro e2
            have h9 := ((HI6.out p h5).lt kk e).2
            have := Option.some.inj e2
            omega
        · rw [List.mem_singleton.1 h5] at e
          have h10 : w5.heap.size = kk := Option.some.inj e
          rcases HAT9.out with h6 | ⟨k7, h7, h8⟩
          · rw [h6]
            intro e2
            have h9 := HOL.out kk e2
            omega
          · rw [h8]
            intro e2
            have := Option.some.inj e2
            omega
      · exact (HHB.out.block pb (by have := HPE.out; have := HSZ.out; omega)).trans (HP5.out.below HBI.out)
      · exact ((HM5.out.below HBI.out).blk (HHB.out.block bm (by have := HPE.out; have := HSZ.out; omega))).congr HPX.out
      · exact (HB5.out.trans (HBI.out.mono HB5.out.size)).trans (HHB.out.mono (by have := HSZ.out; omega))
      · have := HHB.out.size
        omega
    · have ek : k = N := by omega
      subst ek
      have HZS : Hid (Z.map Prod.snd = setV n lo 0) := Lib.hid (by rw [HZ.out, List.take_of_length_le (by rw [HN.out]; exact Nat.le_refl _), HS0.out])
      have HPM : Hid (PlcM wr pb bm k (plcF (n.map Ld.id) k) (plcN (n.map Ld.id))) := Lib.hid ⟨hpb.cell 0, hM, HVL.out, by have := HPE.out; omega⟩
      have HO := Lib.hid ho
      have HIN := Lib.hid hin
      have HDS := Lib.hid hds
      have HB := Lib.hid hB
      have HW2 := Lib.hid hsz
      obtain ⟨wl, hwl⟩ : ∃ wl, wl = wr := ⟨_, rfl⟩
      subst hwl
      obtain ⟨A5, c5, hv5⟩ := ho.shape
      subst hv5
      clear ho hin hds hpb hM hB hsz HZ hzl
      go_wp2_with fail
      go_loopw [5, 35] (fun vo vi wr => ∃ (v1 : Value) (j : Nat) (Z : List (Value × List Int)), v1 = vo ∧ vi = .int .i64 (j : Int) ∧ j ≤ k ∧ OwnV wr w2.heap.size v1 (Z.map Prod.fst) ∧ Inn wr w2.heap.size Z ∧ (∀ p ∈ Z, ∀ kk, p.1.ownBlock = some kk → v1.ownBlock ≠ some kk) ∧ Below wl.heap.size wl wr ∧ Hid (Z.map Prod.snd = setV n lo j)) (fun _ vi _ => k - (intOf vi).toNat)
      case atStart => exact ⟨_, 0, Z, rfl, rfl, by omega, HO.out, HIN.out, HDS.out, Below.refl _ _, Lib.hid HZS.out⟩
      case round =>
        clear HO HIN HDS HZS
        obtain ⟨v1, j, Z, rfl, rfl, hj, ho, hin, hds, hB2, HZ⟩ := hrel
        by_cases hltj : j < k
        · have j2 : j < n.length := by rw [← HN.out]; exact hltj
          obtain ⟨b', o', e', hb', f1, A', c', f2, hc1, hc2, hls⟩ := HAT.out j j2
          injection e' with e'
          injection e' with e1 e2
          subst e1 e2
          have hi := HI.out j j2
          have hlv := HLV.out j j2
          have hy := HY.out j j2
          have hal := HAL.out j j2
          have HNX := Lib.hid (HSN.out j j2)
          obtain ⟨hsb1, hsb2, hsb3⟩ := HSB.out j (by omega)
          have hBw := HB.out.trans (hB2.mono HB.out.size)
          have F1 := (hBw.cell (p := ⟨b, o + j * 2, none⟩) hb).trans f1
          have F2 := (hBw.cell (p := ⟨b, o + j * 2 + 1, none⟩) hb).trans f2
          have hls2 := (hls.below hBw).more hBw.size
          generalize n[j] = x at *
          have i0 : (0 : Int) ≤ (j : Int) := by omega
          have i1 : (j : Int) < (k : Int) := by omega
          have hzl : Z.length ≤ 1000 := by
            have := congrArg List.length HZ.out
            rw [List.length_map] at this
            omega
          have HZN : Hid (∀ p ∈ Z, p.2 ≠ [] ∧ p.2.length ≤ 900) := Lib.hid fun p hp => by
            have hm : p.2 ∈ setV n lo j := by rw [← HZ.out]; exact List.mem_map.2 ⟨p, hp, rfl⟩
            exact ⟨hsb1 _ hm, by have := hsb3 _ hm; omega⟩
          obtain ⟨xi, xl⟩ := x
          simp only at F1 F2 hi hlv hy hc1 hls2
          obtain ⟨m, hm⟩ : ∃ m, m = xl.length := ⟨_, rfl⟩
          have HAR := Lib.hid (fun (W : World) (kb : Below wr.heap.size wr W) => around_any ⟨xi, xl⟩ A' c' lo W hi ((hls2.below kb).more kb.size) hlv.1 hlv.2 hc1 hc2 hy)
          simp only at HAR
          rw [← hm] at F2 HAR
          have HO := Lib.hid ho
          have HIN := Lib.hid hin
          have HB2 := Lib.hid hB2
          have HBW := Lib.hid hBw
          have hbX := (Below.refl wr.heap.size wr).alloc (Nat.le_refl _) (.cells #[.int .i64 xi, .slice A' m c'] 46)
          have HX := Lib.hid (Has.new wr 46 #[.int .i64 xi, .slice A' m c'])
          have HBX := Lib.hid hbX
          obtain ⟨A6, c6, hv6⟩ := ho.shape
          rw [List.length_map] at hv6
          have hrd := ho.read
          subst hv6
          obtain ⟨_, _, er, hrd⟩ := hrd
          injection er with e1 e3 e2
          clear e3
          subst e1 e2
          have HRD := Lib.hid hrd
          clear ho hin hB2 hBw hbX f1 f2 hls hls2 hlv hy hc1 hc2 hrd j2 hsb1 hsb2 hsb3 hm
          go_upto_region 12 with fail
          generalize wr.alloc (.cells #[.int .i64 xi, .slice A' m c'] 46) = WA at *
          clear F1 F2
          have x0 := HX.out.cell 0
          have x1 := HX.out.cell 1
          have HAA := Lib.hid (HAR.out WA HBX.out)
          generalize arnV ⟨xi, xl⟩ lo = ids at *
          have HWS : Hid (w2.heap.size ≤ wr.heap.size) := Lib.hid (by have := HB2.out.size; have := HW2.out; omega)
          go_wp2_with fail
          refine (HAA.out).mono ?_
          rintro e w5 ⟨A7, c7, rfl, hoz, hb5⟩
          obtain ⟨_, _, er, hins, _⟩ := hoz.read
          injection er with e1 e3 e2
          clear e3
          subst e1 e2
          have hB5 := HBX.out.trans (hb5.mono HBX.out.size)
          have HB5 := Lib.hid hB5
          have HUN := Lib.hid (unite_any A6 A7 c6 c7 w2.heap.size Z ids w5 (Nat.le_trans HWS.out hB5.size) ((HRD.out.below hB5).more hB5.size) (HIN.out.below hB5) (fun p hp => (HZN.out p hp).1) hins hzl (fun p hp => (HZN.out p hp).2) (by omega))
          clear hB5 hb5 hoz hins HAA HAR x0 x1 HRD
          go_wp2_with fail
          refine (HUN.out).mono ?_
          rintro e w6 ⟨v6, u6, rfl, ho6, hi6, hd6, hb6⟩
          have HO6 := Lib.hid (ho6.low (show w2.heap.size ≤ w5.heap.size from Nat.le_trans HWS.out HB5.out.size))
          have HI6 := Lib.hid hi6
          have HD6 := Lib.hid hd6
          have HB6 := Lib.hid (HB2.out.trans ((HB5.out.trans (hb6.mono HB5.out.size)).mono HB2.out.size))
          have HZ6 : Hid ((keepZ ids Z ++ [(u6, joinZ ids Z)]).map Prod.snd = setV n lo (j + 1)) := Lib.hid (by rw [uni_zip, HNX.out, HZ.out])
          obtain ⟨V6, hV6⟩ : ∃ V6, V6 = v6 := ⟨_, rfl⟩
          subst hV6
          clear ho6 hi6 hd6 hb6 HUN
          go_wp2_with fail
          exact ⟨⟨_, j + 1, _, rfl, by go_num, by omega, HO6.out, HI6.out, HD6.out, HB6.out, Lib.hid HZ6.out⟩, by simp [intOf]; omega⟩
        · have ej : j = k := by omega
          subst ej
          obtain ⟨hsb1, hsb2, hsb3⟩ := HSB.out j (by rw [HN.out]; exact Nat.le_refl _)
          have hQT := InQ.of hin
          have HZX := Lib.hid (fun (h0 : Z = []) => (show False from by
            have h6 := HZ.out
            rw [h0] at h6
            have h7 := (set_prt (n := n) lo j (by rw [HN.out]; exact Nat.le_refl _)).perm
            rw [← h6] at h7
            have h8 := h7.length_eq
            simp at h8
            have := HN.out
            omega))
          obtain ⟨T0, hT0⟩ : ∃ T0, T0 = Z.map Prod.snd := ⟨_, rfl⟩
          obtain ⟨q, hq⟩ : ∃ q, q = Z.map Prod.fst := ⟨_, rfl⟩
          rw [← hq] at hQT ho
          rw [← hT0] at hQT HZ
          have hne : ∀ s ∈ T0, s ≠ [] := fun s hs => hsb1 s (by rw [← HZ.out]; exact hs)
          have hsl : ∀ s ∈ T0, s.length ≤ 64 := fun s hs => hsb3 s (by rw [← HZ.out]; exact hs)
          have hql : q.length ≤ 64 := by rw [hQT.len, HZ.out]; exact hsb2
          have hq0 : q ≠ [] := fun e => HZX.out (by
            have h6 := hq.symm.trans e
            have := congrArg List.length h6
            simp at this
            exact this)
          have hds2 : ∀ i (h : i < q.length) kk, q[i].ownBlock = some kk → v1.ownBlock ≠ some kk := fun i h kk e => by
            have hi2 : i < Z.length := by rw [hq] at h; simpa using h
            refine hds Z[i] (List.getElem_mem hi2) kk ?_
            rw [← e]
            simp only [hq, List.getElem_map]
          have hblk : ∀ i (h : i < q.length) kk, q[i].ownBlock = some kk → w2.heap.size ≤ kk ∧ kk < wr.heap.size := fun i h kk e => (hQT.own i h (by rw [← hQT.len]; exact h)).lt kk e
          have hvl := ho.lt
          have hBw := HB.out.trans (hB2.mono HB.out.size)
          have HPQ := Lib.hid (HPM.out.below hB2)
          have hbs : w2.heap.size ≤ wr.heap.size := by have := hB2.size; have := HW2.out; omega
          obtain ⟨pf, hpf⟩ : ∃ pf, pf = wr.heap.size := ⟨_, rfl⟩
          have hbX := (Below.refl wr.heap.size wr).alloc (Nat.le_refl _) (.cells #[.func (.func 79) #[] #[.pointer (some ⟨pb, 0, none⟩)]] 33)
          have HF := Lib.hid (Has.new wr 33 #[.func (.func 79) #[] #[.pointer (some ⟨pb, 0, none⟩)]])
          have HOX := Lib.hid (ho.below hbX)
          have HQX : Hid (InQ (wr.alloc (.cells #[.func (.func 79) #[] #[.pointer (some ⟨pb, 0, none⟩)]] 33)) w2.heap.size q T0) := Lib.hid ⟨hQT.len, fun i h1 h2 => (hQT.own i h1 h2).below hbX, hQT.dis⟩
          have HPX := Lib.hid (HPQ.out.below hbX)
          have HBX := Lib.hid (hBw.trans (hbX.mono hBw.size))
          have HWB := Lib.hid (show w.heap.size ≤ w2.heap.size ∧ bm < w2.heap.size ∧ pb < w2.heap.size from by have := HPE.out; have := HSZ.out; omega)
          have HDS := Lib.hid hds2
          have HBL := Lib.hid hblk
          have HVL := Lib.hid hvl
          have HBS := Lib.hid hbs
          have HNE := Lib.hid hne
          have HSL := Lib.hid hsl
          have HQL := Lib.hid hQT.len
          obtain ⟨M, hM⟩ : ∃ M, M = q.length := ⟨_, rfl⟩
          have HM := Lib.hid hM
          obtain ⟨A6, c6, hv6⟩ := ho.shape
          rw [← hM] at hv6 hql
          subst hv6
          rw [← hpf] at HBL HVL
          clear ho hin hds hB2 hQT hbX hBw hds2 hblk hvl hbs hne hsl hsb1 hsb2 hsb3 hT0 hq hM HPM HPQ
          go_upto_region 15 with fail
          generalize wr.alloc (.cells #[.func (.func 79) #[] #[.pointer (some ⟨pb, 0, none⟩)]] 33) = WF at *
          rw [← hpf] at HF ⊢
          clear hpf
          go_wp2_with fail
          go_loopw [48] (fun vi wr => ∃ (i : Nat) (T : List (List Int)), vi = .int .i64 (i : Int) ∧ i ≤ M ∧ InQ wr w2.heap.size q T ∧ OwnV wr w2.heap.size (.slice A6 M c6) q ∧ Has wr pf 33 #[.func (.func 79) #[] #[.pointer (some ⟨pb, 0, none⟩)]] ∧ PlcM wr pb bm j (plcF (n.map Ld.id) j) (plcN (n.map Ld.id)) ∧ Below w.heap.size w wr ∧ Hid (∀ t (h1 : t < T.length) (h2 : t < T0.length), T[t].Perm T0[t]) ∧ Hid (∀ t (_ : t < i) (h2 : t < T.length), T[t].Pairwise fun x y => plcN (n.map Ld.id) x ≤ plcN (n.map Ld.id) y)) (fun vi _ => M - (intOf vi).toNat)
          case atStart => exact ⟨0, T0, rfl, by omega, HQX.out, HOX.out, HF.out, HPX.out, HBX.out, Lib.hid fun t _ _ => List.Perm.refl _, Lib.hid fun t h => by omega⟩
          case round =>
            clear HQX HOX HF HPX HBX
            obtain ⟨i, T, rfl, hi, hQ, hO, hF, hP, hB, HPR, HSR⟩ := hrel
            by_cases hlti : i < M
            · have i2 : i < q.length := by rw [← HM.out]; exact hlti
              have i3 : i < T.length := by rw [← hQ.len]; exact i2
              have i4 : i < T0.length := by rw [← HQL.out]; exact i2
              obtain ⟨_, _, er, hrd⟩ := hO.read
              injection er with e1 e3 e2
              clear e3
              subst e1 e2
              obtain ⟨b5, o5, e5, hb5, g1⟩ := hrd.at_ i2
              subst e5
              have hpr := HPR.out i i3 i4
              have hown := hQ.own i i2 i3
              have hne : T[i] ≠ [] := fun e => HNE.out _ (List.getElem_mem i4) (by
                have h6 := hpr
                rw [e] at h6
                exact h6.symm.eq_nil)
              have hlen : T[i].length ≤ 1000000 := by have := HSL.out _ (List.getElem_mem i4); have := hpr.length_eq; omega
              have hbl := HBL.out i i2
              have hdd := HDS.out i i2
              have hput := fun (w5 : World) (m : List Int) (hm : OwnZ w5 w2.heap.size q[i] m) (hg : wr.grownBy w5 q[i].ownBlock) => hQ.put i2 m hm hg
              have HSO := Lib.hid (sort_num T[i] q[i] w2.heap.size pb bm j (plcF (n.map Ld.id) j) (plcN (n.map Ld.id)) wr hown hP (fun e => by have := (hbl _ e).1; have := HWB.out; omega) (fun e => by have := (hbl _ e).1; have := HWB.out; omega) hne hlen)
              obtain ⟨Ai, ci, hqi⟩ := hown.shape
              generalize hqv : q[i] = qv at *
              generalize htv : T[i] = tv at *
              subst hqi
              have HPUT := Lib.hid hput
              have HBLK := Lib.hid hbl
              have HDD := Lib.hid hdd
              have HPP := Lib.hid hpr
              have HTV := Lib.hid htv
              have HO := Lib.hid hO
              have HF := Lib.hid hF
              have HP := Lib.hid hP
              have HB := Lib.hid hB
              have HQ := Lib.hid hQ
              have f0 := hF.cell 0
              have i0 : (0 : Int) ≤ (i : Int) := by omega
              have i1 : (i : Int) < (M : Int) := by omega
              obtain ⟨p, hp⟩ : ∃ p, p = tv.length := ⟨_, rfl⟩
              rw [← hp] at g1 HSO HPUT HBLK HDD
              clear hput hbl hdd hpr hown hO hF hP hB hQ hne hlen hrd htv hqv i2 hp
              go_wp2_with fail
              refine (HSO.out).mono ?_
              rintro e w5 ⟨rfl, m, hp5, hs5, ho5, hg5⟩
              have HQ5 := Lib.hid (HPUT.out w5 m ho5 hg5)
              have HO5 : Hid (OwnV w5 w2.heap.size (.slice (some ⟨b5, o5, none⟩) M c6) q) := Lib.hid (HO.out.blk fun kk _ h6 h7 => hg5.block kk h6 (fun e => HDD.out kk e.symm h7))
              have HF5 : Hid (Has w5 pf 33 #[.func (.func 79) #[] #[.pointer (some ⟨pb, 0, none⟩)]]) := Lib.hid ((hg5.block pf HF.out.lt (fun e => by have := (HBLK.out pf e.symm).2; omega)).trans HF.out)
              have HP5 := Lib.hid (HP.out.grown hg5 (fun e => by have := (HBLK.out pb e.symm).1; have := HWB.out; omega) (fun e => by have := (HBLK.out bm e.symm).1; have := HWB.out; omega))
              have HB5 := Lib.hid (HB.out.grown hg5 HB.out.size (fun kk e => by have := (HBLK.out kk e).1; have := HWB.out; omega))
              have HPM5 := Lib.hid hp5
              have HSM5 := Lib.hid hs5
              clear hp5 hs5 ho5 hg5 HSO f0
              go_wp2_with fail
              refine ⟨⟨i + 1, T.set i m, by go_num, hlti, HQ5.out, HO5.out, HF5.out, HP5.out, HB5.out, Lib.hid fun t h1 h2 => ?_, Lib.hid fun t ht h2 => ?_⟩, by simp [intOf]; omega⟩
              · rw [List.getElem_set]
                by_cases e : i = t
                · subst e
                  rw [if_pos rfl]
                  exact HPM5.out.trans HPP.out
                · rw [if_neg e]
                  exact HPR.out t (by rwa [List.length_set] at h1) h2
              · rw [List.getElem_set]
                by_cases e : i = t
                · rw [if_pos e]
                  exact HSM5.out
                · rw [if_neg e]
                  exact HSR.out t (by omega) (by rwa [List.length_set] at h2)
            · have HFIN := Lib.hid hQ.to
              have hTl : T.length = M := by rw [← hQ.len, HM.out]
              have hTm : ∀ t ∈ T, ∃ s ∈ T0, t.Perm s := fun t ht => by
                obtain ⟨a, ha, rfl⟩ := List.mem_iff_getElem.1 ht
                have ha2 : a < T0.length := by rw [← HQL.out, hQ.len]; exact ha
                exact ⟨T0[a], List.getElem_mem ha2, HPR.out a ha ha2⟩
              have hTs : ∀ t ∈ T, t.Pairwise fun x y => plcN (n.map Ld.id) x ≤ plcN (n.map Ld.id) y := fun t ht => by
                obtain ⟨a, ha, rfl⟩ := List.mem_iff_getElem.1 ht
                exact HSR.out a (by omega) ha
              have hTne : ∀ t ∈ T, t ≠ [] := fun t ht => by
                obtain ⟨s, hs, hp⟩ := hTm t ht
                exact fun e => HNE.out s hs (by rw [e] at hp; exact hp.symm.eq_nil)
              have hTid : ∀ t ∈ T, ∀ x ∈ t, x ∈ n.map Ld.id := fun t ht x hx => by
                obtain ⟨s, hs, hp⟩ := hTm t ht
                exact HMS.out s (by rw [← HZ.out]; exact hs) x (hp.subset hx)
              have hql2 : (q.zip T).length = M := by rw [List.length_zip, HM.out, ← hQ.len]; exact Nat.min_self _
              have hz0 : q.zip T ≠ [] := fun e => hq0 (by
                have := congrArg List.length e
                rw [hql2, HM.out] at this
                exact List.eq_nil_of_length_eq_zero this)
              have hzm : ∀ p ∈ q.zip T, ∃ a, ∃ (h1 : a < q.length) (h2 : a < T.length), p = (q[a], T[a]) := fun p hp => by
                obtain ⟨a, ha, rfl⟩ := List.mem_iff_getElem.1 hp
                have h1 : a < q.length := by rw [hql2, HM.out] at ha; exact ha
                exact ⟨a, h1, by rw [← hQ.len]; exact h1, List.getElem_zip⟩
              have HSS := Lib.hid (sort_set (q.zip T) (.slice A6 M c6) w2.heap.size w2.heap.size pf pb bm j (plcF (n.map Ld.id) j) (plcN (n.map Ld.id)) wr (by rw [HFIN.out.2.1]; exact hO) HFIN.out.1 (fun p hp => by obtain ⟨a, h1, h2, rfl⟩ := hzm p hp; exact hTne _ (List.getElem_mem h2)) hP (hF.cell 0) (fun e => by have := (hO.lt _ e).1; have := HWB.out; omega) (fun e => by have := (hO.lt _ e).1; have := HWB.out; omega) (fun e => by have := (HVL.out _ e).2; omega) (fun p hp kk e => by obtain ⟨a, h1, h2, rfl⟩ := hzm p hp; exact HDS.out a h1 kk e) hz0 (by omega))
              have HOB := Lib.hid (fun kk e => hO.lt kk e)
              have HRR := Lib.hid (fun (Y : List (Value × List Int)) (hp : Y.Perm (q.zip T)) (hs : Y.Pairwise fun x y => plcN (n.map Ld.id) (hd0 x.2) ≤ plcN (n.map Ld.id) (hd0 y.2)) => (show Y.map Prod.snd = R from by
                have hpT : T.Perm (Y.map Prod.snd) := by
                  have h1 := (hp.map Prod.snd).symm
                  rwa [HFIN.out.2.2] at h1
                refine HR.out T (Y.map Prod.snd) (by rw [← HZ.out, ← HQL.out, hQ.len]) (fun a h1 h2 => ?_) hpT ⟨fun t ht => ?_, ?_⟩
                · have h3 : a < T0.length := by rw [HZ.out]; exact h1
                  have h4 := HPR.out a h2 h3
                  have h5 : T0[a] = (setV n lo j)[a] := by simp only [HZ.out]
                  rw [← h5]
                  exact h4
                · have htT := hpT.symm.subset ht
                  refine List.Pairwise.imp_of_mem (fun {x y} hx hy hxy => ?_) (hTs t htT)
                  exact (plcN_le (hTid t htT x hx) (hTid t htT y hy)).1 hxy
                · refine List.pairwise_map.2 (List.Pairwise.imp_of_mem (fun {x y} hx hy hxy => ?_) hs)
                  have hx2 := hpT.symm.subset (List.mem_map.2 ⟨x, hx, rfl⟩)
                  have hy2 := hpT.symm.subset (List.mem_map.2 ⟨y, hy, rfl⟩)
                  exact (plcN_le (hTid _ hx2 _ (head_mem (hTne _ hx2))) (hTid _ hy2 _ (head_mem (hTne _ hy2)))).1 hxy))
              have HIN := Lib.hid HFIN.out.1
              have HDZ : Hid (∀ p ∈ q.zip T, ∀ kk, p.1.ownBlock = some kk → (Value.slice A6 M c6).ownBlock ≠ some kk) := Lib.hid fun p hp kk e => by obtain ⟨a, h1, h2, rfl⟩ := hzm p hp; exact HDS.out a h1 kk e
              have HB := Lib.hid hB
              clear hQ hO hF hP hB hTl hTm hTs hTne hTid hql2 hz0 hzm hq0
              go_wp2_with fail
              refine (HSS.out).mono ?_
              rintro e w6 ⟨rfl, Y, hpY, hsY, hoY, hgY⟩
              have hiY : ∀ p ∈ Y, OwnZ w6 w2.heap.size p.1 p.2 := fun p hp => (HIN.out.own p (hpY.subset hp)).blk fun kk _ h6 h7 => hgY.block kk h6 (fun e => HDZ.out p (hpY.subset hp) kk h7 e.symm)
              obtain ⟨A9, c9, e9, hRW⟩ := comp_end hoY hiY
              have hYR := HRR.out Y hpY hsY
              rw [hYR] at hRW
              have hlen := congrArg List.length hYR
              rw [List.length_map] at hlen
              rw [hlen] at e9
              have HE9 := Lib.hid e9
              have HRW := Lib.hid hRW
              have HB6 := Lib.hid (HB.out.grown hgY HB.out.size (fun kk e => by have := (HOB.out kk e).1; have := HWB.out; omega))
              clear hpY hsY hoY hgY hiY e9 hRW hYR hlen HSS
              go_wp2_with fail
              go_ret
              exact ⟨A9, c9, by rw [HE9.out]; rfl, HRW.out, HB6.out⟩

theorem setV_nil (lo : Nat) : jnd (([] : List Ld).map Ld.id) (prN [] lo 0) = [] := rfl
end
section
open Go.RowKit Go.Shelf Go.Lib

set_option maxRecDepth 100000 in
set_option maxHeartbeats 1600000 in
theorem components_nil (A : Option Addr) (c : Nat) (lo : Int) (w : World) :
    Calls Tryz.prog 51 #[.slice A 0 c, .int .i64 lo] w (LstP [] w) := by
  have HSN := Lib.hid (fun (fv : Value) (W : World) => (show Calls Tryz.prog 81 #[.slice none 0 0, fv] W (fun e w' => e = .returned (.tuple #[]) ∧ W = w') from by
    have h := AnyF.slices_SortFunc_none { sortS with } none 0 fv W
    change Calls Tryz.prog 81 _ _ _ at h
    exact h.mono fun e w' ⟨a, b⟩ => ⟨a, b.symm⟩))
  have hmm := @run_makeMap Tryz.prog
  have hb1 := (Below.refl w.heap.size w).alloc (Nat.le_refl _) (.map #[] 0)
  have hwA : (w.alloc (.map #[] 0)).heap.size = w.heap.size + 1 := by rw [World.size_alloc]
  have hb2 := hb1.alloc (by rw [hwA]; omega) (.cells #[.map (some w.heap.size)] 56)
  have HB2 := Lib.hid hb2
  have HSZ := Lib.hid hb2.size
  clear hb1 hb2 hwA
  go_enter Tryz.func51, Tryz.ntmps51
  go_upto_region 3 with fail
  generalize (w.alloc (.map #[] 0)).alloc (.cells #[.map (some w.heap.size)] 56) = w2 at *
  clear hmm
  go_wp2_with fail
  go_loopw [5, 17] (fun vo vi wr => vo = .slice none 0 0 ∧ vi = .int .i64 0 ∧ w2 = wr) (fun _ _ _ => 0)
  case atStart => exact ⟨rfl, rfl, rfl⟩
  case round =>
    obtain ⟨rfl, rfl, rfl⟩ := hrel
    go_wp2_with fail
    go_loopw [5, 35] (fun vo vi wr => vo = .slice none 0 0 ∧ vi = .int .i64 0 ∧ w2 = wr) (fun _ _ _ => 0)
    case atStart => exact ⟨rfl, rfl, rfl⟩
    case round =>
      obtain ⟨rfl, rfl, rfl⟩ := hrel
      have hbX := (Below.refl w2.heap.size w2).alloc (Nat.le_refl _) (.cells #[.func (.func 79) #[] #[.pointer (some ⟨w.heap.size + 1, 0, none⟩)]] 33)
      have HBX := Lib.hid (HB2.out.trans (hbX.mono HSZ.out))
      clear hbX
      go_upto_region 15 with fail
      generalize w2.alloc (.cells #[.func (.func 79) #[] #[.pointer (some ⟨w.heap.size + 1, 0, none⟩)]] 33) = w3 at *
      go_wp2_with fail
      go_loopw [48] (fun vi wr => vi = .int .i64 0 ∧ w3 = wr) (fun _ _ => 0)
      case atStart => exact ⟨rfl, rfl⟩
      case round =>
        obtain ⟨rfl, rfl⟩ := hrel
        go_wp2_with fail
        refine (HSN.out _ _).mono ?_
        rintro e w5 ⟨rfl, rfl⟩
        go_wp2_with fail
        go_ret
        exact ⟨none, 0, rfl, fun h => absurd rfl h, HBX.out⟩
theorem components_any (A : Option Addr) (n : List Ld) (c lo : Nat) (w : World) (hn : Lds w w.heap.size A n) (hd : (n.map Ld.id).Nodup) (hI : ∀ x ∈ n, -9223372036854775808 ≤ x.id ∧ x.id ≤ 9223372036854775807) (hY : ∀ x ∈ n, ∀ y ∈ x.levels, (-9223372036854775808 ≤ y.left ∧ y.left ≤ 9223372036854775807) ∧ (-9223372036854775808 ≤ y.right ∧ y.right ≤ 9223372036854775807)) (hlv : ∀ x ∈ n, lo < x.levels.length ∧ x.levels.length ≤ 17) (h64 : n.length ≤ 64) :
    Calls Tryz.prog 51 #[.slice A n.length c, .int .i64 (lo : Int)] w (LstP (jnd (n.map Ld.id) (prN n lo n.length)) w) := by
  by_cases h0 : n = []
  · subst h0
    exact components_nil A c _ w
  · exact components_cons A n c lo w hn hd hI hY hlv h64 h0
/-- The components of the normal form are those of the links. -/
theorem prN_mem {l : List Nd} {k : List Ld} {lo m : Nat} {p : Int × Int} : p ∈ prN (nrmV l k (lo + m)) lo (srt l).length ↔ ∃ x ∈ srt l, p.1 = x.id ∧ (p.2 = x.id ∨ ∃ t : Nat, t < m ∧ (p.2 = (atV k x.id ((lo + t : Nat) : Int)).left ∨ p.2 = (atV k x.id ((lo + t : Nat) : Int)).right)) := by
  unfold prN
  rw [List.take_of_length_le (by rw [nrm_len]; exact Nat.le_refl _), List.mem_flatMap]
  unfold nrmV
  constructor
  · rintro ⟨y, hy, hp⟩
    obtain ⟨x, hx, rfl⟩ := List.mem_map.1 hy
    obtain ⟨z, hz, rfl⟩ := List.mem_map.1 hp
    refine ⟨x, hx, rfl, ?_⟩
    unfold arnV at hz
    rcases List.mem_cons.1 hz with rfl | hz
    · exact .inl rfl
    · obtain ⟨y2, hy2, hz⟩ := List.mem_flatMap.1 hz
      simp only at hy2
      obtain ⟨i, hi, rfl⟩ := List.mem_iff_getElem.1 hy2
      simp only [List.length_drop, List.length_map, List.length_range] at hi
      simp only [List.getElem_drop, List.getElem_map, List.getElem_range] at hz
      refine .inr ⟨i, by omega, ?_⟩
      simpa using hz
  · rintro ⟨x, hx, h1, h2⟩
    refine ⟨_, List.mem_map.2 ⟨x, hx, rfl⟩, List.mem_map.2 ⟨p.2, ?_, by rw [← h1]⟩⟩
    unfold arnV
    rcases h2 with h2 | ⟨t, ht, h2⟩
    · rw [h2]; exact List.mem_cons_self
    · refine List.mem_cons_of_mem _ (List.mem_flatMap.2 ⟨atV k x.id ((lo + t : Nat) : Int), ?_, by simpa using h2⟩)
      refine List.mem_iff_getElem.2 ⟨t, by simp; omega, ?_⟩
      simp
theorem prN_jnd (l : List Nd) (k : List Ld) (lo m : Nat) : jnd ((nrmV l k (lo + m)).map Ld.id) (prN (nrmV l k (lo + m)) lo (nrmV l k (lo + m)).length) = jnd (idsV l) (prsV (srt l) k lo m) := by
  have e : (nrmV l k (lo + m)).map Ld.id = idsV l := by
    unfold nrmV idsV
    rw [List.map_map]
    rfl
  rw [e, nrm_len]
  refine jnd_congr fun i j => ⟨fun h => h.more fun e he => ?_, fun h => edg_more (fun p hp _ _ => ?_) h⟩
  · obtain ⟨p, hp, h1, h2, rfl⟩ := edg_mem.1 he
    obtain ⟨x, hx, h3, h4⟩ := prN_mem.1 hp
    rcases h4 with h4 | ⟨t, ht, h4⟩
    · simp only [h3, h4]
      exact .refl _
    · exact .fore (.refl _) (edg_mem.2 ⟨p, prs_mem.2 ⟨x, hx, t, ht, h3, h4⟩, h1, h2, rfl⟩)
  · obtain ⟨x, hx, t, ht, h3, h4⟩ := prs_mem.1 hp
    exact prN_mem.2 ⟨x, hx, h3, .inr ⟨t, ht, h4⟩⟩
theorem nrm_facts {l : List Nd} {k : List Ld} (hc : chkV l = 0) (hY : ∀ x ∈ k, ∀ y ∈ x.levels, (-9223372036854775808 ≤ y.left ∧ y.left ≤ 9223372036854775807) ∧ (-9223372036854775808 ≤ y.right ∧ y.right ≤ 9223372036854775807)) (n : Nat) :
    ((nrmV l k n).map Ld.id).Nodup ∧ (nrmV l k n).length ≤ 64 ∧ ∀ x ∈ nrmV l k n, (-9223372036854775808 ≤ x.id ∧ x.id ≤ 9223372036854775807) ∧ x.levels.length = n ∧ ∀ y ∈ x.levels, (-9223372036854775808 ≤ y.left ∧ y.left ≤ 9223372036854775807) ∧ (-9223372036854775808 ≤ y.right ∧ y.right ≤ 9223372036854775807) := by
  have e : (nrmV l k n).map Ld.id = idsV l := by
    unfold nrmV idsV
    rw [List.map_map]
    rfl
  refine ⟨by rw [e]; exact ids_nodup hc, by rw [nrm_len]; exact srt_le hc, fun x hx => ?_⟩
  unfold nrmV at hx
  obtain ⟨y, hy, rfl⟩ := List.mem_map.1 hx
  refine ⟨(wide_srt hc y hy).1, by simp, fun z hz => ?_⟩
  obtain ⟨t, _, rfl⟩ := List.mem_map.1 hz
  exact atV_wide hY _ _
set_option maxRecDepth 100000 in
set_option maxHeartbeats 800000 in
theorem icomps_any (A A2 : Option Addr) (l : List Nd) (k : List Ld) (c c2 : Nat) (h : Int) (w : World) (hl : Nds w w.heap.size A l) (hk : Lds w w.heap.size A2 k) (hI : ∀ x ∈ k, -9223372036854775808 ≤ x.id ∧ x.id ≤ 9223372036854775807) (hkn : k.length ≤ maxLen) (hY : ∀ x ∈ k, ∀ y ∈ x.levels, (-9223372036854775808 ≤ y.left ∧ y.left ≤ 9223372036854775807) ∧ (-9223372036854775808 ≤ y.right ∧ y.right ≤ 9223372036854775807)) (hwd : ∀ x ∈ l, x.word < 4294967296) :
    Calls Tryz.prog 24 #[.slice A l.length c, .slice A2 k.length c2, .int .i64 h] w (LstP (cmpV l k h) w) := by
  have HN := Lib.hid (normal_any A A2 l k c c2 h w hl hk hI hkn hwd)
  have HC : Hid (∀ (W : World) (A3 : Option Addr) (c3 : Nat), Lds W W.heap.size A3 (nrmR l k h) → Calls Tryz.prog 51 #[.slice A3 (nrmR l k h).length c3, .int .i64 h] W (LstP (cmpV l k h) W)) := Lib.hid fun W A3 c3 h3 => by
    by_cases hh : chkV l = 0 ∧ lvB h = true
    · have h2 : 0 ≤ h ∧ h ≤ 16 := by simpa [lvB] using hh.2
      obtain ⟨m, rfl⟩ := Int.eq_ofNat_of_zero_le h2.1
      have e : nrmR l k (m : Int) = nrmV l k (m + 1) := by unfold nrmR; rw [if_pos hh, show ((m : Int) + 1).toNat = m + 1 by omega]
      have e2 : cmpV l k (m : Int) = jnd ((nrmV l k (m + 1)).map Ld.id) (prN (nrmV l k (m + 1)) m (nrmV l k (m + 1)).length) := by
        unfold cmpV
        rw [if_pos hh, prN_jnd, show ((m : Int)).toNat = m by omega]
      rw [e] at h3 ⊢
      rw [e2]
      obtain ⟨f1, f2, f3⟩ := nrm_facts (k := k) hh.1 hY (m + 1)
      exact components_any A3 _ c3 m W h3 f1 (fun x hx => (f3 x hx).1) (fun x hx => (f3 x hx).2.2) (fun x hx => by have := (f3 x hx).2.1; omega) f2
    · have e : nrmR l k h = [] := by unfold nrmR; rw [if_neg hh]
      have e2 : cmpV l k h = [] := by unfold cmpV; rw [if_neg hh]
      rw [e, e2]
      exact components_nil A3 c3 h W
  generalize nrmR l k h = R at *
  generalize cmpV l k h = Z at *
  obtain ⟨KN, hKN⟩ : ∃ KN, KN = k.length := ⟨_, rfl⟩
  obtain ⟨LN, hLN⟩ : ∃ LN, LN = l.length := ⟨_, rfl⟩
  rw [← hKN, ← hLN] at HN ⊢
  clear hl hk hI hkn hY hwd hKN hLN
  go_enter Tryz.func24, Tryz.ntmps24
  go_wp2_with fail
  refine (HN.out).mono ?_
  rintro e w1 ⟨v, rfl, ho, hb1⟩
  obtain ⟨A3, c3, hv, _, _, hr⟩ := ho.read
  have HC1 := Lib.hid (HC.out w1 A3 c3 hr)
  have HB1 := Lib.hid hb1
  obtain ⟨RN, hRN⟩ : ∃ RN, RN = R.length := ⟨_, rfl⟩
  rw [← hRN] at hv HC1
  subst hv
  clear ho hr hb1 hRN HC
  go_wp2_with fail
  refine (HC1.out).mono ?_
  rintro e w2 ⟨A4, c4, rfl, hrw, hb2⟩
  have HB2 := Lib.hid (HB1.out.trans (hb2.mono HB1.out.size))
  have HRW := Lib.hid hrw
  obtain ⟨ZN, hZN⟩ : ∃ ZN, ZN = Z.length := ⟨_, rfl⟩
  have HZN := Lib.hid hZN
  rw [← hZN]
  clear hb2 hrw hZN
  go_wp2_with fail
  go_ret
  exact ⟨A4, c4, by rw [HZN.out]; rfl, HRW.out, HB2.out⟩
set_option maxRecDepth 100000 in
set_option maxHeartbeats 800000 in
theorem iconn_any (A A2 : Option Addr) (l : List Nd) (k : List Ld) (c c2 : Nat) (w : World) (hl : Nds w w.heap.size A l) (hk : Lds w w.heap.size A2 k) (hI : ∀ x ∈ k, -9223372036854775808 ≤ x.id ∧ x.id ≤ 9223372036854775807) (hkn : k.length ≤ maxLen) (hY : ∀ x ∈ k, ∀ y ∈ x.levels, (-9223372036854775808 ≤ y.left ∧ y.left ≤ 9223372036854775807) ∧ (-9223372036854775808 ≤ y.right ∧ y.right ≤ 9223372036854775807)) (hwd : ∀ x ∈ l, x.word < 4294967296) :
    Calls Tryz.prog 28 #[.slice A l.length c, .slice A2 k.length c2] w (BoolN (conV l k) w) := by
  by_cases hc : chkV l = 0
  · have HC := Lib.hid ((check_any A l c w hl hwd).mono fun e w' h => (⟨by rw [h.1, hc], h.2⟩ : e = .returned (.int .i64 0) ∧ Below w.heap.size w w'))
    have HN := Lib.hid (fun (W : World) (j : Below w.heap.size w W) => normal_ok A A2 l k c c2 16 W ((hl.below j).more j.size) ((hk.below j).more j.size) hI hkn hc (Nat.le_refl _))
    obtain ⟨f1, f2, f3⟩ := nrm_facts (k := k) hc hY 17
    have HCC := Lib.hid (fun (W : World) (A3 : Option Addr) (c3 : Nat) (h3 : Lds W W.heap.size A3 (nrmV l k 17)) => components_any A3 _ c3 0 W h3 f1 (fun x hx => (f3 x hx).1) (fun x hx => (f3 x hx).2.2) (fun x hx => by have := (f3 x hx).2.1; omega) f2)
    have HE : Hid (conV l k = decide ((jnd ((nrmV l k 17).map Ld.id) (prN (nrmV l k 17) 0 (nrmV l k 17).length)).length ≤ 1)) := Lib.hid (by
      have h3 := prN_jnd l k 0 17
      rw [show (0 : Nat) + 17 = 17 from rfl] at h3
      unfold conV
      rw [h3, prs_srt, decide_eq_true hc, Bool.true_and])
    have e16 : (16 + 1 : Nat) = 17 := rfl
    rw [show ((16 : Nat) : Int) = 16 from rfl] at HN
    rw [show ((0 : Nat) : Int) = 0 from rfl] at HCC
    generalize conV l k = Z at *
    generalize jnd ((nrmV l k 17).map Ld.id) (prN (nrmV l k 17) 0 (nrmV l k 17).length) = J at *
    simp only [e16] at HN
    generalize nrmV l k 17 = R at *
    obtain ⟨KN, hKN⟩ : ∃ KN, KN = k.length := ⟨_, rfl⟩
    obtain ⟨LN, hLN⟩ : ∃ LN, LN = l.length := ⟨_, rfl⟩
    rw [← hLN] at HC
    rw [← hKN, ← hLN] at HN ⊢
    clear hl hk hI hkn hY hwd hKN hLN hc e16 f1 f2 f3
    go_enter Tryz.func28, Tryz.ntmps28
    go_wp2_with fail
    refine (HC.out).mono ?_
    rintro e w1 ⟨rfl, hb1⟩
    have HB1 := Lib.hid hb1
    clear hb1 HC
    go_wp2_with fail
    refine (HN.out _ HB1.out).mono ?_
    rintro e w2 ⟨v, rfl, ho, hb2⟩
    obtain ⟨A3, c3, hv, _, _, hr⟩ := ho.read
    have HC1 := Lib.hid (HCC.out w2 A3 c3 hr)
    have HB2 := Lib.hid (HB1.out.trans (hb2.mono HB1.out.size))
    obtain ⟨RN, hRN⟩ : ∃ RN, RN = R.length := ⟨_, rfl⟩
    rw [← hRN] at hv HC1
    subst hv
    clear ho hr hb2 hRN HCC HN HB1
    go_wp2_with fail
    refine (HC1.out).mono ?_
    rintro e w3 ⟨A4, c4, rfl, _, hb3⟩
    have HB3 := Lib.hid (HB2.out.trans (hb3.mono HB2.out.size))
    obtain ⟨JN, hJN⟩ : ∃ JN, JN = J.length := ⟨_, rfl⟩
    rw [← hJN] at HE ⊢
    clear hb3 hJN HC1
    by_cases hj : JN ≤ 1
    · have HZ : Hid (Z = true) := Lib.hid (by rw [HE.out, decide_eq_true hj])
      have hj2 : (JN : Int) ≤ 1 := by omega
      clear hj
      go_wp2_with fail
      go_ret
      exact ⟨ret_bool HZ.out.symm, HB3.out⟩
    · have HZ : Hid (Z = false) := Lib.hid (by rw [HE.out, decide_eq_false hj])
      have hj2 : ¬ ((JN : Int) ≤ 1) := by omega
      clear hj
      go_wp2_with fail
      go_ret
      exact ⟨ret_bool (by rw [HZ.out]; exact decide_eq_false (by omega)), HB3.out⟩
  · have HC := Lib.hid (check_any A l c w hl hwd)
    have hz : (chkV l == 0) = false := by simpa using hc
    have HE : Hid (conV l k = false) := Lib.hid (by unfold conV; rw [decide_eq_false hc, Bool.false_and])
    generalize conV l k = Z at *
    generalize chkV l = C at *
    clear hl hk hI hkn hY hwd hc
    go_enter Tryz.func28, Tryz.ntmps28
    go_wp2_with fail
    refine (HC.out).mono ?_
    rintro e w1 ⟨rfl, hb1⟩
    have HB1 := Lib.hid hb1
    clear hb1
    go_wp2_with fail
    go_ret
    exact ⟨ret_bool HE.out.symm, HB1.out⟩
end
end Go.Proofs.YteepijefbdbhoaaGreatDoor
