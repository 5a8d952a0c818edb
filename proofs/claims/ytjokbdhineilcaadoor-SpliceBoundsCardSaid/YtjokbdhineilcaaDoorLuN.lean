/-
  Searches (plain): the number of hops on exact links. Conditions: the nodes are a roster.
  Bound (plain): at most the number of nodes, whatever their order, and words that are all equal. Conditions: the nodes are a roster.
  The example of chapter 8: what the package's functions answer. Condition: the table of trailing zeros lies as its initialiser lays it.
  Searches: what the statements of chapter 8 need of exact links (plain). Conditions: the nodes are a roster.
-/
import Derived.Test.YtjokbdhineilcaaDoorLuA
import Derived.Test.YtjokbdhineilcaaDoorLuC
import Derived.Test.YtjokbdhineilcaaDoorKhV
import Derived.Test.YtjokbdhineilcaaDoorLuH
import Derived.Test.YtjokbdhineilcaaDoorLmG
import Derived.Test.YtjokbdhineilcaaDoorKwL
namespace Go.Proofs.YtjokbdhineilcaaDoor
section
open Go.RowKit


/-! the number of hops on exact links -/
/-- The two cuts of the nodes that are beyond u, up to the key. -/
def sgA (r : Bool) (q : ByteArray) (u y : Nd) : Bool := if r then kl u.key y.key else kl q y.key
def sgB (r : Bool) (q : ByteArray) (u y : Nd) : Bool := if r then kl q y.key else !kl y.key u.key
theorem sg_eq (r : Bool) (q : ByteArray) (u y : Nd) : (sgA r q u y && !sgB r q u y) = (far r u y && (kl q y.key == !r)) := by
  unfold sgA sgB far
  cases r <;> cases kl q y.key <;> cases kl u.key y.key <;> cases kl y.key u.key <;> rfl
theorem sgA_up (r : Bool) (q : ByteArray) (u : Nd) {C : List Nd} (h : Asc C) : C.Pairwise fun x y => sgA r q u x = true → sgA r q u y = true :=
  h.imp fun {a b} hab => by
    unfold sgA
    cases r with
    | true => exact fun k => kl_trans k hab
    | false => exact fun k => kl_trans k hab
theorem sgB_up (r : Bool) (q : ByteArray) (u : Nd) {C : List Nd} (h : Asc C) : C.Pairwise fun x y => sgB r q u x = true → sgB r q u y = true :=
  h.imp fun {a b} hab => by
    unfold sgB
    cases r with
    | true => exact fun k => kl_trans k hab
    | false =>
      intro k
      simp only [Bool.false_eq_true, if_false, Bool.not_eq_true'] at k ⊢
      cases hb : kl b.key u.key with
      | false => rfl
      | true => rw [kl_trans hab hb] at k; cases k
def segV (r : Bool) (q : ByteArray) (u : Nd) (C : List Nd) : Nat := (C.filter fun y => sgA r q u y && !sgB r q u y).length
theorem seg_run {r : Bool} {q : ByteArray} {u : Nd} {C : List Nd} (h : Asc C) {p : Nd → Bool} (hp : ∀ y ∈ C, far r u y = true → kl q y.key = (!r) → p y = false) : segV r q u C ≤ runF p C 0 0 :=
  run_seg (sgA_up r q u h) (sgB_up r q u h) fun y hy h1 h2 => by
    have := sg_eq r q u y
    rw [h1, h2] at this
    have h3 : (far r u y && (kl q y.key == !r)) = true := this.symm
    simp only [Bool.and_eq_true, beq_iff_eq] at h3
    exact hp y hy h3.1 h3.2
theorem seg_lt {r : Bool} {q : ByteArray} {u v : Nd} {C : List Nd} (hv : v ∈ C) (h1 : far r u v = true) (h2 : kl q v.key = !r) : segV r q v C < segV r q u C := by
  unfold segV
  refine flt_lt (fun x _ hx => ?_) ⟨v, hv, ?_, ?_⟩
  · rw [sg_eq] at hx ⊢
    simp only [Bool.and_eq_true, beq_iff_eq] at hx ⊢
    exact ⟨far_trans h1 hx.1, hx.2⟩
  · rw [sg_eq, h1, h2]; simp
  · rw [sg_eq, far_irrefl]; rfl
section
variable {l : List Nd} {k : List Ld} {q : ByteArray} {r : Bool} {x0 : Nd}
theorem in_grp (_hx : x0 ∈ l) {t : Nat} {y : Nd} : y ∈ grp (srt l) (t : Int) x0.word ↔ y ∈ l ∧ (t : Int) ≤ (cm y.word x0.word : Int) := by
  unfold grp
  rw [List.mem_filter, srt_mem]
  simp
theorem cm_into (hc : chkV l = 0) {t : Nat} {a b c : Nd} (ha : a ∈ l) (hb : b ∈ l) (hcl : c ∈ l) (h1 : (t : Int) ≤ (cm a.word b.word : Int)) (h2 : (t : Int) ≤ (cm b.word c.word : Int)) : (t : Int) ≤ (cm a.word c.word : Int) := by
  have := cm_tri (wide_of hc a ha).2 (wide_of hc b hb).2 (wide_of hc c hcl).2
  omega
theorem grp_asc (hc : chkV l = 0) (t : Nat) (v : Nat) : Asc (grp (srt l) (t : Int) v) := (ros_of hc).asc.sublist (grp_sub _ _ _)
/-- From a node of a list, the hops of its level and of those below. -/
theorem hops_le (hc : chkV l = 0) (hx0 : x0 ∈ l) {n : Nat} (hn : n ≤ 17) (he : ∀ z ∈ l, ∀ t : Nat, t < n → atV k z.id (t : Int) = nbL l z.id (t : Int)) :
    ∀ (x : Nd) (T : Nat), ∀ t, T = t + 1 → t < n → x ∈ grp (srt l) (t : Int) x0.word → (rtW l k q r x (t + 1)).1.length ≤ segV r q x (grp (srt l) (t : Int) x0.word) + sumR (runL l x0) t := by
  refine rt_ind (l := l) (k := k) (q := q) (r := r) (P := fun x T => ∀ t, T = t + 1 → t < n → x ∈ grp (srt l) (t : Int) x0.word → (rtW l k q r x (t + 1)).1.length ≤ segV r q x (grp (srt l) (t : Int) x0.word) + sumR (runL l x0) t) (fun x t e => by omega) (fun x T e i t ht htn hx => ?_) (fun x T y e i t ht htn hx => ?_)
  · obtain rfl : T = t := by omega
    rw [rt_down e]
    cases T with
    | zero => rw [rt_zero]; exact Nat.zero_le _
    | succ t =>
      obtain ⟨hxl, hxc⟩ := (in_grp hx0).1 hx
      have hx2 : x ∈ grp (srt l) (t : Int) x0.word := (in_grp hx0).2 ⟨hxl, by omega⟩
      have h1 := i t rfl (by omega) hx2
      have hno := (nx_exact hc (t := t + 1) (by omega) hxl (he x hxl (t + 1) htn)).1 e
      have h2 : segV r q x (grp (srt l) (t : Int) x0.word) ≤ runL l x0 t := by
        refine seg_run (grp_asc hc t _) fun y hy h3 h4 => ?_
        obtain ⟨hyl, hyc⟩ := (in_grp hx0).1 hy
        unfold pin
        rw [Bool.or_eq_false_iff]
        constructor
        · rw [decide_eq_false_iff_not]
          intro e2
          have : y = x0 := id_uniq (chkV_zero.1 hc).2.2 hyl hx0 e2
          subst this
          exact hno y hyl (by rw [cm_comm]; exact hxc) h3 h4
        · rw [decide_eq_false_iff_not]
          intro e2
          exact hno y hyl (cm_into hc hyl hx0 hxl (by omega) (by rw [cm_comm]; exact hxc)) h3 h4
      rw [sumR]
      omega
  · obtain rfl : T = t := by omega
    obtain ⟨hxl, hxc⟩ := (in_grp hx0).1 hx
    obtain ⟨hyl, _, _, hf, hk⟩ := nxO_some e
    have hyx := (nx_exact hc (t := T) (by omega) hxl (he x hxl T htn)).2 y e
    have hy : y ∈ grp (srt l) (T : Int) x0.word := (in_grp hx0).2 ⟨hyl, cm_into hc hyl hxl hx0 hyx hxc⟩
    have h1 := i T rfl htn hy
    have h2 := seg_lt (C := grp (srt l) (T : Int) x0.word) hy hf hk
    rw [rt_hop e]
    simp only [List.length_cons]
    omega
end
theorem sum_one_all : ∀ {L : List Nat}, (∀ x ∈ L, 1 ≤ x) → L.sum = L.length → ∀ x ∈ L, x = 1
  | [], _, _ => by simp
  | a :: L, h, hs => by
    have h1 := h a List.mem_cons_self
    have h2 : ∀ x ∈ L, 1 ≤ x := fun x hx => h x (List.mem_cons_of_mem _ hx)
    have h3 : ∀ {M : List Nat}, (∀ x ∈ M, 1 ≤ x) → M.length ≤ M.sum := by
      intro M hM
      induction M with
      | nil => simp
      | cons b M ih =>
        have := hM b List.mem_cons_self
        have := ih fun x hx => hM x (List.mem_cons_of_mem _ hx)
        simp; omega
    have h4 := h3 h2
    simp only [List.sum_cons, List.length_cons] at hs
    intro x hx
    rcases List.mem_cons.1 hx with rfl | hx
    · omega
    · exact sum_one_all h2 (by omega) x hx
/-- From the height on, a list of a level below the greatest one has one node. -/
theorem grp_solo {l : List Nd} (hc : chkV l = 0) {t : Nat} (ht : t < 16) (hh : hgtV l ≤ t) {x y : Nd} (hx : x ∈ l) (hy : y ∈ l) (hxy : (t : Int) ≤ (cm y.word x.word : Int)) : y = x := by
  have h1 := (height_level hc ht).2 hh
  have hlen : (srt l).length = l.length := (srt_srt l).1.length_eq
  have h2 : ((clsV (srt l) (t : Int)).map List.length).sum = ((clsV (srt l) (t : Int)).map List.length).length := by
    rw [cls_sum (by omega), List.length_map, h1, hlen]
  have hxs := srt_mem.2 hx
  have hm := grp_cls (srt_wd hc) (h := (t : Int)) (by omega) hxs
  have h3 := sum_one_all (L := (clsV (srt l) (t : Int)).map List.length) (fun n hn => by
    obtain ⟨c, hcm, rfl⟩ := List.mem_map.1 hn
    rw [clsV_in (by omega)] at hcm
    exact List.length_pos_iff.2 (cls_ne _ _ c hcm)) h2 _ (List.mem_map.2 ⟨_, hm, rfl⟩)
  have h4 : x ∈ grp (srt l) (t : Int) x.word := grp_self (by omega) hxs
  have h5 : y ∈ grp (srt l) (t : Int) x.word := (in_grp hx).2 ⟨hy, hxy⟩
  obtain ⟨z, hz⟩ := List.length_eq_one_iff.1 h3
  rw [hz] at h4 h5
  rw [List.mem_singleton.1 h4, List.mem_singleton.1 h5]
/-- On exact links of a height that is at least that of the nodes, a search takes at most as many hops as Bound says. -/
theorem rte_bound {l : List Nd} {k : List Ld} {q : ByteArray} (hc : chkV l = 0) {x : Nd} (hx : x ∈ l) {m : Nat} (hm : m ≤ 16) (hh : hgtV l ≤ m) (he : ∀ z ∈ l, ∀ t : Nat, t < m + 1 → atV k z.id (t : Int) = nbL l z.id (t : Int)) (h0 : ∀ z ∈ l, ∀ t : Nat, m + 1 ≤ t → atV k z.id (t : Int) = ⟨0, 0⟩) :
    (rteW l k q x).length ≤ bndR l x.id := by
  have hb : bndR l x.id = 1 + sumR (runL l x) 17 := by
    unfold bndR
    rw [if_pos ⟨hc, plc_mem hx⟩, fnd_self (chkV_zero.1 hc).2.2 hx]
  have hxg : x ∈ grp (srt l) (m : Int) x.word := grp_self (by omega) (srt_mem.2 hx)
  unfold rteW
  generalize (!kl q x.key) = r
  have h1 := hops_le (q := q) (r := r) hc hx (n := m + 1) (by omega) he x (m + 1) m rfl (by omega) hxg
  have h2 : segV r q x (grp (srt l) (m : Int) x.word) ≤ runL l x m := by
    refine seg_run (grp_asc hc m _) fun y hy h3 h4 => ?_
    obtain ⟨hyl, hyc⟩ := (in_grp hx).1 hy
    have hne : y ≠ x := fun e => by rw [e, far_irrefl] at h3; cases h3
    unfold pin
    rw [Bool.or_eq_false_iff]
    constructor
    · rw [decide_eq_false_iff_not]
      exact fun e2 => hne (id_uniq (chkV_zero.1 hc).2.2 hyl hx e2)
    · rw [decide_eq_false_iff_not]
      intro e2
      have := cm_le y.word x.word
      exact hne (grp_solo hc (t := m) (by omega) hh hx hyl hyc)
  have h3 : rtW l k q r x 17 = rtW l k q r x (m + 1) := rt_from hc (h0 x hx) 17 (by omega)
  have h4 : ∀ z, (lstO l k q r z).length ≤ 1 := fun z => by unfold lstO; split <;> simp
  have h5 := h4 (rtW l k q r x 17).2
  have h6 := sumR_mono (runL l x) (show m + 1 ≤ 17 by omega)
  have h7 : sumR (runL l x) (m + 1) = sumR (runL l x) m + runL l x m := rfl
  rw [List.length_append, h3, hb]
  rw [h3] at h5
  omega
theorem at_bld0 {l : List Nd} (hc : chkV l = 0) {n : Nat} (hn : n ≤ 17) {x : Nd} (hx : x ∈ l) {t : Nat} (ht : n ≤ t) : atV (bldV l n) x.id (t : Int) = ⟨0, 0⟩ := by
  unfold atV
  rw [bld_nb hc hn, find_map_id (srt_apart hc) (fun y => (List.range n).map fun (t : Nat) => nbL l y.id (t : Int)) (srt_mem.2 hx)]
  simp [ht]
theorem bld_bound {l : List Nd} {q : ByteArray} (hc : chkV l = 0) {x : Nd} (hx : x ∈ l) {m : Nat} (hm : m ≤ 16) (hh : hgtV l ≤ m) : (rteW l (bldV l (m + 1)) q x).length ≤ bndR l x.id :=
  rte_bound hc hx hm hh (fun _ hz _ ht => at_bld hc (by omega) hz ht) (fun _ hz _ ht => at_bld0 hc (by omega) hz ht)
theorem bld_owner {l : List Nd} {q : ByteArray} (hc : chkV l = 0) {x : Nd} (hx : x ∈ l) {m : Nat} (hm : m ≤ 16) : endV x.id (rteW l (bldV l (m + 1)) q x) = (ownV (srt l) q).id :=
  rte_owner hc hx fun z hz => at_bld hc (t := 0) (by omega) hz (by omega)
/-- The owner of the key of a node is the node. -/
theorem own_key {l : List Nd} (hc : chkV l = 0) {x : Nd} (hx : x ∈ l) : ownV (srt l) x.key = x := by
  obtain ⟨i, hi, rfl⟩ := List.getElem_of_mem (srt_mem.2 hx)
  have ha := (ros_of hc).asc
  have hb : abv (srt l) (srt l)[i].key = i + 1 := by
    refine abv_uniq (by omega) (fun j hj h => ?_) (fun j hj h => asc_at ha (show i < j by omega) hj)
    rcases Nat.lt_or_ge j i with g | g
    · exact kl_asymm (asc_at ha g hi)
    · obtain rfl : j = i := by omega
      exact kl_irrefl _
  unfold ownV
  rw [hb, Nat.add_sub_cancel, List.getElem?_eq_getElem hi]
  rfl
end
section
open Go.RowKit


/-! Bound -/
theorem grp_next (l : List Nd) (t v : Nat) : grp (srt l) ((t + 1 : Nat) : Int) v = (grp (srt l) (t : Int) v).filter fun y => decide (((t + 1 : Nat) : Int) ≤ (cm y.word v : Int)) := by
  unfold grp
  rw [List.filter_filter]
  refine List.filter_congr fun y _ => ?_
  by_cases h : ((t + 1 : Nat) : Int) ≤ (cm y.word v : Int)
  · have h2 : (t : Int) ≤ (cm y.word v : Int) := by omega
    rw [decide_eq_true h, decide_eq_true h2]
    rfl
  · rw [decide_eq_false h]
    rfl
theorem flt_not {α : Type} (p : α → Bool) (l : List α) : (l.filter p).length + (l.filter fun y => !p y).length = l.length := by
  induction l with
  | nil => rfl
  | cons a l ih => cases h : p a <;> simp [h] <;> omega
theorem run_step {l : List Nd} {x : Nd} (t : Nat) : runL l x t + (grp (srt l) ((t + 1 : Nat) : Int) x.word).length ≤ (grp (srt l) (t : Int) x.word).length := by
  have h1 := runF_le (pin x t) (grp (srt l) (t : Int) x.word) 0 0
  have h2 := flt_not (fun y : Nd => decide (((t + 1 : Nat) : Int) ≤ (cm y.word x.word : Int))) (grp (srt l) (t : Int) x.word)
  rw [← grp_next] at h2
  have h3 : ((grp (srt l) (t : Int) x.word).filter fun y => !pin x t y).length ≤ ((grp (srt l) (t : Int) x.word).filter fun y => !decide (((t + 1 : Nat) : Int) ≤ (cm y.word x.word : Int))).length := flt_le fun y _ hy => by
    unfold pin at hy
    simp only [Bool.not_or, Bool.and_eq_true] at hy
    exact hy.2
  unfold runL
  omega
theorem run_sum {l : List Nd} {x : Nd} : ∀ T : Nat, sumR (runL l x) T + (grp (srt l) (T : Int) x.word).length ≤ (srt l).length
  | 0 => by
    have : grp (srt l) ((0 : Nat) : Int) x.word = srt l := grp_zero _ _
    rw [this, sumR]
    omega
  | T + 1 => by
    have h1 := run_sum (l := l) (x := x) T
    have h2 := run_step (l := l) (x := x) T
    rw [sumR]
    omega
theorem bnd_le {l : List Nd} (hc : chkV l = 0) {x : Nd} (hx : x ∈ l) : 1 ≤ bndR l x.id ∧ bndR l x.id ≤ l.length := by
  have hb : bndR l x.id = 1 + sumR (runL l x) 17 := by
    unfold bndR
    rw [if_pos ⟨hc, plc_mem hx⟩, fnd_self (chkV_zero.1 hc).2.2 hx]
  have h1 := run_sum (l := l) (x := x) 16
  have hxg : x ∈ grp (srt l) ((16 : Nat) : Int) x.word := grp_self (by omega) (srt_mem.2 hx)
  have h2 : runL l x 16 + 1 ≤ (grp (srt l) ((16 : Nat) : Int) x.word).length := by
    have h3 := runF_le (pin x 16) (grp (srt l) ((16 : Nat) : Int) x.word) 0 0
    have h4 : ((grp (srt l) ((16 : Nat) : Int) x.word).filter fun y => !pin x 16 y).length < ((grp (srt l) ((16 : Nat) : Int) x.word).filter fun _ => true).length := flt_lt (fun _ _ _ => rfl) ⟨x, hxg, rfl, by simp [pin]⟩
    rw [List.filter_eq_self.2 (fun _ _ => rfl)] at h4
    unfold runL
    omega
  have hlen : (srt l).length = l.length := (srt_srt l).1.length_eq
  have h5 : sumR (runL l x) 17 = sumR (runL l x) 16 + runL l x 16 := rfl
  rw [hb]
  omega
theorem fnd_perm {l m : List Nd} (hp : l.Perm m) (hc : chkV m = 0) (id : Int) : (plc l id < l.length ↔ plc m id < m.length) ∧ (plc l id < l.length → fndV l id = fndV m id) := by
  have hcl : chkV l = 0 := chkV_perm hp.symm hc
  have h1 : plc l id < l.length ↔ plc m id < m.length := by
    rw [plc_found, plc_found]
    exact ⟨fun ⟨x, hx, e⟩ => ⟨x, hp.mem_iff.1 hx, e⟩, fun ⟨x, hx, e⟩ => ⟨x, hp.mem_iff.2 hx, e⟩⟩
  refine ⟨h1, fun h => ?_⟩
  obtain ⟨x, hx, rfl⟩ := plc_found.1 h
  rw [fnd_self (chkV_zero.1 hcl).2.2 hx, fnd_self (chkV_zero.1 hc).2.2 (hp.mem_iff.1 hx)]
theorem bnd_perm {l m : List Nd} (hp : l.Perm m) (hc : chkV m = 0) (id : Int) : bndR l id = bndR m id := by
  have hcl : chkV l = 0 := chkV_perm hp.symm hc
  obtain ⟨h1, h2⟩ := fnd_perm hp hc id
  have h3 : srt l = srt m := srt_perm hp (chkV_zero.1 hc).2.2
  unfold bndR
  by_cases h : plc l id < l.length
  · rw [if_pos ⟨hcl, h⟩, if_pos ⟨hc, h1.1 h⟩, h2 h]
    have : runL l (fndV m id) = runL m (fndV m id) := by
      funext t
      unfold runL
      rw [h3]
    rw [this]
  · rw [if_neg fun e => h e.2, if_neg fun e => h (h1.2 e.2)]
theorem runF_past2 (p : Nd → Bool) : ∀ (A D : List Nd) (n b : Nat), n ≤ b → (∀ y ∈ A, p y = false) → runF p (A ++ D) n b = runF p D (n + A.length) (max b (n + A.length))
  | [], D, n, b, h, _ => by
    rw [List.nil_append, List.length_nil, Nat.add_zero, Nat.max_eq_left h]
  | y :: A, D, n, b, h, hp => by
    have e := hp y List.mem_cons_self
    have i := runF_past2 p A D (n + 1) (max b (n + 1)) (Nat.le_max_right _ _) fun z hz => hp z (List.mem_cons_of_mem _ hz)
    rw [List.cons_append, runF, e]
    simp only [Bool.false_eq_true, if_false, List.length_cons]
    rw [i]
    congr 1 <;> omega
theorem runF_mid (p : Nd → Bool) (A B : List Nd) (x : Nd) (hA : ∀ y ∈ A, p y = false) (hx : p x = true) (hB : ∀ y ∈ B, p y = false) : runF p (A ++ x :: B) 0 0 = max A.length B.length := by
  rw [runF_past2 p A (x :: B) 0 0 (Nat.le_refl _) hA, runF, hx]
  have h := runF_past2 p B [] 0 (max (max 0 (0 + A.length)) 0) (Nat.zero_le _) hB
  rw [List.append_nil] at h
  simp only [if_true]
  rw [h, runF]
  omega
/-- The nodes with one word. -/
def fivV (l : List Nd) : List Nd := l.map fun x => ⟨x.id, x.key, 5⟩
theorem fiv_chk {l : List Nd} (hc : chkV l = 0) : chkV (fivV l) = 0 := by
  obtain ⟨h1, h2, h3⟩ := chkV_zero.1 hc
  refine chkV_zero.2 ⟨by unfold fivV; rw [List.length_map]; exact h1, ?_, ?_⟩
  · rw [List.all_eq_true] at h2 ⊢
    intro x hx
    obtain ⟨y, hy, rfl⟩ := List.mem_map.1 hx
    have := h2 y hy
    unfold Nd.ok at this ⊢
    simp only [Bool.and_eq_true, decide_eq_true_eq] at this ⊢
    exact ⟨⟨⟨this.1.1.1, this.1.1.2⟩, this.1.2⟩, by omega⟩
  · unfold fivV
    rw [List.pairwise_map]
    exact h3.imp fun h => ⟨h.1, h.2⟩
theorem bnd_five {l : List Nd} (hc : chkV l = 0) {x : Nd} (hx : x ∈ l) : rkB (fivV l) x.id = true ∧ bndR (fivV l) x.id = 1 + max (rkN (fivV l) x.id) (l.length - 1 - rkN (fivV l) x.id) := by
  have hcf := fiv_chk hc
  have hxf : (⟨x.id, x.key, 5⟩ : Nd) ∈ fivV l := List.mem_map.2 ⟨x, hx, rfl⟩
  generalize hz : (⟨x.id, x.key, 5⟩ : Nd) = z at hxf
  have hid : x.id = z.id := by rw [← hz]
  rw [hid]
  have hw : ∀ y ∈ srt (fivV l), y.word = 5 := fun y hy => by
    obtain ⟨u, _, rfl⟩ := List.mem_map.1 (srt_mem.1 hy)
    rfl
  have hlen : (srt (fivV l)).length = l.length := by rw [(srt_srt _).1.length_eq]; unfold fivV; rw [List.length_map]
  have hzs := srt_mem.2 hxf
  have hzw : z.word = 5 := hw z hzs
  have hp := plc_mem hzs
  have hps := plc_self (srt_apart hcf) hzs
  have hrk : rkB (fivV l) z.id = true := by unfold rkB; simp [hcf, hp]
  refine ⟨hrk, ?_⟩
  have hrn : rkN (fivV l) z.id = plc (srt (fivV l)) z.id := by unfold rkN; rw [if_pos hrk]
  have hb : bndR (fivV l) z.id = 1 + sumR (runL (fivV l) z) 17 := by
    unfold bndR
    rw [if_pos ⟨hcf, plc_mem hxf⟩, fnd_self (chkV_zero.1 hcf).2.2 hxf]
  have hg : ∀ t : Nat, t ≤ 16 → grp (srt (fivV l)) (t : Int) z.word = srt (fivV l) := fun t ht => by
    unfold grp
    rw [List.filter_eq_self]
    intro y hy
    rw [hw y hy, hzw, cm_self]
    simp; omega
  have hlow : ∀ t : Nat, t < 16 → runL (fivV l) z t = 0 := fun t ht => by
    unfold runL
    rw [hg t (by omega)]
    have h1 := runF_le (pin z t) (srt (fivV l)) 0 0
    have h2 : (srt (fivV l)).filter (fun y => !pin z t y) = [] := List.filter_eq_nil_iff.2 fun y hy => by
      unfold pin
      rw [hw y hy, hzw, cm_self]
      simp; omega
    rw [h2, List.length_nil] at h1
    omega
  have hs16 : ∀ T : Nat, T ≤ 16 → sumR (runL (fivV l) z) T = 0 := by
    intro T
    induction T with
    | zero => intro _; rfl
    | succ T ih =>
      intro hT
      rw [sumR, ih (by omega), hlow T (by omega)]
  have h16 : runL (fivV l) z 16 = max (plc (srt (fivV l)) z.id) (l.length - 1 - plc (srt (fivV l)) z.id) := by
    unfold runL
    rw [hg 16 (Nat.le_refl _)]
    have hap : (srt (fivV l)).Pairwise Nd.apart := srt_apart hcf
    clear hrk hb hlow hs16 hrn hw hg hxf
    generalize srt (fivV l) = S at *
    obtain ⟨p, hp, hps, hpe⟩ : ∃ (p : Nat) (hp : p < S.length), S[p] = z ∧ plc S z.id = p := ⟨_, hp, hps, rfl⟩
    rw [hpe]
    have hS2 : S = S.take p ++ z :: S.drop (p + 1) := by
      rw [← hps, ← List.drop_eq_getElem_cons hp, List.take_append_drop]
    have hpin : ∀ y : Nd, y.id ≠ z.id → pin z 16 y = false := fun y h => pin_out h
    have hne : ∀ j (hj : j < S.length), j ≠ p → S[j].id ≠ z.id := fun j hj hjp e => by
      rw [← hps] at e
      exact hjp (apart_at hap hj hp e)
    have h1 := runF_mid (pin z 16) (S.take p) (S.drop (p + 1)) z (fun y hy => hpin y (by
      obtain ⟨j, hj, rfl⟩ := List.getElem_of_mem hy
      rw [List.length_take] at hj
      rw [List.getElem_take]
      exact hne j (by omega) (by omega))) (by simp [pin]) (fun y hy => hpin y (by
      obtain ⟨j, hj, rfl⟩ := List.getElem_of_mem hy
      rw [List.length_drop] at hj
      rw [List.getElem_drop]
      exact hne _ (by omega) (by omega)))
    rw [← hS2, List.length_take, List.length_drop] at h1
    rw [h1]
    omega
  have h17 : sumR (runL (fivV l) z) 17 = sumR (runL (fivV l) z) 16 + runL (fivV l) z 16 := rfl
  rw [hb, h17, hs16 16 (Nat.le_refl _), h16, hrn, Nat.zero_add]
end
section
open Go.RowKit


def four8 : List Nd := [⟨1, ⟨#[97]⟩, 0⟩, ⟨2, ⟨#[98]⟩, 1⟩, ⟨3, ⟨#[99]⟩, 2⟩, ⟨4, ⟨#[100]⟩, 3⟩]
theorem f_ok : chkV four8 = 0 := by
  refine chkV_zero.2 ⟨by decide, by decide +kernel, ?_⟩
  simp [Nd.apart, four8]
theorem f_srt : srt four8 = four8 := (srt_of ⟨List.Perm.refl _, by decide +kernel⟩ (chkV_zero.1 f_ok).2.2).symm
theorem f_bld : bldV four8 3 = [⟨1, [⟨0, 2⟩, ⟨0, 3⟩, ⟨0, 0⟩]⟩, ⟨2, [⟨1, 3⟩, ⟨0, 4⟩, ⟨0, 0⟩]⟩, ⟨3, [⟨2, 4⟩, ⟨1, 0⟩, ⟨0, 0⟩]⟩, ⟨4, [⟨3, 0⟩, ⟨2, 0⟩, ⟨0, 0⟩]⟩] := by
  unfold bldV
  rw [f_srt]
  decide +kernel
theorem f_rte : rteE four8 1 ⟨#[100]⟩ = 0 ∧ rteR four8 (bldV four8 3) 1 ⟨#[100]⟩ = [⟨1, 3, 1⟩, ⟨3, 4, 0⟩] := by
  have h1 : rteE four8 1 ⟨#[100]⟩ = 0 := rteE_ok f_ok (by decide +kernel) (by decide +kernel)
  refine ⟨h1, ?_⟩
  rw [rteR_ok h1, f_bld]
  decide +kernel
theorem f_run : runR four8 1 0 = 1 := by
  unfold runR runL
  rw [if_pos ⟨f_ok, by decide, by decide +kernel⟩, f_srt]
  decide +kernel
theorem f_bnd : bndR four8 1 = 3 := by
  unfold bndR
  rw [if_pos ⟨f_ok, by decide +kernel⟩]
  have h : runL four8 (fndV four8 1) = fun t => runF (pin (fndV four8 1) t) (grp four8 (t : Int) (fndV four8 1).word) 0 0 := by
    funext t
    unfold runL
    rw [f_srt]
  rw [h]
  decide +kernel
theorem atV_wide8 {k : List Ld} (h : ∀ x ∈ k, ∀ y ∈ x.levels, (-9223372036854775808 ≤ y.left ∧ y.left ≤ 9223372036854775807) ∧ (-9223372036854775808 ≤ y.right ∧ y.right ≤ 9223372036854775807)) (i t : Int) : (-9223372036854775808 ≤ (atV k i t).left ∧ (atV k i t).left ≤ 9223372036854775807) ∧ (-9223372036854775808 ≤ (atV k i t).right ∧ (atV k i t).right ≤ 9223372036854775807) := by
  have hz : ((-9223372036854775808 : Int) ≤ (⟨0, 0⟩ : Lk).left ∧ (⟨0, 0⟩ : Lk).left ≤ 9223372036854775807) ∧ (-9223372036854775808 ≤ (⟨0, 0⟩ : Lk).right ∧ (⟨0, 0⟩ : Lk).right ≤ 9223372036854775807) := by decide
  unfold atV
  split
  · exact hz
  · rename_i x hx
    have hm := List.mem_of_find?_eq_some hx
    split
    · cases hg : x.levels[t.toNat]? with
      | none => exact hz
      | some y => exact h x hm y (List.mem_of_getElem? hg)
    · exact hz
theorem eq_hp (a b : Hp) (w : World) : (Op.equalIn 10000 99 (.agg #[.int .i64 a.src, .int .i64 a.dst, .int .i64 a.lvl]) (.agg #[.int .i64 b.src, .int .i64 b.dst, .int .i64 b.lvl])).run Tryd.prog w = .ok (decide (a = b)) w := by
  rw [run_equalIn_agg w 9999 99 _ _ (by kernel_rfl) (by kernel_rfl)]
  obtain ⟨a1, a2, a3⟩ := a
  obtain ⟨b1, b2, b3⟩ := b
  by_cases h1 : a1 = b1 <;> by_cases h2 : a2 = b2 <;> by_cases h3 : a3 = b3 <;> simp [go_sem, Tryd.underlying99, Tryd.underlying3, h1, h2, h3]
theorem eql_hp (a b : Hp) (w : World) : (binOp .eql 99 (.agg #[.int .i64 a.src, .int .i64 a.dst, .int .i64 a.lvl]) (.agg #[.int .i64 b.src, .int .i64 b.dst, .int .i64 b.lvl])).run Tryd.prog w = .ok (.bool (decide (a = b))) w := by
  rw [run_eql_struct, eq_hp]
  rfl
end
section
open Go.RowKit


theorem DBlk.step {w w' : World} {gt g : Nat} {H : Nat → Nat} {ls : List Ld} {r : List (Int × Value)} (h : DBlk w g H ls r) (k : TStep w gt w') (hg : gt < g) : DBlk w' g H ls r :=
  ⟨(k.2.block g h.outer.lt (fun e => by have := Option.some.inj e; omega)).trans h.outer, fun j hj => ⟨(h.inner j hj).1, (k.2.block (H j) (h.inner j hj).2.lt (fun e => by have := Option.some.inj e; have := (h.inner j hj).1; omega)).trans (h.inner j hj).2⟩, h.mono⟩
theorem own_B {l : List Nd} (hc : chkV l = 0) (h0 : l ≠ []) (q : ByteArray) : owB l q = vk q := by
  unfold owB
  have := List.length_pos_iff.2 h0
  simp [hc, this]
theorem own_N {l : List Nd} (hc : chkV l = 0) (h0 : l ≠ []) {q : ByteArray} (hv : vk q = true) : owN l q = ownV (srt l) q := by
  unfold owN
  rw [if_pos (by rw [own_B hc h0]; exact hv)]
/-- A search on exact links of a height that is at least that of the nodes. -/
theorem ends_of {l : List Nd} (hc : chkV l = 0) (h0 : l ≠ []) {m : Nat} (hm : m ≤ 16) (hh : hgtV l ≤ m) {x : Nd} (hx : x ∈ l) (q : ByteArray) :
    (owB l q = false ∧ rteE l x.id q = 1) ∨ (owB l q = true ∧ rteE l x.id q = 0 ∧ endV x.id (rteR l (bldV l (m + 1)) x.id q) = (owN l q).id ∧ (rteR l (bldV l (m + 1)) x.id q).length ≤ bndR l x.id) := by
  rw [own_B hc h0]
  cases hv : vk q with
  | false => exact .inl ⟨rfl, rteE_inv fun e => by rw [hv] at e; cases e.2⟩
  | true =>
    have hE := rteE_ok (l := l) (id := x.id) hc hv (plc_mem hx)
    refine .inr ⟨rfl, hE, ?_, ?_⟩
    · rw [rteR_ok hE, fnd_self (chkV_zero.1 hc).2.2 hx, own_N hc h0 hv]
      exact bld_owner hc hx hm
    · rw [rteR_ok hE, fnd_self (chkV_zero.1 hc).2.2 hx]
      exact bld_bound hc hx hm hh
/-- What Build gives, as a search reads it. -/
theorem bld_wide {l : List Nd} (hc : chkV l = 0) {n : Nat} : (∀ x ∈ bldV l n, -9223372036854775808 ≤ x.id ∧ x.id ≤ 9223372036854775807) ∧ (∀ (i : Int) (t : Nat), I64 (atV (bldV l n) i (t : Int)).left ∧ I64 (atV (bldV l n) i (t : Int)).right) := by
  have h1 : ∀ x ∈ bldV l n, -9223372036854775808 ≤ x.id ∧ x.id ≤ 9223372036854775807 := fun x hx => by
    unfold bldV at hx
    obtain ⟨y, hy, rfl⟩ := List.mem_map.1 hx
    exact (wide_srt hc y hy).1
  have hid : ∀ (c : List Nd) (j : Nat), (∀ y ∈ c, y ∈ srt l) → -9223372036854775808 ≤ idAt c j ∧ idAt c j ≤ 9223372036854775807 := fun c j hs => by
    rcases Nat.lt_or_ge j c.length with h | h
    · rw [idAt_lt h]
      exact (wide_srt hc _ (hs _ (List.getElem_mem h))).1
    · rw [idAt_ge h]
      decide
  refine ⟨h1, fun i t => atV_wide8 (fun x hx y hy => ?_) i (t : Int)⟩
  unfold bldV at hx
  obtain ⟨z, _, rfl⟩ := List.mem_map.1 hx
  obtain ⟨s, _, rfl⟩ := List.mem_map.1 hy
  have hg : ∀ y ∈ grp (srt l) (s : Int) z.word, y ∈ srt l := fun y hy => (grp_sub _ _ _).subset hy
  constructor
  · have hl : (lnk (srt l) (s : Int) z).left = if plc (grp (srt l) (s : Int) z.word) z.id = 0 then 0 else idAt (grp (srt l) (s : Int) z.word) (plc (grp (srt l) (s : Int) z.word) z.id - 1) := rfl
    rw [hl]
    split
    · decide
    · exact hid _ _ hg
  · exact hid _ _ hg
end
end Go.Proofs.YtjokbdhineilcaaDoor
