/-
  Plain facts on links: the lists of a level, the links of a node in them, the map of a level, the height. No condition.
  Plain facts on links: neighbours are mutual, lists of a level, heights, another order, a node that is left out. No condition.
  linksAt of package ideal: the links of a level, in a map. Condition: the nodes can be read.
-/
import Derived.Test.YtjokbdhineilcaaGreatDoorLeA
import Derived.Test.YtjokbdhineilcaaGreatDoorLgG
import Derived.Test.YtjokbdhineilcaaGreatDoorKjA
import Derived.Test.YtjokbdhineilcaaGreatDoorKfA
namespace Go.Proofs.YtjokbdhineilcaaGreatDoor
section
open Go.RowKit

/-- The number of the node at a place; 0 where there is none. -/
def idAt (c : List Nd) (j : Nat) : Int := ((c[j]?).map Nd.id).getD 0
theorem idAt_lt {c : List Nd} {j : Nat} (h : j < c.length) : idAt c j = c[j].id := by simp [idAt, h]
theorem idAt_ge {c : List Nd} {j : Nat} (h : c.length ≤ j) : idAt c j = 0 := by simp [idAt, List.getElem?_eq_none h]
/-- The neighbours of the node at a place of a list. -/
def lkAt (c : List Nd) (j : Nat) : Lk := ⟨if j = 0 then 0 else idAt c (j - 1), idAt c (j + 1)⟩
/-- The links of a node of a sorted list at a level. -/
def lnk (s : List Nd) (h : Int) (x : Nd) : Lk := lkAt (grp s h x.word) (plc (grp s h x.word) x.id)
/-- A map from numbers to links: the last one that was put counts. -/
def mpOf (l : List (Int × Lk)) (i : Int) : Option Lk := (l.reverse.find? (fun p => p.1 == i)).map Prod.snd
theorem mpOf_nil (i : Int) : mpOf [] i = none := rfl
theorem mpOf_snoc (l : List (Int × Lk)) (p : Int × Lk) (i : Int) : mpOf (l ++ [p]) i = if i = p.1 then some p.2 else mpOf l i := by
  unfold mpOf
  rw [List.reverse_append]
  show (List.find? _ (p :: l.reverse)).map _ = _
  rw [List.find?_cons]
  by_cases h : i = p.1
  · subst h; simp
  · have h2 : (p.1 == i) = false := by simp; exact fun e => h e.symm
    rw [h2, if_neg h]
theorem mpOf_none {l : List (Int × Lk)} {i : Int} (h : ∀ p ∈ l, p.1 ≠ i) : mpOf l i = none := by
  unfold mpOf
  rw [List.find?_eq_none.2 (fun p hp => by simpa using h p (List.mem_reverse.1 hp))]
  rfl
theorem mpOf_some {l : List (Int × Lk)} {i : Int} {v : Lk} (h : (i, v) ∈ l) (hu : ∀ p ∈ l, p.1 = i → p.2 = v) : mpOf l i = some v := by
  unfold mpOf
  cases hf : l.reverse.find? (fun p => p.1 == i) with
  | none =>
    have := List.find?_eq_none.1 hf (i, v) (List.mem_reverse.2 h)
    simp at this
  | some q =>
    have h1 := List.find?_some hf
    have h2 := List.mem_of_find?_eq_some hf
    simp at h1
    show some q.2 = some v
    rw [hu q (List.mem_reverse.1 h2) h1]
/-- What is put of a class. -/
def lks (c : List Nd) : List (Int × Lk) := (List.range c.length).map fun j => (idAt c j, lkAt c j)
theorem lks_len (c : List Nd) : (lks c).length = c.length := by simp [lks]
theorem lks_take {c : List Nd} {i : Nat} (h : i < c.length) : (lks c).take (i + 1) = (lks c).take i ++ [(idAt c i, lkAt c i)] := by
  rw [List.take_succ_eq_append_getElem (by rw [lks_len]; exact h)]
  simp [lks]
theorem lks_mem {c : List Nd} {p : Int × Lk} : p ∈ lks c ↔ ∃ j, j < c.length ∧ p = (idAt c j, lkAt c j) := by
  unfold lks
  rw [List.mem_map]
  exact ⟨fun ⟨j, h, e⟩ => ⟨j, by simpa using h, e.symm⟩, fun ⟨j, h, e⟩ => ⟨j, by simpa using h, e.symm⟩⟩
theorem flat_take {α β : Type} (f : α → List β) {l : List α} {k : Nat} (h : k < l.length) : (l.take (k + 1)).flatMap f = (l.take k).flatMap f ++ f l[k] := by
  rw [List.take_succ_eq_append_getElem h, List.flatMap_append]
  simp
/-! classes -/
def Uk (f : Nd → Nat) (cs : List (List Nd)) : Prop := cs.Pairwise (fun a b => kf f a ≠ kf f b)
theorem ins_key {f : Nd → Nat} {x : Nd} : ∀ {cs : List (List Nd)} {d : List Nd}, d ∈ insK f x cs → kf f d = some (f x) ∨ ∃ e ∈ cs, kf f e = kf f d
  | [], d, h => by
    have : d = [x] := by simpa [insK] using h
    subst this
    exact .inl rfl
  | c :: cs, d, h => by
    by_cases hk : kf f c = some (f x)
    · have e : insK f x (c :: cs) = (c ++ [x]) :: cs := by show (if _ then _ else _) = _; rw [if_pos hk]
      rw [e] at h
      rcases List.mem_cons.1 h with rfl | h
      · exact .inl (kf_snoc hk x)
      · exact .inr ⟨d, by simp [h], rfl⟩
    · have e : insK f x (c :: cs) = c :: insK f x cs := by show (if _ then _ else _) = _; rw [if_neg hk]
      rw [e] at h
      rcases List.mem_cons.1 h with rfl | h
      · exact .inr ⟨d, by simp, rfl⟩
      · rcases ins_key h with h | ⟨e, he, h⟩
        · exact .inl h
        · exact .inr ⟨e, by simp [he], h⟩
theorem uk_ins {f : Nd → Nat} {x : Nd} : ∀ {cs : List (List Nd)}, Uk f cs → Uk f (insK f x cs)
  | [], _ => by simp [Uk, insK]
  | c :: cs, h => by
    obtain ⟨h1, h2⟩ := List.pairwise_cons.1 h
    by_cases hk : kf f c = some (f x)
    · have e : insK f x (c :: cs) = (c ++ [x]) :: cs := by show (if _ then _ else _) = _; rw [if_pos hk]
      rw [e]
      refine List.pairwise_cons.2 ⟨fun d hd => ?_, h2⟩
      rw [kf_snoc hk x, ← hk]
      exact h1 d hd
    · have e : insK f x (c :: cs) = c :: insK f x cs := by show (if _ then _ else _) = _; rw [if_neg hk]
      rw [e]
      refine List.pairwise_cons.2 ⟨fun d hd => ?_, uk_ins h2⟩
      rcases ins_key hd with k | ⟨e, he, k⟩
      · rw [k]; exact hk
      · rw [← k]; exact h1 e he
theorem uk_cls (f : Nd → Nat) (l : List Nd) : Uk f (clsK f l) := by
  have : ∀ n, n ≤ l.length → Uk f (clsK f (l.take n)) := by
    intro n
    induction n with
    | zero => intro _; simp [clsK, Uk]
    | succ n ih =>
      intro hn
      rw [clsK_next f (show n < l.length by omega)]
      exact uk_ins (ih (by omega))
  have h := this l.length (Nat.le_refl _)
  rwa [List.take_length] at h
theorem first_of {f : Nd → Nat} {k : Nat} : ∀ {cs : List (List Nd)}, Uk f cs → ∀ c ∈ cs, kf f c = some k → firstK f k cs = c
  | [], _, c, hc, _ => by simp at hc
  | d :: cs, h, c, hc, hk => by
    obtain ⟨h1, h2⟩ := List.pairwise_cons.1 h
    show (if kf f d = some k then d else firstK f k cs) = c
    rcases List.mem_cons.1 hc with rfl | hc
    · rw [if_pos hk]
    · rw [if_neg (fun e => h1 c hc (e.trans hk.symm))]
      exact first_of h2 c hc hk
theorem first_mem {f : Nd → Nat} {k : Nat} : ∀ {cs : List (List Nd)}, firstK f k cs ≠ [] → firstK f k cs ∈ cs
  | [], h => absurd rfl h
  | d :: cs, h => by
    change (if kf f d = some k then d else firstK f k cs) ≠ [] at h
    show (if kf f d = some k then d else firstK f k cs) ∈ d :: cs
    by_cases hk : kf f d = some k
    · rw [if_pos hk]; simp
    · rw [if_neg hk] at h ⊢
      exact List.mem_cons_of_mem _ (first_mem h)
theorem cls_filter {f : Nd → Nat} {l : List Nd} {c : List Nd} (hc : c ∈ clsK f l) {x : Nd} (hx : x ∈ c) : c = l.filter (fun y => decide (f y = f x)) := by
  rw [← firstK_cls, first_of (uk_cls f l) c hc (pure_cls f l c hc x hx).2]
theorem cls_has {f : Nd → Nat} {l : List Nd} {x : Nd} (hx : x ∈ l) : l.filter (fun y => decide (f y = f x)) ∈ clsK f l := by
  rw [← firstK_cls]
  refine first_mem ?_
  rw [firstK_cls]
  intro e
  have : x ∈ l.filter (fun y => decide (f y = f x)) := List.mem_filter.2 ⟨hx, by simp⟩
  rw [e] at this
  cases this
theorem grp_filter {l : List Nd} {h : Int} {v : Nat} (hw : ∀ x ∈ l, x.word < 4294967296) (hv : v < 4294967296) (hh : h ≤ 16) : grp l h v = l.filter (fun y => decide (lowK h.toNat y = v % 2 ^ h.toNat)) := by
  unfold grp
  refine List.filter_congr fun x hx => ?_
  rw [decide_eq_decide]
  exact low_cm_int (hw x hx) hv hh
theorem clsV_in {l : List Nd} {h : Int} (hh : h ≤ 16) : clsV l h = clsK (lowK h.toNat) l := if_neg (by omega)
theorem cls_grp {l : List Nd} {h : Int} (hw : ∀ x ∈ l, x.word < 4294967296) (hh : h ≤ 16) {c : List Nd} (hc : c ∈ clsV l h) {x : Nd} (hx : x ∈ c) : c = grp l h x.word ∧ x ∈ l := by
  rw [clsV_in hh] at hc
  have hm := (pure_cls _ l c hc x hx).1
  exact ⟨by rw [grp_filter hw (hw x hm) hh]; exact cls_filter hc hx, hm⟩
theorem grp_cls {l : List Nd} {h : Int} (hw : ∀ x ∈ l, x.word < 4294967296) (hh : h ≤ 16) {x : Nd} (hx : x ∈ l) : grp l h x.word ∈ clsV l h := by
  rw [clsV_in hh, grp_filter hw (hw x hx) hh]
  exact cls_has hx
theorem grp_self {l : List Nd} {h : Int} (hh : h ≤ 16) {x : Nd} (hx : x ∈ l) : x ∈ grp l h x.word := by
  unfold grp
  exact List.mem_filter.2 ⟨hx, by rw [cm_self]; simpa using hh⟩
theorem grp_sub (l : List Nd) (h : Int) (v : Nat) : (grp l h v).Sublist l := List.filter_sublist
theorem id_uniq {l : List Nd} (ha : l.Pairwise Nd.apart) {x y : Nd} (hx : x ∈ l) (hy : y ∈ l) (e : x.id = y.id) : x = y := by
  obtain ⟨i, hi, rfl⟩ := List.getElem_of_mem hx
  obtain ⟨j, hj, rfl⟩ := List.getElem_of_mem hy
  obtain rfl := apart_at ha hi hj e
  rfl
theorem plc_mem {l : List Nd} {x : Nd} (hx : x ∈ l) : plc l x.id < l.length := plc_found.2 ⟨x, hx, rfl⟩
theorem plc_self {l : List Nd} (ha : l.Pairwise Nd.apart) {x : Nd} (hx : x ∈ l) : l[plc l x.id]'(plc_mem hx) = x :=
  id_uniq ha (List.getElem_mem _) hx (plc_id (plc_mem hx))
/-- The map of a level: at the number of each node its links. -/
theorem mp_lnk {s : List Nd} {h : Int} (ha : s.Pairwise Nd.apart) (hw : ∀ x ∈ s, x.word < 4294967296) (hh : h ≤ 16) {x : Nd} (hx : x ∈ s) : mpOf ((clsV s h).flatMap lks) x.id = some (lnk s h x) := by
  have hg := grp_self hh hx
  have hag := ha.sublist (grp_sub s h x.word)
  refine mpOf_some (List.mem_flatMap.2 ⟨_, grp_cls hw hh hx, lks_mem.2 ⟨plc (grp s h x.word) x.id, plc_mem hg, ?_⟩⟩) ?_
  · rw [idAt_lt (plc_mem hg), plc_id (plc_mem hg)]
    rfl
  · intro p hp e
    obtain ⟨c, hc, hp⟩ := List.mem_flatMap.1 hp
    obtain ⟨j, hj, rfl⟩ := lks_mem.1 hp
    simp only [idAt_lt hj] at e
    obtain ⟨e2, hm⟩ := cls_grp hw hh hc (List.getElem_mem hj)
    have ex := id_uniq ha hm hx e
    rw [ex] at e2
    subst e2
    show lkAt _ j = lnk s h x
    unfold lnk
    rw [← e, plc_at hag hj]
theorem mp_none {s : List Nd} {h : Int} (hw : ∀ x ∈ s, x.word < 4294967296) (hh : h ≤ 16) {i : Int} (hi : ∀ x ∈ s, x.id ≠ i) : mpOf ((clsV s h).flatMap lks) i = none := by
  refine mpOf_none fun p hp e => ?_
  obtain ⟨c, hc, hp⟩ := List.mem_flatMap.1 hp
  obtain ⟨j, hj, rfl⟩ := lks_mem.1 hp
  simp only [idAt_lt hj] at e
  exact hi _ (cls_grp hw hh hc (List.getElem_mem hj)).2 e
/-! how many classes -/
theorem cls_keys_nodup (f : Nd → Nat) (l : List Nd) : ((clsK f l).map (kf f)).Nodup := by
  rw [List.nodup_iff_pairwise_ne, List.pairwise_map]
  exact uk_cls f l
theorem cls_keys_mem {f : Nd → Nat} {l : List Nd} {o : Option Nat} : o ∈ (clsK f l).map (kf f) ↔ ∃ x ∈ l, o = some (f x) := by
  rw [List.mem_map]
  constructor
  · rintro ⟨c, hc, rfl⟩
    cases c with
    | nil => exact absurd rfl (cls_ne f l _ hc)
    | cons y r => exact ⟨y, (pure_cls f l _ hc y (by simp)).1, rfl⟩
  · rintro ⟨x, hx, rfl⟩
    have h := cls_has (f := f) hx
    refine ⟨_, h, (pure_cls f l _ h x (List.mem_filter.2 ⟨hx, by simp⟩)).2⟩
theorem cls_len_perm {f : Nd → Nat} {l m : List Nd} (h : ∀ x, x ∈ l ↔ x ∈ m) : (clsK f l).length = (clsK f m).length := by
  have e : ((clsK f l).map (kf f)).Perm ((clsK f m).map (kf f)) := (List.perm_ext_iff_of_nodup (cls_keys_nodup f l) (cls_keys_nodup f m)).2 (fun o => by
    rw [cls_keys_mem, cls_keys_mem]
    exact ⟨fun ⟨x, hx, e⟩ => ⟨x, (h x).1 hx, e⟩, fun ⟨x, hx, e⟩ => ⟨x, (h x).2 hx, e⟩⟩)
  have := e.length_eq
  simpa using this
theorem clsV_len_perm {l m : List Nd} (h : Int) (hm : ∀ x, x ∈ l ↔ x ∈ m) : (clsV l h).length = (clsV m h).length := by
  unfold clsV
  split
  · rfl
  · exact cls_len_perm hm
theorem clsV_len_le (l : List Nd) (h : Int) : (clsV l h).length ≤ l.length := by
  unfold clsV
  split
  · exact Nat.zero_le _
  · exact cls_len _ _
/-- What Height answers. -/
def hgtG (l : List Nd) : Nat := ((List.range 16).find? (fun (h : Nat) => (clsV l (h : Int)).length == l.length)).getD 16
def hgtV (l : List Nd) : Nat := if chkV l = 0 then hgtG l else 0
theorem hgt_uniq {l : List Nd} {k : Nat} (hk : k ≤ 16) (h1 : ∀ j, j < k → (clsV l (j : Int)).length ≠ l.length) (h2 : k < 16 → (clsV l (k : Int)).length = l.length) : hgtG l = k := by
  unfold hgtG
  rcases Nat.lt_or_ge k 16 with h | h
  · have e : (List.range 16).find? (fun (h : Nat) => (clsV l (h : Int)).length == l.length) = some k := List.find?_range_eq_some.2 ⟨by simpa using h2 h, by simpa using h, fun j hj => by simpa using h1 j hj⟩
    rw [e]
    rfl
  · obtain rfl : k = 16 := by omega
    rw [List.find?_eq_none.2 (fun j hj => by simpa using h1 j (by simpa using hj))]
    rfl
theorem hgtG_le (l : List Nd) : hgtG l ≤ 16 := by
  unfold hgtG
  cases h : (List.range 16).find? (fun (h : Nat) => (clsV l (h : Int)).length == l.length) with
  | none => simp
  | some k =>
    have := List.mem_of_find?_eq_some h
    simp at this
    simp
    omega
theorem hgtV_le (l : List Nd) : hgtV l ≤ 16 := by
  unfold hgtV
  split
  · exact hgtG_le l
  · omega
theorem hgtG_perm {l m : List Nd} (hm : l.Perm m) : hgtG l = hgtG m := by
  unfold hgtG
  congr 1
  congr 1
  funext h
  rw [clsV_len_perm _ (fun x => hm.mem_iff), hm.length_eq]
/-! what the functions answer -/
def lvB (h : Int) : Bool := decide (0 ≤ h) && decide (h ≤ 16)
def nbB (l : List Nd) (id h : Int) : Bool := decide (chkV l = 0) && (lvB h && decide (plc l id < l.length))
def nbL (l : List Nd) (id h : Int) : Lk := if nbB l id h = true then lnk (srt l) h (fndV l id) else ⟨0, 0⟩
def lstV (l : List Nd) (h : Int) : List (List Int) := if chkV l = 0 ∧ lvB h = true then (clsV (srt l) h).map (fun c => c.map Nd.id) else []
def bldV (l : List Nd) (n : Nat) : List Ld := (srt l).map fun x => ⟨x.id, (List.range n).map fun (h : Nat) => lnk (srt l) (h : Int) x⟩
end
section
open Go.RowKit

theorem wo_erase {s : List Nd} (ha : s.Pairwise Nd.apart) {p : Nat} (hp : p < s.length) : wout s [s[p].id] = s.eraseIdx p := by
  have e1 : s = s.take p ++ s[p] :: s.drop (p + 1) := by rw [← List.drop_eq_getElem_cons hp, List.take_append_drop]
  have h1 : (s.take p).filter (fun x => !([s[p].id].contains x.id)) = s.take p := by
    rw [List.filter_eq_self]
    intro x hx
    obtain ⟨j, hj, rfl⟩ := List.mem_take_iff_getElem.1 hx
    have := (List.pairwise_iff_getElem.1 ha j p (by omega) hp (by omega)).1
    simpa using this
  have h2 : (s.drop (p + 1)).filter (fun x => !([s[p].id].contains x.id)) = s.drop (p + 1) := by
    rw [List.filter_eq_self]
    intro x hx
    obtain ⟨j, hj, rfl⟩ := List.mem_drop_iff_getElem.1 hx
    have := (List.pairwise_iff_getElem.1 ha p (p + 1 + j) hp (by omega) (by omega)).1
    simpa using fun e => this e.symm
  unfold wout
  rw [List.eraseIdx_eq_take_drop_succ]
  conv => lhs; arg 2; rw [e1]
  rw [List.filter_append, h1, List.filter_cons, h2]
  simp
theorem wo_sub (l : List Nd) (ids : List Int) : (wout l ids).Sublist l := List.filter_sublist
theorem fnd_self {l : List Nd} (ha : l.Pairwise Nd.apart) {x : Nd} (hx : x ∈ l) : fndV l x.id = x := by
  unfold fndV
  rw [List.getElem?_eq_getElem (plc_mem hx), plc_self ha hx]
  rfl
theorem ros_ok {l : List Nd} (hc : chkV l = 0) {x : Nd} (hx : x ∈ l) : 1 ≤ x.id ∧ x.id ≤ 2147483647 ∧ x.word < 65536 := by
  have := List.all_eq_true.1 (chkV_zero.1 hc).2.1 x hx
  simp [Nd.ok] at this
  omega
theorem srt_mem {l : List Nd} {x : Nd} : x ∈ srt l ↔ x ∈ l := (srt_srt l).1.mem_iff
theorem srt_wd {l : List Nd} (hc : chkV l = 0) : ∀ x ∈ srt l, x.word < 4294967296 := fun x hx => by have := ros_ok hc (srt_mem.1 hx); omega
theorem nb_in {l : List Nd} (hc : chkV l = 0) {h : Int} (h0 : 0 ≤ h) (h16 : h ≤ 16) {x : Nd} (hx : x ∈ l) : nbB l x.id h = true ∧ nbL l x.id h = lnk (srt l) h x := by
  have e : nbB l x.id h = true := by
    unfold nbB lvB
    have := plc_mem hx
    simp [hc, h0, h16, this]
  refine ⟨e, ?_⟩
  unfold nbL
  rw [if_pos e, fnd_self (chkV_zero.1 hc).2.2 hx]
/-- What is to the right of a node. -/
theorem right_of {l : List Nd} (hc : chkV l = 0) {h : Int} (h0 : 0 ≤ h) (h16 : h ≤ 16) {x : Nd} (hx : x ∈ l) :
    (∃ r ∈ l, (nbL l x.id h).right = r.id ∧ kl x.key r.key = true ∧ h ≤ (cm r.word x.word : Int) ∧ (nbL l r.id h).left = x.id ∧ ∀ z ∈ l, kl x.key z.key = true → h ≤ (cm z.word x.word : Int) → kl z.key r.key = false) ∨ ((nbL l x.id h).right = 0 ∧ ∀ z ∈ l, kl x.key z.key = true → ¬ h ≤ (cm z.word x.word : Int)) := by
  have hr := ros_of hc
  have hxs := srt_mem.2 hx
  obtain ⟨_, e1⟩ := nb_in hc h0 h16 hx
  rw [e1]
  have hg := grp_self h16 hxs
  have hsub := grp_sub (srt l) h x.word
  have hA : Asc (grp (srt l) h x.word) := hr.asc.sublist hsub
  have hP := hr.apart.sublist hsub
  have hin : ∀ z ∈ l, h ≤ (cm z.word x.word : Int) → z ∈ grp (srt l) h x.word := fun z hz k => List.mem_filter.2 ⟨srt_mem.2 hz, by simpa using k⟩
  have hgr : ∀ z ∈ grp (srt l) h x.word, grp (srt l) h z.word = grp (srt l) h x.word := fun z hz => ((cls_grp (srt_wd hc) h16 (grp_cls (srt_wd hc) h16 hxs) hz).1).symm
  have hrt : (lnk (srt l) h x).right = idAt (grp (srt l) h x.word) (plc (grp (srt l) h x.word) x.id + 1) := rfl
  obtain ⟨p, hp, hpx, hpe⟩ : ∃ (p : Nat) (hp : p < (grp (srt l) h x.word).length), (grp (srt l) h x.word)[p] = x ∧ plc (grp (srt l) h x.word) x.id = p := ⟨_, plc_mem hg, plc_self hP hg, rfl⟩
  rw [hrt, hpe]
  rcases Nat.lt_or_ge (p + 1) (grp (srt l) h x.word).length with hq | hq
  · left
    have hm := List.getElem_mem hq
    have hrl : (grp (srt l) h x.word)[p + 1] ∈ l := srt_mem.1 (hsub.subset hm)
    refine ⟨_, hrl, idAt_lt hq, ?_, ?_, ?_, ?_⟩
    · have := asc_at hA (show p < p + 1 by omega) hq
      rwa [hpx] at this
    · simpa using (List.mem_filter.1 hm).2
    · rw [(nb_in hc h0 h16 hrl).2]
      unfold lnk
      rw [hgr _ hm, plc_at hP hq]
      show (if p + 1 = 0 then 0 else idAt _ (p + 1 - 1)) = x.id
      rw [if_neg (by omega), Nat.add_sub_cancel, idAt_lt hp, hpx]
    · intro z hz k1 k2
      obtain ⟨q, hq2, rfl⟩ := List.getElem_of_mem (hin z hz k2)
      have := (asc_iff hA hp hq2).1 (by rw [hpx]; exact k1)
      cases hk : kl (grp (srt l) h x.word)[q].key (grp (srt l) h x.word)[p + 1].key with
      | false => rfl
      | true =>
        have := (asc_iff hA hq2 hq).1 hk
        omega
  · right
    refine ⟨idAt_ge hq, fun z hz k1 k2 => ?_⟩
    obtain ⟨q, hq2, rfl⟩ := List.getElem_of_mem (hin z hz k2)
    have := (asc_iff hA hp hq2).1 (by rw [hpx]; exact k1)
    omega
theorem plc_zero {l : List Nd} (hc : chkV l = 0) : ¬ plc l 0 < l.length := fun h => by
  obtain ⟨x, hx, e⟩ := plc_found.1 h
  have := ros_ok hc hx
  omega
/-! lists of a level -/
theorem cls_asc {l : List Nd} (hc : chkV l = 0) {h : Int} (hh : h ≤ 16) {c : List Nd} (hm : c ∈ clsV (srt l) h) : Asc c := by
  have hr := ros_of hc
  have hne : c ≠ [] := by rw [clsV_in hh] at hm; exact cls_ne _ _ c hm
  obtain ⟨x, hx⟩ := ne_iff_mem.1 hne
  rw [(cls_grp (srt_wd hc) hh hm hx).1]
  exact hr.asc.sublist (grp_sub _ _ _)
theorem cls_mem {l : List Nd} (hc : chkV l = 0) {h : Int} (hh : h ≤ 16) {c : List Nd} (hm : c ∈ clsV (srt l) h) {x : Nd} (hx : x ∈ c) : x ∈ l := srt_mem.1 (cls_grp (srt_wd hc) hh hm hx).2
theorem cls_sum {l : List Nd} {h : Int} (hh : h ≤ 16) : ((clsV l h).map List.length).sum = l.length := by rw [clsV_in hh, sum_len]
theorem prt_bd (b : Nd → Bool) {c : List Nd} (hc : c ≠ []) : 1 ≤ prt b c ∧ prt b c ≤ 2 := by
  obtain ⟨y, hy⟩ := ne_iff_mem.1 hc
  unfold prt
  cases hb : b y with
  | true =>
    have : c.any b = true := List.any_eq_true.2 ⟨y, hy, hb⟩
    rw [if_pos this]
    split <;> omega
  | false =>
    have : c.any (fun x => !b x) = true := List.any_eq_true.2 ⟨y, hy, by simp [hb]⟩
    rw [if_pos this]
    split <;> omega
theorem sum_bd (m : List Nd → Nat) : ∀ cs : List (List Nd), (∀ c ∈ cs, 1 ≤ m c ∧ m c ≤ 2) → cs.length ≤ (cs.map m).sum ∧ (cs.map m).sum ≤ 2 * cs.length
  | [], _ => by simp
  | c :: cs, h => by
    have h1 := h c (by simp)
    have h2 := sum_bd m cs (fun d hd => h d (by simp [hd]))
    simp only [List.map_cons, List.sum_cons, List.length_cons]
    omega
theorem cls_step (l : List Nd) {k : Nat} (hk : k < 16) : (clsV l (k : Int)).length ≤ (clsV l ((k : Int) + 1)).length ∧ (clsV l ((k : Int) + 1)).length ≤ 2 * (clsV l (k : Int)).length := by
  rw [clsV_in (show (k : Int) ≤ 16 by omega), clsV_in (show (k : Int) + 1 ≤ 16 by omega)]
  rw [show ((k : Int) + 1).toNat = k + 1 by omega, Int.toNat_natCast]
  have h := sum_prt (lowK k) (lowK (k + 1)) (fun x => x.word.testBit k) l (fun x _ y _ => low_next x.word y.word k)
  rw [← h]
  exact sum_bd _ _ (fun c hc => prt_bd _ (cls_ne _ _ c hc))
theorem cls_mono (l : List Nd) {j k : Nat} (hjk : j ≤ k) (hk : k ≤ 16) : (clsV l (j : Int)).length ≤ (clsV l (k : Int)).length := by
  induction k with
  | zero =>
    have : j = 0 := by omega
    subst this
    exact Nat.le_refl _
  | succ k ih =>
    rcases Nat.lt_or_ge j (k + 1) with h | h
    · have h1 := ih (by omega) (by omega)
      have h2 := (cls_step l (show k < 16 by omega)).1
      rw [show ((k + 1 : Nat) : Int) = (k : Int) + 1 by omega]
      omega
    · have : j = k + 1 := by omega
      subst this
      exact Nat.le_refl _
theorem hgtG_at (l : List Nd) : (∀ j, j < hgtG l → (clsV l (j : Int)).length ≠ l.length) ∧ (hgtG l < 16 → (clsV l (hgtG l : Int)).length = l.length) := by
  unfold hgtG
  cases h : (List.range 16).find? (fun (h : Nat) => (clsV l (h : Int)).length == l.length) with
  | none =>
    have := List.find?_eq_none.1 h
    refine ⟨fun j hj => ?_, fun hk => by simp at hk⟩
    simpa using this j (by simpa using hj)
  | some k =>
    obtain ⟨h1, h2, h3⟩ := List.find?_range_eq_some.1 h
    refine ⟨fun j hj => by simpa using h3 j hj, fun _ => by simpa using h1⟩
/-- What the law says of a level and the height. -/
theorem height_level {l : List Nd} (hc : chkV l = 0) {k : Nat} (hk : k < 16) : (k < hgtV l → (clsV (srt l) (k : Int)).length < l.length) ∧ (hgtV l ≤ k → (clsV (srt l) (k : Int)).length = l.length) := by
  have e : hgtV l = hgtG l := if_pos hc
  have e2 : (clsV (srt l) (k : Int)).length = (clsV l (k : Int)).length := clsV_len_perm _ (fun x => srt_mem)
  have hle := clsV_len_le l (k : Int)
  obtain ⟨h1, h2⟩ := hgtG_at l
  rw [e, e2]
  refine ⟨fun h => ?_, fun h => ?_⟩
  · have := h1 k h
    omega
  · have h3 := h2 (by omega)
    have h4 := cls_mono l h (by omega)
    omega
/-! lists in another order, and levels left out -/
theorem bld_perm {l m : List Nd} (hp : l.Perm m) (hc : chkV m = 0) (n : Nat) : bldV l n = bldV m n := by
  unfold bldV
  rw [srt_perm hp (chkV_zero.1 hc).2.2]
theorem bld_len (l : List Nd) (n : Nat) : (bldV l n).length = l.length := by
  unfold bldV
  rw [List.length_map, (srt_srt l).1.length_eq]
theorem bld_lev (l : List Nd) (n : Nat) : ∀ x ∈ bldV l n, x.levels.length = n := fun x hx => by
  obtain ⟨y, _, rfl⟩ := List.mem_map.1 hx
  simp
theorem bld_cut (l : List Nd) (n : Nat) : (bldV l (n + 1)).map (fun x => (⟨x.id, x.levels.take n⟩ : Ld)) = bldV l n := by
  unfold bldV
  rw [List.map_map]
  refine List.map_congr_left fun x _ => ?_
  show (⟨x.id, ((List.range (n + 1)).map fun (h : Nat) => lnk (srt l) (h : Int) x).take n⟩ : Ld) = ⟨x.id, (List.range n).map fun (h : Nat) => lnk (srt l) (h : Int) x⟩
  rw [← List.map_take, List.take_range, Nat.min_eq_left (by omega)]
/-! a node that is left out -/
theorem idAt_erase (c : List Nd) (q j : Nat) : idAt (c.eraseIdx q) j = idAt c (if j < q then j else j + 1) := by
  unfold idAt
  rw [List.getElem?_eraseIdx]
  split <;> rfl
theorem lk_erase {c : List Nd} {p q : Nat} (hpq : p ≠ q) :
    let a := lkAt c p
    let b := lkAt (c.eraseIdx q) (if p < q then p else p - 1)
    (a.left = b.left ∨ (p = q + 1 ∧ b.left = (lkAt c q).left)) ∧ (a.right = b.right ∨ (p + 1 = q ∧ b.right = (lkAt c q).right)) := by
  simp only [lkAt, idAt_erase]
  rcases Nat.lt_trichotomy p q with h | h | h
  · rw [if_pos h]
    refine ⟨.inl ?_, ?_⟩
    · by_cases h0 : p = 0
      · simp [h0]
      · rw [if_neg h0, if_neg h0, if_pos (by omega)]
    · by_cases h1 : p + 1 = q
      · right
        refine ⟨h1, ?_⟩
        rw [if_neg (by omega), h1]
      · left
        rw [if_pos (by omega)]
  · omega
  · rw [if_neg (show ¬ p < q by omega)]
    refine ⟨?_, .inl ?_⟩
    · by_cases h1 : p = q + 1
      · right
        refine ⟨h1, ?_⟩
        subst h1
        by_cases h0 : q = 0
        · simp [h0]
        · rw [if_neg (by omega), if_neg h0, if_pos (by omega)]
          rfl
      · left
        rw [if_neg (show ¬ p = 0 by omega), if_neg (show ¬ p - 1 = 0 by omega), if_neg (by omega)]
        congr 1
        omega
    · rw [if_neg (by omega)]
      congr 1
      omega
theorem grp_wout (s : List Nd) (h : Int) (v : Nat) (ids : List Int) : grp (wout s ids) h v = wout (grp s h v) ids := by
  unfold grp wout
  rw [List.filter_filter, List.filter_filter]
  refine List.filter_congr fun x _ => ?_
  rw [Bool.and_comm]
theorem wout_none {c : List Nd} {i : Int} (h : ∀ x ∈ c, x.id ≠ i) : wout c [i] = c := by
  unfold wout
  rw [List.filter_eq_self]
  intro x hx
  simpa using h x hx
theorem srt_wout {l : List Nd} (hc : chkV l = 0) (ids : List Int) : srt (wout l ids) = wout (srt l) ids := by
  have hr := ros_of hc
  have hc2 := chkV_sub (wo_sub l ids) hc
  have hr2 := ros_of hc2
  refine asc_unique _ _ hr2.asc (hr.asc.sublist (wo_sub _ _)) fun x => ?_
  rw [srt_mem]
  unfold wout
  rw [List.mem_filter, List.mem_filter, srt_mem]
theorem left_mem {c : List Nd} {p : Nat} (hp : p < c.length) : (lkAt c p).left = 0 ∨ ∃ h : p - 1 < c.length, 0 < p ∧ (lkAt c p).left = c[p - 1].id := by
  by_cases h0 : p = 0
  · left; simp [lkAt, h0]
  · right
    refine ⟨by omega, by omega, ?_⟩
    show (if p = 0 then 0 else idAt c (p - 1)) = _
    rw [if_neg h0, idAt_lt (by omega)]
theorem right_mem {c : List Nd} {p : Nat} : (lkAt c p).right = 0 ∨ ∃ h : p + 1 < c.length, (lkAt c p).right = c[p + 1].id := by
  rcases Nat.lt_or_ge (p + 1) c.length with h | h
  · exact .inr ⟨h, idAt_lt h⟩
  · exact .inl (idAt_ge h)
/-- What changes in the links of a node if another one is left out. -/
theorem local_of {l : List Nd} (hc : chkV l = 0) {h : Int} (h0 : 0 ≤ h) (h16 : h ≤ 16) {x : Nd} (hx : x ∈ l) {z : Nd} (hz : z ∈ wout l [x.id]) :
    ((nbL l z.id h).left = (nbL (wout l [x.id]) z.id h).left ∨ (nbL l z.id h).left = x.id) ∧ ((nbL l z.id h).right = (nbL (wout l [x.id]) z.id h).right ∨ (nbL l z.id h).right = x.id) ∧
    ((nbL l z.id h).left = x.id → (nbL (wout l [x.id]) z.id h).left = (nbL l x.id h).left) ∧ ((nbL l z.id h).right = x.id → (nbL (wout l [x.id]) z.id h).right = (nbL l x.id h).right) := by
  have hr := ros_of hc
  have hc2 := chkV_sub (wo_sub l [x.id]) hc
  have hzl : z ∈ l := (wo_sub l [x.id]).subset hz
  have hzx : z.id ≠ x.id := by
    have := (List.mem_filter.1 hz).2
    simpa using this
  have hx1 := (ros_ok hc hx).1
  rw [(nb_in hc h0 h16 hzl).2, (nb_in hc2 h0 h16 hz).2, (nb_in hc h0 h16 hx).2, srt_wout hc]
  unfold lnk
  rw [grp_wout]
  have hzs := srt_mem.2 hzl
  have hxs := srt_mem.2 hx
  have hsub := grp_sub (srt l) h z.word
  have hP := hr.apart.sublist hsub
  have hgz := grp_self h16 hzs
  obtain ⟨p, hp, hpz, hpp⟩ : ∃ (p : Nat) (hp : p < (grp (srt l) h z.word).length), (grp (srt l) h z.word)[p] = z ∧ plc (grp (srt l) h z.word) z.id = p := ⟨_, plc_mem hgz, plc_self hP hgz, rfl⟩
  rw [hpp]
  by_cases hin : x ∈ grp (srt l) h z.word
  · have hgx : grp (srt l) h x.word = grp (srt l) h z.word := ((cls_grp (srt_wd hc) h16 (grp_cls (srt_wd hc) h16 hzs) hin).1).symm
    obtain ⟨q, hq, hqx, hqq⟩ : ∃ (q : Nat) (hq : q < (grp (srt l) h z.word).length), (grp (srt l) h z.word)[q] = x ∧ plc (grp (srt l) h z.word) x.id = q := ⟨_, plc_mem hin, plc_self hP hin, rfl⟩
    rw [hgx, hqq]
    clear hpp hqq hgx
    generalize grp (srt l) h z.word = c at *
    have hpq : p ≠ q := fun e => by
      subst e
      rw [hpz] at hqx
      exact hzx (by rw [hqx])
    have he : wout c [x.id] = c.eraseIdx q := by
      have := wo_erase hP hq
      rwa [hqx] at this
    rw [he]
    have hpe : plc (c.eraseIdx q) z.id = if p < q then p else p - 1 := by
      have hle : (c.eraseIdx q).length = c.length - 1 := by rw [List.length_eraseIdx, if_pos hq]
      have hlt : (if p < q then p else p - 1) < (c.eraseIdx q).length := by rw [hle]; split <;> omega
      have hat : (c.eraseIdx q)[if p < q then p else p - 1] = z := by
        rw [List.getElem_eraseIdx]
        by_cases h1 : p < q
        · simp only [if_pos h1]
          rw [dif_pos h1]
          exact hpz
        · have h2 : ¬ p - 1 < q := by omega
          simp only [if_neg h1]
          rw [dif_neg h2, ← hpz]
          congr 1
          omega
      have := plc_at (hP.sublist (List.eraseIdx_sublist c q)) hlt
      rwa [hat] at this
    rw [hpe]
    obtain ⟨k1, k2⟩ := lk_erase (c := c) hpq
    have hqid : idAt c q = x.id := by rw [idAt_lt hq, hqx]
    have hleft : (lkAt c p).left = x.id ↔ p = q + 1 := by
      constructor
      · intro e
        rcases left_mem hp with h1 | ⟨h1, h2, h3⟩
        · omega
        · rw [h3, ← hqx] at e
          have := apart_at hP h1 hq e
          omega
      · rintro rfl
        show (if q + 1 = 0 then 0 else idAt c (q + 1 - 1)) = _
        rw [if_neg (by omega), Nat.add_sub_cancel, hqid]
    have hright : (lkAt c p).right = x.id ↔ p + 1 = q := by
      constructor
      · intro e
        rcases right_mem (c := c) (p := p) with h1 | ⟨h1, h2⟩
        · omega
        · rw [h2, ← hqx] at e
          exact apart_at hP h1 hq e
      · rintro rfl
        exact hqid
    refine ⟨?_, ?_, ?_, ?_⟩
    · rcases k1 with k | ⟨k, _⟩
      · exact .inl k
      · exact .inr (hleft.2 k)
    · rcases k2 with k | ⟨k, _⟩
      · exact .inl k
      · exact .inr (hright.2 k)
    · intro e
      have e2 := hleft.1 e
      rcases k1 with k | ⟨_, k⟩
      · exfalso
        rw [e] at k
        rcases left_mem (c := c.eraseIdx q) (p := if p < q then p else p - 1) (by rw [List.length_eraseIdx, if_pos hq]; split <;> omega) with h1 | ⟨h1, h2, h3⟩
        · omega
        · rw [h3] at k
          have hm : (c.eraseIdx q)[(if p < q then p else p - 1) - 1] ∈ wout c [x.id] := by rw [he]; exact List.getElem_mem h1
          have := (List.mem_filter.1 hm).2
          simp at this
          exact this k.symm
      · exact k
    · intro e
      have e2 := hright.1 e
      rcases k2 with k | ⟨_, k⟩
      · exfalso
        rw [e] at k
        rcases right_mem (c := c.eraseIdx q) (p := if p < q then p else p - 1) with h1 | ⟨h1, h2⟩
        · omega
        · rw [h2] at k
          have hm : (c.eraseIdx q)[(if p < q then p else p - 1) + 1] ∈ wout c [x.id] := by rw [he]; exact List.getElem_mem h1
          have := (List.mem_filter.1 hm).2
          simp at this
          exact this k.symm
      · exact k
  · have hno : ∀ y ∈ grp (srt l) h z.word, y.id ≠ x.id := fun y hy e => by
      have := id_uniq hr.apart (hsub.subset hy) hxs e
      subst this
      exact hin hy
    rw [wout_none hno, hpp]
    refine ⟨.inl rfl, .inl rfl, fun e => ?_, fun e => ?_⟩
    · exfalso
      rcases left_mem hp with h1 | ⟨h1, h2, h3⟩
      · omega
      · rw [h3] at e
        exact hno _ (List.getElem_mem h1) e
    · exfalso
      rcases right_mem (c := grp (srt l) h z.word) (p := p) with h1 | ⟨h1, h2⟩
      · omega
      · rw [h2] at e
        exact hno _ (List.getElem_mem h1) e
theorem wout_len {l : List Nd} (hc : chkV l = 0) {x : Nd} (hx : x ∈ l) : (wout l [x.id]).length = l.length - 1 := by
  have hp := plc_mem hx
  have h := wo_erase (chkV_zero.1 hc).2.2 hp
  rw [plc_id hp] at h
  rw [h, List.length_eraseIdx, if_pos hp]
end
section
open Go.RowKit Go.Maps

/-! a map from numbers to links -/
def lkD (y : Lk) : DataW Unit := .agg [.lit (.int .i64 y.left), .lit (.int .i64 y.right)]
def lkElem : Value → Option (DataW Unit × List MemPlace)
  | .agg a => match a.toList with
    | [.int .i64 x, .int .i64 y] => some (lkD ⟨x, y⟩, [])
    | _ => none
  | _ => none
theorem lkElem_mk (x y : Int) : lkElem (.agg #[.int .i64 x, .int .i64 y]) = some (lkD ⟨x, y⟩, []) := rfl
theorem lkElem_inv {v : Value} {y : Lk} {ps : List MemPlace} (h : lkElem v = some (lkD y, ps)) : v = .agg #[.int .i64 y.left, .int .i64 y.right] := by
  unfold lkElem at h
  split at h
  · rename_i a
    split at h
    · rename_i x z e
      injection h with h
      injection h with h _
      simp [lkD] at h
      obtain ⟨rfl, rfl⟩ := h
      congr 1
      rw [← Array.toArray_toList (xs := a), e]
    · cases h
  · cases h
theorem infoLkZ (w : World) : (zeroValue 53).run Tryz.prog w = .ok (.agg #[.int .i64 0, .int .i64 0]) w := by kernel_rfl
/-- Block b is a map of links. -/
def LMap (w : World) (b n : Nat) (f : Int → Option Lk) : Prop := ∃ D : DataW Unit, w.ownsMap Tryz.prog 3 lkElem b n D ∧ ∀ i : Int, -9223372036854775808 ≤ i → i ≤ 9223372036854775807 → Maps.has D (.int .i64 i) = (f i).isSome ∧ D.atKey (.int .i64 i) (lkD ⟨0, 0⟩) = lkD ((f i).getD ⟨0, 0⟩)
section
variable {w w' : World} {b n : Nat} {f : Int → Option Lk}
theorem LMap.kept (h : LMap w b n f) {row : Option Nat} (hg : w.grownBy w' row) (hne : some b ≠ row) : LMap w' b n f := by
  obtain ⟨D, h1, h2⟩ := h
  exact ⟨D, h1.kept hg hne, h2⟩
theorem LMap.below (h : LMap w b n f) (k : Below w.heap.size w w') : LMap w' b n f := h.kept (row := none) ⟨k.os, k.tape, k.output, k.size, fun i hi _ => k.block i hi⟩ (by simp)
theorem LMap.lt (h : LMap w b n f) : b < w.heap.size := by obtain ⟨D, h1, _⟩ := h; exact h1.lt
theorem LMap.look (h : LMap w b n f) {i : Int} (h1 : -9223372036854775808 ≤ i) (h2 : i ≤ 9223372036854775807) : (Instr.lookup 106 (.map (some b)) (.int .i64 i) false).run Tryz.prog w = .ok (.agg #[.int .i64 ((f i).getD ⟨0, 0⟩).left, .int .i64 ((f i).getD ⟨0, 0⟩).right]) w := by
  obtain ⟨D, k1, k2⟩ := h
  obtain ⟨v, ps, hrun, hv⟩ := k1.lookup lawInt Tryz.underlying106 (infoLkZ w) (lkElem_mk 0 0) (key := .int .i64 i) (kl := .int .i64 i) (keyOf_int_mk Tryz.underlying3 (WalkArith.wf_i64 ⟨h1, h2⟩))
  rw [(k2 i h1 h2).2] at hv
  rw [hrun, lkElem_inv hv]
theorem LMap.look_ok (h : LMap w b n f) {i : Int} (h1 : -9223372036854775808 ≤ i) (h2 : i ≤ 9223372036854775807) : (Instr.lookup 106 (.map (some b)) (.int .i64 i) true).run Tryz.prog w = .ok (.tuple #[.agg #[.int .i64 ((f i).getD ⟨0, 0⟩).left, .int .i64 ((f i).getD ⟨0, 0⟩).right], .bool (f i).isSome]) w := by
  obtain ⟨D, k1, k2⟩ := h
  obtain ⟨v, ps, hrun, hv⟩ := k1.look_ok lawInt Tryz.underlying106 (infoLkZ w) (lkElem_mk 0 0) (key := .int .i64 i) (kl := .int .i64 i) (keyOf_int_mk Tryz.underlying3 (WalkArith.wf_i64 ⟨h1, h2⟩))
  rw [(k2 i h1 h2).2] at hv
  rw [hrun, lkElem_inv hv, (k2 i h1 h2).1]
end
theorem LMap.made (w : World) : LMap (w.alloc (.map #[] 0)) w.heap.size 0 (mpOf []) := ⟨.map [], World.ownsMap_made _ _ _ _, fun _ _ _ => ⟨rfl, rfl⟩⟩
theorem LMap.put_ {D : DataW Unit} {l : List (Int × Lk)} (hD : IsMap D) (h : ∀ i : Int, -9223372036854775808 ≤ i → i ≤ 9223372036854775807 → Maps.has D (.int .i64 i) = (mpOf l i).isSome ∧ D.atKey (.int .i64 i) (lkD ⟨0, 0⟩) = lkD ((mpOf l i).getD ⟨0, 0⟩)) (id : Int) (y : Lk) :
    ∀ i : Int, -9223372036854775808 ≤ i → i ≤ 9223372036854775807 → Maps.has (D.put (.int .i64 id) (lkD y)) (.int .i64 i) = (mpOf (l ++ [(id, y)]) i).isSome ∧ (D.put (.int .i64 id) (lkD y)).atKey (.int .i64 i) (lkD ⟨0, 0⟩) = lkD ((mpOf (l ++ [(id, y)]) i).getD ⟨0, 0⟩) := fun i h1 h2 => by
  rw [mpOf_snoc]
  by_cases e : i = id
  · subst e
    simp only [if_true]
    exact ⟨has_put_same (k := .int .i64 i) hD trivial _, atKey_put_same (k := .int .i64 i) hD trivial _ _⟩
  · have hne : (Lit.int .i64 i) ≠ .int .i64 id := fun e2 => by injection e2 with _ e2; exact e e2
    simp only [if_neg e]
    rw [has_put_other hne, atKey_put_other hne]
    exact h i h1 h2
/-! what is read stays as it is while a map's block turns -/
def CK (w w' : World) : Prop := ∀ p v, w.cell? p = some v → w'.cell? p = some v
theorem CK.trans {a b c : World} (h : CK a b) (k : CK b c) : CK a c := fun p v e => k p v (h p v e)
theorem CK.refl (a : World) : CK a a := fun _ _ e => e
theorem CK.below {w w' : World} (k : Below w.heap.size w w') : CK w w' := fun p _ e => (k.cell (World.block_lt_of_cell? w p e)).trans e
theorem CK.map_ {w w' : World} {b n : Nat} {f : Int → Option Lk} (h : LMap w b n f) (hg : w.grownBy w' (some b)) : CK w w' := fun p v e => by
  have hlt := World.block_lt_of_cell? w p e
  by_cases hb : p.block = b
  · exfalso
    obtain ⟨D, ⟨es, clock, h1, _⟩, _⟩ := h
    unfold World.cell? at e
    rw [hb, h1] at e
    simp at e
  · exact (World.cell?_of_block (hg.block p.block hlt (fun e2 => hb (Option.some.inj e2)))).trans e
theorem Nds.ck {w w' : World} {B : Nat} {A : Option Addr} {l : List Nd} (h : Nds w B A l) (k : CK w w') : Nds w' B A l := fun hn => by
  obtain ⟨b, o, e, hb, hc⟩ := h hn
  exact ⟨b, o, e, hb, fun i hi => ⟨k _ _ (hc i hi).1, k _ _ (hc i hi).2.1, k _ _ (hc i hi).2.2⟩⟩
theorem Rws.ck {w w' : World} {B : Nat} {A : Option Addr} {ls : List (List Nd)} (h : Rws w B A ls) (k : CK w w') : Rws w' B A ls := fun hn => by
  obtain ⟨b, o, e, hb, hc⟩ := h hn
  refine ⟨b, o, e, hb, fun i hi => ?_⟩
  obtain ⟨Ai, ci, h1, h2⟩ := hc i hi
  exact ⟨Ai, ci, k _ _ h1, h2.ck k⟩
theorem cls_in {l : List Nd} {h : Int} {c : List Nd} (hc : c ∈ clsV l h) {x : Nd} (hx : x ∈ c) : x ∈ l := by
  unfold clsV at hc
  split at hc
  · cases hc
  · exact (pure_cls _ _ c hc x hx).1
theorem lks_flat_len (cs : List (List Nd)) : (cs.flatMap lks).length = (cs.map List.length).sum := by
  induction cs with
  | nil => rfl
  | cons c cs ih => rw [List.flatMap_cons, List.length_append, lks_len, ih]; rfl
theorem lks_flat_le (l : List Nd) (h : Int) (k : Nat) : (((clsV l h).take k).flatMap lks).length ≤ l.length := by
  have h1 : (((clsV l h).take k).flatMap lks).length ≤ ((clsV l h).flatMap lks).length := by
    conv => rhs; rw [← List.take_append_drop k (clsV l h), List.flatMap_append, List.length_append]
    omega
  rw [lks_flat_len (clsV l h)] at h1
  refine Nat.le_trans h1 ?_
  unfold clsV
  split
  · simp
  · rw [sum_len]; exact Nat.le_refl _
/-- What linksAt gives. -/
def LMapP (f : Int → Option Lk) (w : World) (e : Ending) (w' : World) : Prop := ∃ b n, e = .returned (.map (some b)) ∧ LMap w' b n f ∧ Below w.heap.size w w'

set_option maxRecDepth 100000 in
set_option maxHeartbeats 3200000 in
theorem linksAt_any (A : Option Addr) (l : List Nd) (c : Nat) (h : Int) (w : World) (hl : Nds w w.heap.size A l) (hn : l.length ≤ 1000) (hwd : ∀ x ∈ l, x.wide) :
    Calls Tryz.prog 70 #[.slice A l.length c, .int .i64 h] w (LMapP (mpOf ((clsV l h).flatMap lks)) w) := by
  have hb0 := (Below.refl w.heap.size w).alloc (Nat.le_refl _) (.map #[] 0)
  have HM0 := Lib.hid (LMap.made w)
  have HC := Lib.hid (classes_any A l c h (w.alloc (.map #[] 0)) ((hl.below hb0).more (by rw [World.size_alloc]; omega)) hn (fun x hx => (hwd x hx).2))
  have HIN : Hid (∀ cc ∈ clsV l h, cc.length ≤ 1000 ∧ ∀ x ∈ cc, x.wide) := Lib.hid fun cc hcc => ⟨by
    have h1 := lks_flat_le l h (clsV l h).length
    rw [List.take_length, lks_flat_len] at h1
    have h2 : cc.length ≤ ((clsV l h).map List.length).sum := by
      obtain ⟨s, t, e⟩ := List.append_of_mem hcc
      rw [e]
      simp
      omega
    omega, fun x hx => hwd x (cls_in hcc hx)⟩
  have HLE := Lib.hid (lks_flat_le l h)
  have hcl := clsV_len_le l h
  have HB0 := Lib.hid hb0
  clear hl hwd hb0
  generalize hcs : clsV l h = cs at *
  clear hcs
  have hmm := @run_makeMap Tryz.prog
  go_enter Tryz.func70, Tryz.ntmps70
  go_wp2_with fail
  refine (HC.out).mono ?_
  rintro e w1 ⟨A1, c1, rfl, hr1, hb1⟩
  have HM1 := Lib.hid (HM0.out.below hb1)
  have HB1 := Lib.hid (HB0.out.trans (hb1.mono HB0.out.size))
  obtain ⟨N, hN⟩ : ∃ N, N = cs.length := ⟨_, rfl⟩
  obtain ⟨b, hb⟩ : ∃ b, b = w.heap.size := ⟨_, rfl⟩
  have HN := Lib.hid hN
  have HBB := Lib.hid hb
  rw [← hN] at hcl ⊢
  rw [← hb] at HM1 ⊢
  clear HC HM0 hb1 hN hb HB0
  have hR1 := hr1
  clear hr1
  go_wp2_with fail
  go_loopw [17] (fun vk wr => ∃ k : Nat, vk = .int .i64 (k : Int) ∧ k ≤ N ∧ Below w.heap.size w wr ∧ CK w1 wr ∧ LMap wr b (((cs.take k).flatMap lks).length) (mpOf ((cs.take k).flatMap lks))) (fun vk _ => N - (intOf vk).toNat)
  case atStart => exact ⟨0, rfl, by omega, HB1.out, CK.refl _, HM1.out⟩
  case round =>
    clear HB1 HM1
    obtain ⟨k, rfl, hk, hB, hck, hM⟩ := hrel
    obtain ⟨wq, rfl⟩ : ∃ wq, wq = wr := ⟨_, rfl⟩
    by_cases hlt : k < N
    · have k1 : k < cs.length := by rw [← HN.out]; exact hlt
      obtain ⟨b2, o2, B2, d2, e2, hb2, f2, hr2⟩ := (hR1.ck hck).at_ k1
      subst e2
      obtain ⟨hcl2, hw2⟩ := HIN.out _ (List.getElem_mem k1)
      have HDN := Lib.hid (flat_take lks k1)
      have HLK := HLE.out (k + 1)
      rw [HDN.out, List.length_append, lks_len] at HLK
      generalize cs[k] = cc at *
      generalize (cs.take k).flatMap lks = dn at *
      have HRC := Lib.hid hr2
      have HW2 := Lib.hid hw2
      have HCW := Lib.hid hck
      have i0 : (0 : Int) ≤ (k : Int) := by omega
      have i1 : (k : Int) < (N : Int) := by omega
      obtain ⟨n2, hn2⟩ : ∃ n2, n2 = cc.length := ⟨_, rfl⟩
      have HN2 := Lib.hid hn2
      rw [← hn2] at f2 hcl2 HLK
      clear hr2 hw2 k1 hck hn2
      go_wp2_with fail
      go_loopw [8, 23] (fun vl vi wz => ∃ i : Nat, vi = .int .i64 (i : Int) ∧ i ≤ n2 ∧ vl = .int .i64 (if i = 0 then 0 else idAt cc (i - 1)) ∧ Below w.heap.size w wz ∧ CK wq wz ∧ LMap wz b (dn.length + i) (mpOf (dn ++ (lks cc).take i))) (fun _ vi _ => n2 - (intOf vi).toNat)
      case atStart => exact ⟨0, rfl, by omega, rfl, hB, CK.refl _, by simpa using hM⟩
      case round =>
        clear hB hM f2
        obtain ⟨i, rfl, hi, rfl, hB, hck, hM⟩ := hrel
        by_cases hlt2 : i < n2
        · have i2 : i < cc.length := by rw [← HN2.out]; exact hlt2
          have hnd := HRC.out.ck hck
          obtain ⟨b3, o3, e3, hb3, hc3⟩ := hnd (by intro e; rw [e] at i2; simp at i2)
          subst e3
          obtain ⟨f1, f2, f3⟩ := hc3 i i2
          have hyw := HW2.out _ (List.getElem_mem i2)
          have HID : Hid (idAt cc i = cc[i].id) := Lib.hid (idAt_lt i2)
          have HLT := Lib.hid (lks_take i2)
          have HNX : Hid (∀ hh : i + 1 < n2, idAt cc (i + 1) = (cc[i + 1]'(by rw [← HN2.out]; exact hh)).id) := Lib.hid fun hh => idAt_lt (by rw [← HN2.out]; exact hh)
          have HNZ : Hid (¬ i + 1 < n2 → idAt cc (i + 1) = 0) := Lib.hid fun hh => idAt_ge (by rw [← HN2.out]; omega)
          have HG : Hid (∀ hh : i + 1 < n2, wr.cell? ⟨b3, o3 + (i + 1) * 3, none⟩ = some (.int .i64 (cc[i + 1]'(by rw [← HN2.out]; exact hh)).id)) := Lib.hid fun hh => (hc3 (i + 1) (by rw [← HN2.out]; exact hh)).1
          obtain ⟨D, hm, hD⟩ := hM
          have HD := Lib.hid hD
          clear hc3 hnd hD
          generalize cc[i] = y at *
          obtain ⟨yi, yk, yw⟩ := y
          have j0 : (0 : Int) ≤ (i : Int) := by omega
          have j1 : (i : Int) < (n2 : Int) := by omega
          have hX := Has.new wr 25 #[.int .i64 yi, .string yk, .int .u32 (yw : Int)]
          have x0 := hX.cell 0
          have x1 := hX.cell 1
          have x2 := hX.cell 2
          have hbX := (Below.refl wr.heap.size wr).alloc (Nat.le_refl _) (.cells #[.int .i64 yi, .string yk, .int .u32 (yw : Int)] 25)
          have hmX := hm.alloc (.cells #[.int .i64 yi, .string yk, .int .u32 (yw : Int)] 25)
          have HBX := Lib.hid (hB.trans (hbX.mono hB.size))
          have HKX := Lib.hid (hck.trans (CK.below hbX))
          have HLX : Hid (LMap (wr.alloc (.cells #[.int .i64 yi, .string yk, .int .u32 (yw : Int)] 25)) b (dn.length + i) (mpOf (dn ++ (lks cc).take i))) := Lib.hid ⟨D, hmX, HD.out⟩
          have HXS := Lib.hid hX
          have hkey : keyOf Tryz.prog 3 (.int .i64 yi) = some (.int .i64 yi) := keyOf_int_mk Tryz.underlying3 (WalkArith.wf_i64 hyw.1)
          have hsz : dn.length + i < maxLen := by unfold maxLen; omega
          have hbne : b ≠ wr.heap.size := by have := hm.lt; omega
          obtain ⟨R, hR⟩ : ∃ R : Int, R = idAt cc (i + 1) := ⟨_, rfl⟩
          obtain ⟨L, hL⟩ : ∃ L : Int, L = (if i = 0 then 0 else idAt cc (i - 1)) := ⟨_, rfl⟩
          have HRR := Lib.hid hR
          have HLL := Lib.hid hL
          have HFIN : Hid (∀ (w5 : World) (_ : w5.ownsMap Tryz.prog 3 lkElem b (dn.length + i + 1) (D.put (.int .i64 yi) (lkD ⟨L, R⟩))) (_ : (wr.alloc (.cells #[.int .i64 yi, .string yk, .int .u32 (yw : Int)] 25)).grownBy w5 (some b)),
              w5.cell? ⟨wr.heap.size, 0, none⟩ = some (.int .i64 yi) ∧ Below w.heap.size w w5 ∧ CK wq w5 ∧ LMap w5 b (dn.length + (i + 1)) (mpOf (dn ++ (lks cc).take (i + 1)))) := Lib.hid fun w5 k1 k2 => by
            refine ⟨?_, HBX.out.grown k2 HBX.out.size (fun j e => by have := Option.some.inj e; have := HBB.out; omega), HKX.out.trans (CK.map_ HLX.out k2), ?_⟩
            · exact (World.cell?_of_block (a := ⟨wr.heap.size, 0, none⟩) (k2.block wr.heap.size HXS.out.lt (fun e => hbne (Option.some.inj e).symm))).trans (HXS.out.cell 0)
            · refine ⟨_, k1, ?_⟩
              rw [HLT.out, ← List.append_assoc, HID.out]
              have e : lkAt cc i = ⟨L, R⟩ := by rw [HLL.out, HRR.out]; rfl
              rw [e]
              exact LMap.put_ hm.isMap HD.out yi ⟨L, R⟩
          rw [← hL]
          clear hX hbX hB hck HLX HXS HBX HKX HD HLT hm hL hb3 hyw
          by_cases hnx : i + 1 < n2
          · have hg : (wr.alloc (.cells #[.int .i64 yi, .string yk, .int .u32 (yw : Int)] 25)).cell? ⟨b3, o3 + (i + 1) * 3, none⟩ = some (.int .i64 R) := by
              rw [hR, HNX.out hnx]
              exact CK.below ((Below.refl wr.heap.size wr).alloc (Nat.le_refl _) _) _ _ (HG.out hnx)
            have j2 : (i : Int) + 1 < (n2 : Int) := by omega
            clear HNX HNZ HG hR
            go_wp2_with (at_mapUpdate; refine wpList_mapUpdate_own _ rfl _ _ _ 106 rfl 3 53 lawInt Tryz.underlying106 _ b _ D rfl hmX hsz _ _ _ rfl rfl hkey (lkD ⟨L, R⟩) [] (lkElem_mk _ _) ?_; intro w5 hm5 hgr5; obtain ⟨z0, z1, z2, z3⟩ := HFIN.out w5 hm5 hgr5; have HZ1 := Lib.hid z1; have HZ2 := Lib.hid z2; have HZ3 := Lib.hid z3; clear z1 z2 z3 hm5 hgr5 hg hmX)
            exact ⟨⟨i + 1, by go_num, hlt2, by rw [if_neg (by omega), Nat.add_sub_cancel, HID.out], HZ1.out, HZ2.out, HZ3.out⟩, by simp [intOf]; omega⟩
          · obtain rfl : R = 0 := by rw [hR]; exact HNZ.out hnx
            have j2 : ¬ (i : Int) + 1 < (n2 : Int) := by omega
            clear HNX HNZ HG hR
            go_wp2_with (at_mapUpdate; refine wpList_mapUpdate_own _ rfl _ _ _ 106 rfl 3 53 lawInt Tryz.underlying106 _ b _ D rfl hmX hsz _ _ _ rfl rfl hkey (lkD ⟨L, 0⟩) [] (lkElem_mk _ _) ?_; intro w5 hm5 hgr5; obtain ⟨z0, z1, z2, z3⟩ := HFIN.out w5 hm5 hgr5; have HZ1 := Lib.hid z1; have HZ2 := Lib.hid z2; have HZ3 := Lib.hid z3; clear z1 z2 z3 hm5 hgr5 hmX)
            exact ⟨⟨i + 1, by go_num, hlt2, by rw [if_neg (by omega), Nat.add_sub_cancel, HID.out], HZ1.out, HZ2.out, HZ3.out⟩, by simp [intOf]; omega⟩
        · have ei : i = n2 := by omega
          subst ei
          have HMF := Lib.hid hM
          clear hM
          go_wp2_with fail
          refine ⟨⟨k + 1, by go_num, hlt, hB, HCW.out.trans hck, ?_⟩, by simp [intOf]; omega⟩
          have hM2 := HMF.out
          rw [List.take_of_length_le (by rw [lks_len, HN2.out]; omega)] at hM2
          rw [HDN.out, List.length_append, lks_len, ← HN2.out]
          exact hM2
    · have ek : k = N := by omega
      rw [List.take_of_length_le (by rw [← HN.out]; omega)] at hM
      have HMF := Lib.hid hM
      clear hM
      go_wp2_with fail
      go_ret
      exact ⟨b, _, rfl, HMF.out, hB⟩
end
end Go.Proofs.YtjokbdhineilcaaGreatDoor
