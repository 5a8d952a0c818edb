/-
  Searches (plain): the hops of a route over links and where it ends. Conditions: where said, the nodes are a roster.
  Searches (plain): on exact links every search ends at the owner of the key; runs. Conditions: the nodes are a roster.
-/
import Derived.Test.YtjokbdhineilcaaGreatDoorLpA
namespace Go.Proofs.YtjokbdhineilcaaGreatDoor
section
open Go.RowKit


/-- A hop. -/
structure Hp where
  src : Int
  dst : Int
  lvl : Int
deriving DecidableEq, Inhabited

/-! the side of a search, and one step -/
/-- b is farther than a, to the right or to the left. -/
def far (r : Bool) (a b : Nd) : Bool := if r then kl a.key b.key else kl b.key a.key
/-- The link of a side. -/
def lkS (r : Bool) (y : Lk) : Int := if r then y.right else y.left
/-- The node to which a search hops at a level. -/
def nxO (l : List Nd) (k : List Ld) (q : ByteArray) (r : Bool) (x : Nd) (t : Nat) : Option Nd :=
  if plc l (lkS r (atV k x.id (t : Int))) < l.length ∧ far r x (fndV l (lkS r (atV k x.id (t : Int)))) = true ∧ kl q (fndV l (lkS r (atV k x.id (t : Int)))).key = !r then some (fndV l (lkS r (atV k x.id (t : Int)))) else none
/-- How many nodes are farther. -/
def dsV (r : Bool) (l : List Nd) (x : Nd) : Nat := (l.filter fun y => far r x y).length
theorem far_trans {r : Bool} {a b c : Nd} (h : far r a b = true) (k : far r b c = true) : far r a c = true := by
  cases r with
  | true => exact kl_trans h k
  | false => exact kl_trans (a := c.key) (b := b.key) (c := a.key) k h
theorem far_irrefl (r : Bool) (a : Nd) : far r a a = false := by cases r <;> exact kl_irrefl _
theorem flt_lt {α : Type} {p q : α → Bool} : ∀ {l : List α}, (∀ x ∈ l, p x = true → q x = true) → (∃ y ∈ l, q y = true ∧ p y = false) → (l.filter p).length < (l.filter q).length
  | [], _, ⟨_, h, _⟩ => by simp at h
  | z :: l, hs, ⟨y, hy, h1, h2⟩ => by
    have hle : ∀ {m : List α}, (∀ x ∈ m, p x = true → q x = true) → (m.filter p).length ≤ (m.filter q).length := by
      intro m hm
      induction m with
      | nil => simp
      | cons a m ih =>
        have i := ih fun x hx => hm x (List.mem_cons_of_mem _ hx)
        have ha := hm a List.mem_cons_self
        cases hp : p a <;> cases hq : q a <;> simp [hp, hq] <;> simp [hp, hq] at ha <;> omega
    have hz := hs z List.mem_cons_self
    have hm := hle (m := l) fun x hx => hs x (List.mem_cons_of_mem _ hx)
    rcases List.mem_cons.1 hy with rfl | hy'
    · simp [h1, h2]; omega
    · have i := flt_lt (l := l) (fun x hx => hs x (List.mem_cons_of_mem _ hx)) ⟨y, hy', h1, h2⟩
      cases hp : p z <;> cases hq : q z <;> simp [hp, hq] <;> simp [hp, hq] at hz <;> omega
theorem flt_le {α : Type} {p q : α → Bool} {m : List α} (hm : ∀ x ∈ m, p x = true → q x = true) : (m.filter p).length ≤ (m.filter q).length := by
  induction m with
  | nil => simp
  | cons a m ih =>
    have i := ih fun x hx => hm x (List.mem_cons_of_mem _ hx)
    have ha := hm a List.mem_cons_self
    cases hp : p a <;> cases hq : q a <;> simp [hp, hq] <;> simp [hp, hq] at ha <;> omega
theorem fnd_in {l : List Nd} {id : Int} (h : plc l id < l.length) : fndV l id ∈ l ∧ (fndV l id).id = id := by
  unfold fndV
  rw [List.getElem?_eq_getElem h, Option.getD_some]
  exact ⟨List.getElem_mem h, plc_id h⟩
section
variable {l : List Nd} {k : List Ld} {q : ByteArray} {r : Bool}
theorem nxO_some {x y : Nd} {t : Nat} (h : nxO l k q r x t = some y) : y ∈ l ∧ y.id = lkS r (atV k x.id (t : Int)) ∧ y = fndV l (lkS r (atV k x.id (t : Int))) ∧ far r x y = true ∧ kl q y.key = !r := by
  unfold nxO at h
  split at h
  · rename_i h1
    injection h with h
    subst h
    exact ⟨(fnd_in h1.1).1, (fnd_in h1.1).2, rfl, h1.2.1, h1.2.2⟩
  · cases h
theorem nxO_ds {x y : Nd} {t : Nat} (h : nxO l k q r x t = some y) : dsV r l y < dsV r l x := by
  obtain ⟨h1, _, _, h2, _⟩ := nxO_some h
  exact flt_lt (fun z _ hz => far_trans h2 hz) ⟨y, h1, h2, far_irrefl _ _⟩

/-! the hops -/
def goV (l : List Nd) (k : List Ld) (q : ByteArray) (r : Bool) : Nat → Nd → Nat → List Hp × Nd
  | 0, x, _ => ([], x)
  | _ + 1, x, 0 => ([], x)
  | f + 1, x, t + 1 => match nxO l k q r x t with
    | none => goV l k q r f x t
    | some y => (⟨x.id, y.id, (t : Int)⟩ :: (goV l k q r f y (t + 1)).1, (goV l k q r f y (t + 1)).2)
theorem goV_ge : ∀ (f g : Nat) (x : Nd) (t : Nat), dsV r l x + t ≤ f → dsV r l x + t ≤ g → goV l k q r f x t = goV l k q r g x t
  | 0, g, x, t, h1, _ => by
    obtain rfl : t = 0 := by omega
    cases g <;> rfl
  | f + 1, g, x, 0, _, _ => by cases g <;> rfl
  | f + 1, 0, x, t + 1, _, h2 => by omega
  | f + 1, g + 1, x, t + 1, h1, h2 => by
    unfold goV
    cases h : nxO l k q r x t with
    | none => exact goV_ge f g x t (by omega) (by omega)
    | some y =>
      have hd := nxO_ds h
      simp only
      rw [goV_ge f g y (t + 1) (by omega) (by omega)]
/-- The hops from a node on, at the levels below t, and where they end. -/
def rtW (l : List Nd) (k : List Ld) (q : ByteArray) (r : Bool) (x : Nd) (t : Nat) : List Hp × Nd := goV l k q r (dsV r l x + t) x t
theorem rt_zero (x : Nd) : rtW l k q r x 0 = ([], x) := by
  unfold rtW
  cases dsV r l x + 0 <;> rfl
theorem rt_down {x : Nd} {t : Nat} (h : nxO l k q r x t = none) : rtW l k q r x (t + 1) = rtW l k q r x t := by
  have e : goV l k q r (dsV r l x + t + 1) x (t + 1) = goV l k q r (dsV r l x + t) x t := by
    rw [goV, h]
  exact e
theorem rt_hop {x y : Nd} {t : Nat} (h : nxO l k q r x t = some y) : rtW l k q r x (t + 1) = (⟨x.id, y.id, (t : Int)⟩ :: (rtW l k q r y (t + 1)).1, (rtW l k q r y (t + 1)).2) := by
  have hd := nxO_ds h
  have e : goV l k q r (dsV r l x + t + 1) x (t + 1) = (⟨x.id, y.id, (t : Int)⟩ :: (goV l k q r (dsV r l x + t) y (t + 1)).1, (goV l k q r (dsV r l x + t) y (t + 1)).2) := by
    rw [goV, h]
  have e2 : goV l k q r (dsV r l x + t) y (t + 1) = rtW l k q r y (t + 1) := goV_ge _ _ y (t + 1) (by omega) (by omega)
  rw [e2] at e
  exact e
theorem rt_ind {P : Nd → Nat → Prop} (h0 : ∀ x, P x 0) (hd : ∀ x t, nxO l k q r x t = none → P x t → P x (t + 1)) (hh : ∀ x t y, nxO l k q r x t = some y → P y (t + 1) → P x (t + 1)) : ∀ x t, P x t := by
  have : ∀ n x t, dsV r l x + t ≤ n → P x t := by
    intro n
    induction n with
    | zero =>
      intro x t h
      obtain rfl : t = 0 := by omega
      exact h0 x
    | succ n ih =>
      intro x t h
      cases t with
      | zero => exact h0 x
      | succ t =>
        cases e : nxO l k q r x t with
        | none => exact hd x t e (ih x t (by omega))
        | some y => exact hh x t y e (ih y (t + 1) (by have := nxO_ds e; omega))
  exact fun x t => this _ x t (Nat.le_refl _)
theorem rt_in : ∀ (x : Nd) (t : Nat), x ∈ l → (rtW l k q r x t).2 ∈ l :=
  rt_ind (P := fun x t => x ∈ l → (rtW l k q r x t).2 ∈ l) (fun x h => by rw [rt_zero]; exact h) (fun x t e i h => by rw [rt_down e]; exact i h) (fun x t y e i _ => by rw [rt_hop e]; exact i (nxO_some e).1)
theorem rt_side : ∀ (x : Nd) (t : Nat), kl q x.key = !r → kl q (rtW l k q r x t).2.key = !r :=
  rt_ind (P := fun x t => kl q x.key = !r → kl q (rtW l k q r x t).2.key = !r) (fun x h => by rw [rt_zero]; exact h) (fun x t e i h => by rw [rt_down e]; exact i h) (fun x t y e i _ => by rw [rt_hop e]; exact i (nxO_some e).2.2.2.2)
theorem rt_none : ∀ (x : Nd) (t : Nat), 0 < t → nxO l k q r (rtW l k q r x t).2 0 = none :=
  rt_ind (P := fun x t => 0 < t → nxO l k q r (rtW l k q r x t).2 0 = none) (fun x h => by omega) (fun x t e i _ => by
    rw [rt_down e]
    cases t with
    | zero => rw [rt_zero]; exact e
    | succ t => exact i (by omega)) (fun x t y e i h => by rw [rt_hop e]; exact i h)
/-- Where hops end. -/
def endV (id : Int) (h : List Hp) : Int := (h.getLast?.map Hp.dst).getD id
theorem endV_nil (id : Int) : endV id [] = id := rfl
theorem endV_cons (id : Int) (a : Hp) (h : List Hp) : endV id (a :: h) = endV a.dst h := by
  unfold endV
  cases h with
  | nil => rfl
  | cons b h => simp [List.getLast?_cons]
theorem endV_snoc (id : Int) (a : Hp) (h : List Hp) : endV id (h ++ [a]) = a.dst := by unfold endV; simp
theorem rt_end : ∀ (x : Nd) (t : Nat), endV x.id (rtW l k q r x t).1 = (rtW l k q r x t).2.id :=
  rt_ind (P := fun x t => endV x.id (rtW l k q r x t).1 = (rtW l k q r x t).2.id) (fun x => by rw [rt_zero]; rfl) (fun x t e i => by rw [rt_down e]; exact i) (fun x t y e i => by
    rw [rt_hop e, endV_cons]
    exact i)
/-- The one hop more at the end of a search to the left. -/
def lstO (l : List Nd) (k : List Ld) (q : ByteArray) (r : Bool) (x : Nd) : List Hp :=
  if r = false ∧ plc l (atV k x.id 0).left < l.length ∧ kl q (fndV l (atV k x.id 0).left).key = false then [⟨x.id, (fndV l (atV k x.id 0).left).id, 0⟩] else []
/-- The hops of a search of a key from a node. -/
def rteW (l : List Nd) (k : List Ld) (q : ByteArray) (x : Nd) : List Hp := (rtW l k q (!kl q x.key) x 17).1 ++ lstO l k q (!kl q x.key) (rtW l k q (!kl q x.key) x 17).2
/-- The error of a search. -/
def rteE (l : List Nd) (id : Int) (q : ByteArray) : Int := if chkV l = 0 ∧ vk q = true then (if plc l id < l.length then 0 else 6) else 1
/-- Its hops; none, where there is an error. -/
def rteR (l : List Nd) (k : List Ld) (id : Int) (q : ByteArray) : List Hp := if rteE l id q = 0 then rteW l k q (fndV l id) else []
/-- Levels without links make no difference. -/
theorem nx_zero {x : Nd} {t : Nat} (hc : chkV l = 0) (h : atV k x.id (t : Int) = ⟨0, 0⟩) : nxO l k q r x t = none := by
  unfold nxO
  rw [h]
  have : lkS r (⟨0, 0⟩ : Lk) = 0 := by cases r <;> rfl
  rw [this, if_neg fun e => plc_zero hc e.1]
theorem rt_from {x : Nd} {m : Nat} (hc : chkV l = 0) (h : ∀ t : Nat, m ≤ t → atV k x.id (t : Int) = ⟨0, 0⟩) : ∀ n : Nat, m ≤ n → rtW l k q r x n = rtW l k q r x m
  | 0, hm => by obtain rfl : m = 0 := by omega
                rfl
  | n + 1, hm => by
    rcases Nat.lt_or_ge n m with g | g
    · obtain rfl : m = n + 1 := by omega
      rfl
    · rw [rt_down (nx_zero hc (h n g)), rt_from hc h n g]
end
end
section
open Go.RowKit


/-! neighbours on the left -/
theorem left_of {l : List Nd} (hc : chkV l = 0) {h : Int} (h0 : 0 ≤ h) (h16 : h ≤ 16) {x : Nd} (hx : x ∈ l) :
    (∃ r ∈ l, (nbL l x.id h).left = r.id ∧ kl r.key x.key = true ∧ h ≤ (cm r.word x.word : Int) ∧ ∀ z ∈ l, kl z.key x.key = true → h ≤ (cm z.word x.word : Int) → kl r.key z.key = false) ∨ ((nbL l x.id h).left = 0 ∧ ∀ z ∈ l, kl z.key x.key = true → ¬ h ≤ (cm z.word x.word : Int)) := by
  have hr := ros_of hc
  have hxs := srt_mem.2 hx
  obtain ⟨_, e1⟩ := nb_in hc h0 h16 hx
  rw [e1]
  have hg := grp_self h16 hxs
  have hsub := grp_sub (srt l) h x.word
  have hA : Asc (grp (srt l) h x.word) := hr.asc.sublist hsub
  have hP := hr.apart.sublist hsub
  have hin : ∀ z ∈ l, h ≤ (cm z.word x.word : Int) → z ∈ grp (srt l) h x.word := fun z hz k => List.mem_filter.2 ⟨srt_mem.2 hz, by simpa using k⟩
  have hrt : (lnk (srt l) h x).left = if plc (grp (srt l) h x.word) x.id = 0 then 0 else idAt (grp (srt l) h x.word) (plc (grp (srt l) h x.word) x.id - 1) := rfl
  obtain ⟨p, hp, hpx, hpe⟩ : ∃ (p : Nat) (hp : p < (grp (srt l) h x.word).length), (grp (srt l) h x.word)[p] = x ∧ plc (grp (srt l) h x.word) x.id = p := ⟨_, plc_mem hg, plc_self hP hg, rfl⟩
  rw [hrt, hpe]
  rcases Nat.eq_zero_or_pos p with hq | hq
  · right
    rw [if_pos hq]
    refine ⟨rfl, fun z hz k1 k2 => ?_⟩
    obtain ⟨q, hq2, rfl⟩ := List.getElem_of_mem (hin z hz k2)
    have := (asc_iff hA hq2 hp).1 (by rw [hpx]; exact k1)
    omega
  · left
    have hp1 : p - 1 < (grp (srt l) h x.word).length := by omega
    have hm := List.getElem_mem hp1
    rw [if_neg (by omega)]
    refine ⟨_, srt_mem.1 (hsub.subset hm), idAt_lt hp1, ?_, ?_, ?_⟩
    · have := asc_at hA (show p - 1 < p by omega) hp
      rwa [hpx] at this
    · simpa using (List.mem_filter.1 hm).2
    · intro z hz k1 k2
      obtain ⟨q, hq2, rfl⟩ := List.getElem_of_mem (hin z hz k2)
      have := (asc_iff hA hq2 hp).1 (by rw [hpx]; exact k1)
      cases hk : kl (grp (srt l) h x.word)[p - 1].key (grp (srt l) h x.word)[q].key with
      | false => rfl
      | true =>
        have := (asc_iff hA hp1 hq2).1 hk
        omega
theorem fnd_of {l : List Nd} (hc : chkV l = 0) {x : Nd} (hx : x ∈ l) : fndV l x.id = x ∧ plc l x.id < l.length := ⟨fnd_self (chkV_zero.1 hc).2.2 hx, plc_mem hx⟩
/-- Over an exact link: there is no hop just if no node of the list of the level is beyond, up to the key. -/
theorem nx_exact {l : List Nd} {k : List Ld} {q : ByteArray} {r : Bool} (hc : chkV l = 0) {t : Nat} (ht : t ≤ 16) {x : Nd} (hx : x ∈ l) (he : atV k x.id (t : Int) = nbL l x.id (t : Int)) :
    (nxO l k q r x t = none → ∀ z ∈ l, (t : Int) ≤ (cm z.word x.word : Int) → far r x z = true → kl q z.key = !r → False) ∧ (∀ y, nxO l k q r x t = some y → (t : Int) ≤ (cm y.word x.word : Int)) := by
  have hL := left_of hc (h := (t : Int)) (by omega) (by omega) hx
  have hR := right_of hc (h := (t : Int)) (by omega) (by omega) hx
  unfold nxO
  rw [he]
  cases r with
  | true =>
    simp only [lkS, far, if_pos, Bool.not_true]
    rcases hR with ⟨y, hy, e, k1, k2, _, k3⟩ | ⟨e, k1⟩
    · rw [e, (fnd_of hc hy).1]
      constructor
      · intro h z hz h1 h2 h3
        have h4 := k3 z hz h2 h1
        have h5 : kl q y.key = false := kl_ntrans h3 h4
        rw [if_pos ⟨(fnd_of hc hy).2, k1, h5⟩] at h
        cases h
      · intro z h
        split at h
        · injection h with h; rw [← h]; exact k2
        · cases h
    · rw [e]
      constructor
      · intro _ z hz h1 h2 _; exact k1 z hz h2 h1
      · intro z h
        rw [if_neg fun e => plc_zero hc e.1] at h
        cases h
  | false =>
    simp only [lkS, far, Bool.false_eq_true, if_false, Bool.not_false]
    rcases hL with ⟨y, hy, e, k1, k2, k3⟩ | ⟨e, k1⟩
    · rw [e, (fnd_of hc hy).1]
      constructor
      · intro h z hz h1 h2 h3
        have h4 := k3 z hz h2 h1
        have h5 : kl q y.key = true := by
          cases hk : kl q y.key with
          | true => rfl
          | false => rw [kl_ntrans hk h4] at h3; cases h3
        rw [if_pos ⟨(fnd_of hc hy).2, k1, h5⟩] at h
        cases h
      · intro z h
        split at h
        · injection h with h; rw [← h]; exact k2
        · cases h
    · rw [e]
      constructor
      · intro _ z hz h1 h2 _; exact k1 z hz h2 h1
      · intro z h
        rw [if_neg fun e => plc_zero hc e.1] at h
        cases h
theorem grp_zero (l : List Nd) (v : Nat) : grp l 0 v = l := by
  unfold grp
  rw [List.filter_eq_self]
  intro x _
  simp
/-- On the links of level 0 every search ends at the owner. -/
theorem rte_owner {l : List Nd} {k : List Ld} {q : ByteArray} {x : Nd} (hc : chkV l = 0) (hx : x ∈ l) (he : ∀ z ∈ l, atV k z.id 0 = nbL l z.id 0) : endV x.id (rteW l k q x) = (ownV (srt l) q).id := by
  have hr := ros_of hc
  unfold rteW
  generalize hrr : (!kl q x.key) = r
  have hs0 : kl q x.key = !r := by rw [← hrr]; simp
  have hz := rt_in (k := k) (q := q) (r := r) x 17 hx
  have hsd := rt_side (l := l) (k := k) x 17 hs0
  have hnn := rt_none (l := l) (k := k) (q := q) (r := r) x 17 (by omega)
  have hen := rt_end (l := l) (k := k) (q := q) (r := r) x 17
  generalize (rtW l k q r x 17).1 = H at *
  generalize (rtW l k q r x 17).2 = z at *
  have hzs := srt_mem.2 hz
  obtain ⟨i, hi, hiz⟩ := List.getElem_of_mem hzs
  have hmem : ∀ j (h : j < (srt l).length), (srt l)[j] ∈ l := fun j h => srt_mem.1 (List.getElem_mem h)
  have hX := (nx_exact (q := q) (r := r) hc (t := 0) (by omega) hz (he z hz)).1 hnn
  have hX : ∀ y ∈ l, far r z y = true → kl q y.key = !r → False := fun y hy => hX y hy (by omega)
  cases r with
  | true =>
    have hl0 : lstO l k q true z = [] := by unfold lstO; rw [if_neg (by simp)]
    rw [hl0, List.append_nil, hen]
    have ha : abv (srt l) q = i + 1 := by
      refine abv_uniq (by omega) (fun j hj h => ?_) (fun j hj h => ?_)
      · rcases Nat.lt_or_ge j i with g | g
        · have := asc_at hr.asc g hi
          rw [hiz] at this
          have h2 : kl q z.key = false := hsd
          exact kl_ntrans h2 (kl_asymm this)
        · obtain rfl : j = i := by omega
          rw [hiz]; exact hsd
      · have := asc_at hr.asc (show i < j by omega) hj
        rw [hiz] at this
        cases hk : kl q (srt l)[j].key with
        | true => rfl
        | false => exact (hX _ (hmem j hj) this hk).elim
    unfold ownV
    rw [ha, Nat.add_sub_cancel, List.getElem?_eq_getElem hi, hiz]
    rfl
  | false =>
    have hL := left_of hc (h := 0) (by omega) (by omega) hz
    have h0 := he z hz
    rcases hL with ⟨y, hy, e, k1, _, k3⟩ | ⟨e, k1⟩
    · have hyk : kl q y.key = false := by
        cases hk : kl q y.key with
        | false => rfl
        | true => exact (hX y hy k1 hk).elim
      have hl0 : lstO l k q false z = [⟨z.id, y.id, 0⟩] := by
        unfold lstO
        rw [h0, e, (fnd_of hc hy).1, if_pos ⟨rfl, (fnd_of hc hy).2, hyk⟩]
      rw [hl0, endV_snoc]
      obtain ⟨j, hj, hjy⟩ := List.getElem_of_mem (srt_mem.2 hy)
      have hji : j < i := (asc_iff hr.asc hj hi).1 (by rw [hjy, hiz]; exact k1)
      have ha : abv (srt l) q = j + 1 := by
        refine abv_uniq (by omega) (fun t ht h => ?_) (fun t ht h => ?_)
        · rcases Nat.lt_or_ge t j with g | g
          · have := asc_at hr.asc g hj
            rw [hjy] at this
            exact kl_ntrans hyk (kl_asymm this)
          · obtain rfl : t = j := by omega
            rw [hjy]; exact hyk
        · rcases Nat.lt_or_ge t i with g | g
          · have g1 := asc_at hr.asc g hi
            have g2 := asc_at hr.asc (show j < t by omega) ht
            rw [hiz] at g1
            rw [hjy] at g2
            have := k3 _ (hmem t ht) g1 (by omega)
            rw [this] at g2
            cases g2
          · have hq : kl q z.key = true := hsd
            rcases Nat.eq_or_lt_of_le g with g | g
            · subst g
              rw [hiz]; exact hq
            · have := asc_at hr.asc g ht
              rw [hiz] at this
              exact kl_trans hq this
      unfold ownV
      rw [ha, Nat.add_sub_cancel, List.getElem?_eq_getElem hj, hjy]
      rfl
    · have hl0 : lstO l k q false z = [] := by
        unfold lstO
        rw [h0, e, if_neg fun h => plc_zero hc h.2.1]
      rw [hl0, List.append_nil, hen]
      have hi0 : i = 0 := by
        rcases Nat.eq_zero_or_pos i with g | g
        · exact g
        · have := asc_at hr.asc g hi
          rw [hiz] at this
          exact (k1 _ (hmem 0 (by omega)) this (by omega)).elim
      subst hi0
      have ha : abv (srt l) q = 0 := by
        refine abv_uniq (by omega) (fun t ht h => by omega) (fun t ht _ => ?_)
        have hq : kl q z.key = true := hsd
        rcases Nat.eq_zero_or_pos t with g | g
        · subst g
          rw [hiz]; exact hq
        · have := asc_at hr.asc g ht
          rw [hiz] at this
          exact kl_trans hq this
      unfold ownV
      rw [ha, List.getElem?_eq_getElem hi, hiz]
      rfl

/-! runs -/
/-- The greatest number of elements next to one another for which p is false. -/
def runF (p : Nd → Bool) : List Nd → Nat → Nat → Nat
  | [], _, b => b
  | y :: C, n, b => runF p C (if p y then 0 else n + 1) (max b (if p y then 0 else n + 1))
theorem runF_ge (p : Nd → Bool) : ∀ (C : List Nd) (n b : Nat), b ≤ runF p C n b
  | [], _, _ => Nat.le_refl _
  | _ :: C, _, _ => Nat.le_trans (Nat.le_max_left _ _) (runF_ge p C _ _)
theorem runF_in (p : Nd → Bool) : ∀ (M B : List Nd) (n b : Nat), n ≤ b → (∀ y ∈ M, p y = false) → n + M.length ≤ runF p (M ++ B) n b
  | [], B, n, b, h, _ => Nat.le_trans h (runF_ge p B n b)
  | y :: M, B, n, b, h, hp => by
    have e := hp y List.mem_cons_self
    have i := runF_in p M B (n + 1) (max b (n + 1)) (Nat.le_max_right _ _) fun z hz => hp z (List.mem_cons_of_mem _ hz)
    rw [List.cons_append, runF, e]
    simp only [Bool.false_eq_true, if_false, List.length_cons]
    omega
theorem runF_past (p : Nd → Bool) : ∀ (A D : List Nd) (n b : Nat), n ≤ b → ∃ n' b', n' ≤ b' ∧ runF p (A ++ D) n b = runF p D n' b'
  | [], D, n, b, h => ⟨n, b, h, rfl⟩
  | y :: A, D, n, b, h => by
    obtain ⟨n', b', h1, h2⟩ := runF_past p A D (if p y then 0 else n + 1) (max b (if p y then 0 else n + 1)) (Nat.le_max_right _ _)
    exact ⟨n', b', h1, by rw [List.cons_append, runF, h2]⟩
theorem runF_seg (p : Nd → Bool) (A M B : List Nd) (hp : ∀ y ∈ M, p y = false) : M.length ≤ runF p (A ++ (M ++ B)) 0 0 := by
  obtain ⟨n, b, h1, h2⟩ := runF_past p A (M ++ B) 0 0 (Nat.le_refl _)
  rw [h2]
  exact Nat.le_trans (by omega) (runF_in p M B n b h1 hp)
theorem runF_le (p : Nd → Bool) : ∀ (C : List Nd) (n b : Nat), runF p C n b ≤ max b (n + (C.filter fun y => !p y).length)
  | [], n, b => Nat.le_max_left _ _
  | y :: C, n, b => by
    have i := runF_le p C (if p y then 0 else n + 1) (max b (if p y then 0 else n + 1))
    rw [runF]
    cases e : p y <;> simp [e] at i ⊢ <;> omega
theorem split_up {g : Nd → Bool} : ∀ {C : List Nd}, C.Pairwise (fun a b => g a = true → g b = true) → ∃ A D, C = A ++ D ∧ (∀ y ∈ A, g y = false) ∧ ∀ y ∈ D, g y = true
  | [], _ => ⟨[], [], rfl, by simp, by simp⟩
  | y :: C, h => by
    rw [List.pairwise_cons] at h
    cases e : g y with
    | true =>
      refine ⟨[], y :: C, rfl, by simp, fun z hz => ?_⟩
      rcases List.mem_cons.1 hz with rfl | hz
      · exact e
      · exact h.1 z hz e
    | false =>
      obtain ⟨A, D, h1, h2, h3⟩ := split_up h.2
      refine ⟨y :: A, D, by rw [h1]; rfl, fun z hz => ?_, h3⟩
      rcases List.mem_cons.1 hz with rfl | hz
      · exact e
      · exact h2 z hz
/-- What is between two cuts of an ascending list, and none of which p counts, is at most as many as the run. -/
theorem run_seg {p a b : Nd → Bool} {C : List Nd} (ha : C.Pairwise fun x y => a x = true → a y = true) (hb : C.Pairwise fun x y => b x = true → b y = true) (hp : ∀ y ∈ C, a y = true → b y = false → p y = false) : (C.filter fun y => a y && !b y).length ≤ runF p C 0 0 := by
  obtain ⟨A, D, rfl, hA, hD⟩ := split_up ha
  obtain ⟨M, B, rfl, hM, hB⟩ := split_up (hb.sublist (List.sublist_append_right A D))
  have e : (A ++ (M ++ B)).filter (fun y => a y && !b y) = M := by
    have e1 : A.filter (fun y => a y && !b y) = [] := List.filter_eq_nil_iff.2 (fun y hy => by simp [hA y hy])
    have e2 : B.filter (fun y => a y && !b y) = [] := List.filter_eq_nil_iff.2 (fun y hy => by simp [hB y hy])
    have e3 : M.filter (fun y => a y && !b y) = M := List.filter_eq_self.2 (fun y hy => by simp [hD y (List.mem_append_left _ hy), hM y hy])
    rw [List.filter_append, List.filter_append, e1, e2, e3]
    simp
  rw [e]
  exact runF_seg p A M B fun y hy => hp y (List.mem_append_right _ (List.mem_append_left _ hy)) (hD y (List.mem_append_left _ hy)) (hM y hy)
/-- A node that a run of a level does not count. -/
def pin (x : Nd) (t : Nat) (y : Nd) : Bool := decide (y.id = x.id) || decide ((t : Int) + 1 ≤ (cm y.word x.word : Int))
def runL (l : List Nd) (x : Nd) (t : Nat) : Nat := runF (pin x t) (grp (srt l) (t : Int) x.word) 0 0
/-- What Run and Bound answer. -/
def runR (l : List Nd) (id h : Int) : Nat := if chkV l = 0 ∧ lvB h = true ∧ plc l id < l.length then runL l (fndV l id) h.toNat else 0
def sumR (f : Nat → Nat) : Nat → Nat
  | 0 => 0
  | n + 1 => sumR f n + f n
def bndR (l : List Nd) (id : Int) : Nat := if chkV l = 0 ∧ plc l id < l.length then 1 + sumR (runL l (fndV l id)) 17 else 0
theorem sumR_mono (f : Nat → Nat) {m n : Nat} (h : m ≤ n) : sumR f m ≤ sumR f n := by
  induction n with
  | zero => obtain rfl : m = 0 := by omega
            exact Nat.le_refl _
  | succ n ih =>
    rcases Nat.lt_or_ge m (n + 1) with g | g
    · have := ih (by omega)
      rw [sumR]; omega
    · obtain rfl : m = n + 1 := by omega
      exact Nat.le_refl _
end
end Go.Proofs.YtjokbdhineilcaaGreatDoor
