/-
  Plain facts on nodes and links as bytes: encodings, readers (none: failed), and that each is the other's inverse. No condition.
-/
import Derived.Test.YtjokbdhineilcaaGreatDoorKbP
import Derived.Test.YtjokbdhineilcaaGreatDoorKdN
namespace Go.Proofs.YtjokbdhineilcaaGreatDoor

/-- A link, and the links of a node. -/
structure Lk where
  left : Int
  right : Int
deriving DecidableEq, Inhabited
structure Ld where
  id : Int
  levels : List Lk
deriving DecidableEq, Inhabited

abbrev Lk.val (y : Lk) : Value := .agg #[.int .i64 y.left, .int .i64 y.right]
/-- What is left of an encoding; none: the reader failed. -/
abbrev Rdr := Option (List UInt8)
def rdU' (most : Nat) (l : List UInt8) : Nat × Rdr := match decU l with
  | none => (0, none)
  | some (n, k) => if n ≤ most then (n, some (l.drop k)) else (0, none)
def rdU (most : Nat) : Rdr → Nat × Rdr
  | none => (0, none)
  | some l => rdU' most l
def rdI' (l : List UInt8) : Int × Rdr := match decU l with
  | none => (0, none)
  | some (n, k) => (zag n, some (l.drop k))
def rdI : Rdr → Int × Rdr
  | none => (0, none)
  | some l => rdI' l
def rdS' (limit : Int) (l : List UInt8) : ByteArray × Rdr := match decS l limit with
  | .got s k => (⟨s.toArray⟩, some (l.drop k))
  | _ => (ByteArray.empty, none)
def rdS (limit : Int) : Rdr → ByteArray × Rdr
  | none => (ByteArray.empty, none)
  | some l => rdS' limit l
def rdMany {α : Type} (rd : Rdr → α × Rdr) : Nat → Rdr → List α × Rdr
  | 0, r => ([], r)
  | n + 1, r => ((rd r).1 :: (rdMany rd n (rd r).2).1, (rdMany rd n (rd r).2).2)
def rdList {α : Type} (most : Nat) (rd : Rdr → α × Rdr) (r : Rdr) : List α × Rdr := rdMany rd (rdU most r).1 (rdU most r).2

/-- enc writes what rd reads, and rd reads nothing else. -/
structure Codec {α : Type} (enc : α → List UInt8) (rd : Rdr → α × Rdr) (ok : α → Prop) : Prop where
  fwd : ∀ x t, ok x → rd (some (enc x ++ t)) = (x, some t)
  bwd : ∀ r t, (rd r).2 = some t → ok (rd r).1 ∧ r = some (enc (rd r).1 ++ t)

theorem drop_left' {a b : List UInt8} {k : Nat} (h : k = a.length) : (a ++ b).drop k = b := by subst h; exact List.drop_left
theorem rdU_le (most : Nat) (r : Rdr) : (rdU most r).1 ≤ most := by
  cases r with
  | none => exact Nat.zero_le _
  | some l =>
    show (rdU' most l).1 ≤ most
    unfold rdU'
    split
    · exact Nat.zero_le _
    · split
      · assumption
      · exact Nat.zero_le _
theorem codec_nat {most : Nat} (hm : most < 18446744073709551616) : Codec encU (rdU most) (fun n => n ≤ most) where
  fwd x t h := by
    show rdU' most (encU x ++ t) = _
    unfold rdU'
    rw [decU_enc (by omega)]
    simp only
    rw [if_pos h, List.drop_left]
  bwd r t h := by
    cases r with
    | none => cases h
    | some l =>
      change (rdU' most l).2 = some t at h
      show (rdU' most l).1 ≤ most ∧ some l = some (encU (rdU' most l).1 ++ t)
      unfold rdU' at h ⊢
      cases hd : decU l with
      | none => rw [hd] at h; cases h
      | some p =>
        obtain ⟨n, k⟩ := p
        rw [hd] at h
        simp only at h ⊢
        by_cases hn : n ≤ most
        · rw [if_pos hn] at h ⊢
          obtain ⟨_, hk, r, hr⟩ := decU_some hd
          injection h with h
          refine ⟨hn, ?_⟩
          rw [← h, hr, drop_left' hk]
        · rw [if_neg hn] at h
          cases h
theorem codec_int : Codec (fun i => encU (zig i)) rdI (fun i => -9223372036854775808 ≤ i ∧ i ≤ 9223372036854775807) where
  fwd x t h := by
    show rdI' (encU (zig x) ++ t) = _
    unfold rdI'
    rw [decU_enc (zig_lt h.1 h.2)]
    simp only
    rw [List.drop_left, zag_zig]
  bwd r t h := by
    cases r with
    | none => cases h
    | some l =>
      change (rdI' l).2 = some t at h
      show (-9223372036854775808 ≤ (rdI' l).1 ∧ (rdI' l).1 ≤ 9223372036854775807) ∧ some l = some (encU (zig (rdI' l).1) ++ t)
      unfold rdI' at h ⊢
      cases hd : decU l with
      | none => rw [hd] at h; cases h
      | some p =>
        obtain ⟨n, k⟩ := p
        rw [hd] at h
        simp only at h ⊢
        obtain ⟨hn, hk, r, hr⟩ := decU_some hd
        injection h with h
        refine ⟨zag_bd hn, ?_⟩
        rw [← h, zig_zag, hr, drop_left' hk]
theorem codec_str {limit : Nat} (hm : limit < 9223372036854775808) : Codec (fun s : ByteArray => encS s.data.toList) (rdS (limit : Int)) (fun s => s.size ≤ limit) where
  fwd x t h := by
    show rdS' (limit : Int) (encS x.data.toList ++ t) = _
    unfold rdS'
    have hx : x.data.toList.length ≤ limit := by rw [Array.length_toList]; exact h
    rw [decS_enc (by omega) _ (by omega)]
    simp only
    rw [List.drop_left]
  bwd r t h := by
    cases r with
    | none => cases h
    | some l =>
      change (rdS' (limit : Int) l).2 = some t at h
      show (rdS' (limit : Int) l).1.size ≤ limit ∧ some l = some (encS (rdS' (limit : Int) l).1.data.toList ++ t)
      unfold rdS' at h ⊢
      unfold decS at h ⊢
      cases hd : decU l with
      | none => rw [hd] at h; cases h
      | some p =>
        obtain ⟨n, k⟩ := p
        rw [hd] at h
        simp only at h ⊢
        by_cases h1 : ((limit : Int) < 0 ∨ (limit : Int) < (n : Int))
        · rw [if_pos h1] at h
          cases h
        · rw [if_neg h1] at h ⊢
          by_cases h2 : l.length - k < n
          · rw [if_pos h2] at h
            cases h
          · rw [if_neg h2] at h ⊢
            simp only at h ⊢
            obtain ⟨_, hk, r, hr⟩ := decU_some hd
            injection h with h
            have e1 : l.drop k = r := by rw [hr, drop_left' hk]
            have e2 : (r.take n).length = n := by rw [List.length_take, ← e1, List.length_drop]; omega
            refine ⟨?_, ?_⟩
            · show ((l.drop k).take n).toArray.size ≤ limit
              rw [e1, List.size_toArray, e2]
              omega
            · rw [← h]
              show some l = some (encS (((l.drop k).take n)) ++ l.drop (k + n))
              unfold encS
              rw [← List.drop_drop, e1, e2, List.append_assoc, List.take_append_drop, ← hr]
theorem codec_list {α : Type} {enc : α → List UInt8} {rd : Rdr → α × Rdr} {ok : α → Prop} (h : Codec enc rd ok) {most : Nat} (hm : most < 18446744073709551616) : Codec (fun l : List α => encU l.length ++ l.flatMap enc) (rdList most rd) (fun l => l.length ≤ most ∧ ∀ x ∈ l, ok x) := by
  have hf : ∀ (l : List α) t, (∀ x ∈ l, ok x) → rdMany rd l.length (some (l.flatMap enc ++ t)) = (l, some t) := fun l => by
    induction l with
    | nil => intro t _; rfl
    | cons x l ih =>
      intro t hx
      have e : rd (some (enc x ++ (l.flatMap enc ++ t))) = (x, some (l.flatMap enc ++ t)) := h.fwd x _ (hx x List.mem_cons_self)
      show rdMany rd (l.length + 1) (some ((x :: l).flatMap enc ++ t)) = _
      rw [List.flatMap_cons, List.append_assoc, rdMany, e]
      simp only
      rw [ih t (fun y hy => hx y (List.mem_cons_of_mem _ hy))]
  have hb : ∀ (n : Nat) (r : Rdr) t, (rdMany rd n r).2 = some t → (rdMany rd n r).1.length = n ∧ (∀ x ∈ (rdMany rd n r).1, ok x) ∧ r = some ((rdMany rd n r).1.flatMap enc ++ t) := fun n => by
    induction n with
    | zero => intro r t hr; exact ⟨rfl, (fun x hx => by cases hx), hr⟩
    | succ n ih =>
      intro r t hr
      rw [rdMany] at hr ⊢
      simp only at hr ⊢
      obtain ⟨h1, h2, h3⟩ := ih _ t hr
      obtain ⟨h4, h5⟩ := h.bwd r _ h3
      refine ⟨by rw [List.length_cons, h1], ?_, ?_⟩
      · intro x hx
        rcases List.mem_cons.1 hx with rfl | hx
        · exact h4
        · exact h2 x hx
      · rw [List.flatMap_cons, List.append_assoc]
        exact h5
  have hn := codec_nat hm
  refine ⟨fun l t hl => ?_, fun r t hr => ?_⟩
  · show rdMany rd (rdU most (some (encU l.length ++ l.flatMap enc ++ t))).1 (rdU most (some (encU l.length ++ l.flatMap enc ++ t))).2 = _
    rw [List.append_assoc, hn.fwd l.length _ hl.1]
    exact hf l t hl.2
  · unfold rdList at hr ⊢
    obtain ⟨h1, h2, h3⟩ := hb _ _ _ hr
    obtain ⟨h4, h5⟩ := hn.bwd r _ h3
    refine ⟨⟨by rw [h1]; exact h4, h2⟩, ?_⟩
    show r = some (encU (rdMany rd (rdU most r).1 (rdU most r).2).1.length ++ _ ++ t)
    rw [h1, List.append_assoc]
    exact h5

def encNd (x : Nd) : List UInt8 := encU (zig x.id) ++ (encS x.key.data.toList ++ encU x.word)
def rdNd (r : Rdr) : Nd × Rdr := (⟨(rdI r).1, (rdS 64 (rdI r).2).1, (rdU 4294967295 (rdS 64 (rdI r).2).2).1⟩, (rdU 4294967295 (rdS 64 (rdI r).2).2).2)
def Nd.fit (x : Nd) : Prop := (-9223372036854775808 ≤ x.id ∧ x.id ≤ 9223372036854775807) ∧ x.key.size ≤ 64 ∧ x.word ≤ 4294967295
theorem codec_nd : Codec encNd rdNd Nd.fit where
  fwd x t h := by
    have e1 := codec_int.fwd x.id (encS x.key.data.toList ++ (encU x.word ++ t)) h.1
    have e2 := (codec_str (limit := 64) (by omega)).fwd x.key (encU x.word ++ t) h.2.1
    have e3 := (codec_nat (most := 4294967295) (by omega)).fwd x.word t h.2.2
    simp only [Int.cast_ofNat_Int] at e2
    unfold rdNd encNd
    rw [List.append_assoc, List.append_assoc, e1]
    simp only
    rw [e2]
    simp only
    rw [e3]
  bwd r t h := by
    obtain ⟨a3, b3⟩ := (codec_nat (most := 4294967295) (by omega)).bwd _ t h
    obtain ⟨a2, b2⟩ := (codec_str (limit := 64) (by omega)).bwd _ _ b3
    obtain ⟨a1, b1⟩ := codec_int.bwd r _ b2
    refine ⟨⟨a1, a2, a3⟩, ?_⟩
    unfold encNd
    rw [List.append_assoc, List.append_assoc]
    exact b1
def encLk (y : Lk) : List UInt8 := encU (zig y.left) ++ encU (zig y.right)
def rdLk (r : Rdr) : Lk × Rdr := (⟨(rdI r).1, (rdI (rdI r).2).1⟩, (rdI (rdI r).2).2)
def Lk.fit (y : Lk) : Prop := (-9223372036854775808 ≤ y.left ∧ y.left ≤ 9223372036854775807) ∧ (-9223372036854775808 ≤ y.right ∧ y.right ≤ 9223372036854775807)
theorem codec_lk : Codec encLk rdLk Lk.fit where
  fwd x t h := by
    have e1 := codec_int.fwd x.left (encU (zig x.right) ++ t) h.1
    have e2 := codec_int.fwd x.right t h.2
    unfold rdLk encLk
    rw [List.append_assoc, e1]
    simp only
    rw [e2]
  bwd r t h := by
    obtain ⟨a2, b2⟩ := codec_int.bwd _ t h
    obtain ⟨a1, b1⟩ := codec_int.bwd r _ b2
    refine ⟨⟨a1, a2⟩, ?_⟩
    unfold encLk
    rw [List.append_assoc]
    exact b1
def encLd (x : Ld) : List UInt8 := encU (zig x.id) ++ (encU x.levels.length ++ x.levels.flatMap encLk)
def rdLd (r : Rdr) : Ld × Rdr := (⟨(rdI r).1, (rdList 17 rdLk (rdI r).2).1⟩, (rdList 17 rdLk (rdI r).2).2)
def Ld.fit (x : Ld) : Prop := (-9223372036854775808 ≤ x.id ∧ x.id ≤ 9223372036854775807) ∧ x.levels.length ≤ 17 ∧ ∀ y ∈ x.levels, Lk.fit y
theorem codec_ld : Codec encLd rdLd Ld.fit where
  fwd x t h := by
    have e1 := codec_int.fwd x.id ((encU x.levels.length ++ x.levels.flatMap encLk) ++ t) h.1
    have e2 := (codec_list codec_lk (most := 17) (by omega)).fwd x.levels t h.2
    unfold rdLd encLd
    rw [List.append_assoc, e1]
    simp only
    rw [e2]
  bwd r t h := by
    obtain ⟨a2, b2⟩ := (codec_list codec_lk (most := 17) (by omega)).bwd _ t h
    obtain ⟨a1, b1⟩ := codec_int.bwd r _ b2
    refine ⟨⟨a1, a2⟩, ?_⟩
    unfold encLd
    rw [List.append_assoc]
    exact b1

/-- Lists of nodes and of links as bytes, and what is decoded (none: not an encoding). -/
def encNs (l : List Nd) : List UInt8 := encU l.length ++ l.flatMap encNd
def encLds (l : List Ld) : List UInt8 := encU l.length ++ l.flatMap encLd
def decAll {α : Type} (rd : Rdr → α × Rdr) (l : List UInt8) : Option (List α) := match rdList 64 rd (some l) with
  | (x, some []) => some x
  | _ => none
theorem decAll_enc {α : Type} {enc : α → List UInt8} {rd : Rdr → α × Rdr} {ok : α → Prop} (h : Codec enc rd ok) {l : List α} (h1 : l.length ≤ 64) (h2 : ∀ x ∈ l, ok x) : decAll rd (encU l.length ++ l.flatMap enc) = some l := by
  have e := (codec_list h (most := 64) (by omega)).fwd l [] ⟨h1, h2⟩
  rw [List.append_nil] at e
  unfold decAll
  rw [e]
theorem decAll_some {α : Type} {enc : α → List UInt8} {rd : Rdr → α × Rdr} {ok : α → Prop} (h : Codec enc rd ok) {z : List UInt8} {l : List α} (hd : decAll rd z = some l) : l.length ≤ 64 ∧ (∀ x ∈ l, ok x) ∧ encU l.length ++ l.flatMap enc = z := by
  have hb := (codec_list h (most := 64) (by omega)).bwd (some z)
  unfold decAll at hd
  generalize rdList 64 rd (some z) = p at hd hb
  obtain ⟨x, r⟩ := p
  cases r with
  | none => cases hd
  | some t =>
    cases t with
    | cons a t => cases hd
    | nil =>
      injection hd with hd
      obtain ⟨⟨a, b⟩, c⟩ := hb [] rfl
      subst hd
      refine ⟨a, b, ?_⟩
      injection c with c
      rw [c, List.append_nil]
end Go.Proofs.YtjokbdhineilcaaGreatDoor
