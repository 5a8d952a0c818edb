/-
  Words on rows of ranges: a row that was made reads as its list, part of it reads as part of the list, and with one element stored anew as the list with that element. No condition.
-/
import Derived.Test.YtofandkijmbplaaDoorKtA
namespace Go.Proofs.YtofandkijmbplaaDoor
open Go.RowKit

theorem flat_append (a b : List Rg) : flat (a ++ b) = flat a ++ flat b := by unfold flat; rw [List.flatMap_append]
theorem flat_ones (l : List Rg) : ∀ u ∈ flat l, u.oneCell' = true := by
  intro u hu
  unfold flat at hu
  obtain ⟨r, _, h⟩ := List.mem_flatMap.1 hu
  simp at h
  rcases h with rfl | rfl | rfl | rfl <;> rfl
theorem Rgs.more {w : World} {B B' : Nat} {A : Option Addr} {l : List Rg} (h : Rgs w B A l) (hB : B ≤ B') : Rgs w B' A l := fun hn => by
  obtain ⟨b, o, e, hb, hc⟩ := h hn
  exact ⟨b, o, e, by omega, hc⟩

/-- The cells at the head of cur are the list's. -/
def Row (cur : Array Value) (l : List Rg) : Prop := ∀ i (h : i < l.length) j, j < 4 → cur[i * 4 + j]? = ([.string l[i].lo.key, .bool l[i].lo.top, .string l[i].hi.key, .bool l[i].hi.top] : List Value)[j]?
theorem row_of_take {cur : Array Value} {l : List Rg} (h : cur.toList.take (l.length * 4) = flat l) : Row cur l := fun i hi j hj => by
  rw [← flat_at l i hi j hj, ← h, List.getElem?_take_of_lt (by omega), Array.getElem?_toList]
theorem rgs_of_row {w : World} {G : Nat} {cur : Array Value} {t : TypeId} {l : List Rg} (h : Has w G t cur) (k : Row cur l) : Rgs w w.heap.size (some ⟨G, 0, none⟩) l := fun _ => by
  refine ⟨G, 0, rfl, h.lt, fun i hi => ?_⟩
  have e : ∀ j, j < 4 → w.cell? ⟨G, 0 + i * 4 + j, none⟩ = ([.string l[i].lo.key, .bool l[i].lo.top, .string l[i].hi.key, .bool l[i].hi.top] : List Value)[j]? := fun j hj => by
    rw [Nat.zero_add, h.cell]; exact k i hi j hj
  exact ⟨e 0 (by omega), e 1 (by omega), e 2 (by omega), e 3 (by omega)⟩
theorem row_size {cur : Array Value} {l : List Rg} (k : Row cur l) {n : Nat} (hn : n < l.length) : n * 4 + 3 < cur.size := by
  have := k n hn 3 (by omega)
  rcases Nat.lt_or_ge (n * 4 + 3) cur.size with h | h
  · exact h
  · rw [Array.getElem?_eq_none (by omega)] at this; cases this
theorem row_set4 {cur : Array Value} {l : List Rg} (k : Row cur l) {n : Nat} (hn : n < l.length) (y : Rg) :
    Row ((((cur.setIfInBounds (n * 4) (.string y.lo.key)).setIfInBounds (n * 4 + 1) (.bool y.lo.top)).setIfInBounds (n * 4 + 2) (.string y.hi.key)).setIfInBounds (n * 4 + 3) (.bool y.hi.top)) (l.set n y) := fun i hi j hj => by
  have hs := row_size k hn
  by_cases e : i = n
  · subst e
    match j, hj with
    | 0, _ | 1, _ | 2, _ | 3, _ => simp [show i * 4 < cur.size by omega, show i * 4 + 1 < cur.size by omega, show i * 4 + 2 < cur.size by omega, hs]
  · have hi' : i < l.length := by simpa using hi
    have := k i hi' j hj
    simp only [Array.getElem?_setIfInBounds]
    rw [if_neg (by omega), if_neg (by omega), if_neg (by omega), if_neg (by omega), this, List.getElem_set_ne (by omega)]
theorem row_set2 {cur : Array Value} {l : List Rg} (k : Row cur l) {n : Nat} (hn : n < l.length) (b : Bd) :
    Row ((cur.setIfInBounds (n * 4 + 2) (.string b.key)).setIfInBounds (n * 4 + 3) (.bool b.top)) (l.set n ⟨l[n].lo, b⟩) := fun i hi j hj => by
  have hs := row_size k hn
  by_cases e : i = n
  · subst e
    have h0 := k i hn 0 (by omega)
    have h1 := k i hn 1 (by omega)
    match j, hj with
    | 0, _ => simp only [Array.getElem?_setIfInBounds]; rw [if_neg (by omega), if_neg (by omega), h0]; simp
    | 1, _ => simp only [Array.getElem?_setIfInBounds]; rw [if_neg (by omega), if_neg (by omega), h1]; simp
    | 2, _ | 3, _ => simp [show i * 4 + 2 < cur.size by omega, hs]
  · have hi' : i < l.length := by simpa using hi
    have := k i hi' j hj
    simp only [Array.getElem?_setIfInBounds]
    rw [if_neg (by omega), if_neg (by omega), this, List.getElem_set_ne (by omega)]

theorem add_at (G o j : Nat) : (⟨G, o, none⟩ : Addr).add j = ⟨G, o + j, none⟩ := by unfold Addr.add; split <;> simp_all
/-- Part of a row reads as part of the list. -/
theorem cells_drop {w : World} {G : Nat} {cur : Array Value} {t : TypeId} {l : List Rg} (h : Has w G t cur) (k : cur.toList.take (l.length * 4) = flat l) {n : Nat} (hn : n ≤ l.length) : ∀ j u, (flat (l.drop n))[j]? = some u → w.cell? ((⟨G, n * 4, none⟩ : Addr).add j) = some u := fun j u hu => by
  rw [add_at, h.cell]
  have e : flat l = flat (l.take n) ++ flat (l.drop n) := by rw [← flat_append, List.take_append_drop]
  have hl : (flat (l.take n)).length = n * 4 := by rw [flat_len, List.length_take]; omega
  have h2 : (flat l)[n * 4 + j]? = some u := by rw [e, List.getElem?_append_right (by omega), show n * 4 + j - (flat (l.take n)).length = j by omega]; exact hu
  rw [← k] at h2
  have hlt : n * 4 + j < l.length * 4 := by
    rcases Nat.lt_or_ge (n * 4 + j) (l.length * 4) with h3 | h3
    · exact h3
    · rw [List.getElem?_take_eq_none h3] at h2; cases h2
  rw [List.getElem?_take_of_lt hlt, Array.getElem?_toList] at h2
  exact h2
theorem cells_take {w : World} {G : Nat} {cur : Array Value} {t : TypeId} {l : List Rg} (h : Has w G t cur) (k : cur.toList.take (l.length * 4) = flat l) {n : Nat} (_hn : n ≤ l.length) : ∀ j u, (flat (l.take n))[j]? = some u → w.cell? ((⟨G, 0, none⟩ : Addr).add j) = some u := fun j u hu => by
  rw [add_at, h.cell]
  have e : flat l = flat (l.take n) ++ flat (l.drop n) := by rw [← flat_append, List.take_append_drop]
  have hlt : j < (flat (l.take n)).length := by
    rcases Nat.lt_or_ge j (flat (l.take n)).length with h3 | h3
    · exact h3
    · rw [List.getElem?_eq_none h3] at hu; cases hu
  have hl : (flat (l.take n)).length = (l.take n).length * 4 := flat_len _
  have hl2 : (l.take n).length ≤ l.length := by rw [List.length_take]; omega
  have h2 : (flat l)[j]? = some u := by rw [e, List.getElem?_append_left hlt]; exact hu
  rw [← k, List.getElem?_take_of_lt (by omega), Array.getElem?_toList] at h2
  rw [Nat.zero_add]; exact h2
theorem flat_take_len {l : List Rg} {n : Nat} (h : n ≤ l.length) : (flat (l.take n)).length = n * 4 := by rw [flat_len, List.length_take]; omega
theorem flat_drop_len {l : List Rg} {n : Nat} : (flat (l.drop n)).length = (l.length - n) * 4 := by rw [flat_len, List.length_drop]
/-- A row of the call's own reads as its list, and is named. -/
theorem own_row {w : World} {base n : Nat} {v : Value} {l : List Rg} (h : w.ownsRow base 30 4 v n (flat l)) (hn : n = l.length) (h0 : 0 < l.length) : ∃ G cap cur, v = .slice (some ⟨G, 0, none⟩) l.length cap ∧ base ≤ G ∧ Has w G 30 cur ∧ l.length ≤ cap ∧ cap ≤ maxLen ∧ cur.toList.take (l.length * 4) = flat l := by
  subst hn
  obtain ⟨h1, ⟨rfl, h2⟩ | ⟨G, cap, cur, rfl, h4, h5, h6, h7, h8, h9⟩⟩ := h
  · omega
  · exact ⟨G, cap, cur, rfl, h4, h5, h6, h7, h9⟩
theorem own_rgs5 {w : World} {base : Nat} {v : Value} {l : List Rg} (h : w.ownsRow base 30 4 v l.length (flat l)) : ∃ A c, v = .slice A l.length c ∧ l.length ≤ c ∧ c ≤ maxLen ∧ Rgs w w.heap.size A l := by
  rcases Nat.eq_zero_or_pos l.length with h0 | h0
  · have hl : l = [] := List.eq_nil_of_length_eq_zero h0
    subst hl
    obtain ⟨_, ⟨rfl, _⟩ | ⟨g, cap, cur, rfl, _, _, h6, h7, _⟩⟩ := h
    · exact ⟨none, 0, rfl, Nat.le_refl _, by unfold maxLen; omega, fun h => absurd rfl h⟩
    · exact ⟨_, cap, rfl, h6, h7, fun h => absurd rfl h⟩
  · obtain ⟨G, cap, cur, rfl, _, h5, h6, h7, h9⟩ := own_row h rfl h0
    exact ⟨_, cap, rfl, h6, h7, rgs_of_row h5 (row_of_take h9)⟩
theorem rgs_own2 {w : World} {base n : Nat} {v : Value} {a b : List Rg} (h : w.ownsRow base 30 4 v n (flat a ++ flat b)) (hn : n = (a ++ b).length) : ∃ (l : List Rg) (A : Option Addr) (c : Nat), v = .slice A l.length c ∧ l.length ≤ c ∧ c ≤ maxLen ∧ Rgs w w.heap.size A l := by
  subst hn
  rw [← flat_append] at h
  exact ⟨_, own_rgs5 h⟩
theorem blw_grown {a b : World} (h : a.grownBy b none) : Below a.heap.size a b := ⟨h.os, h.tape, h.output, h.size, fun k hk => h.block k hk (by simp)⟩
theorem rgs_on {w w' : World} {A : Option Addr} {l : List Rg} (h : Rgs w w.heap.size A l) (k : Below w.heap.size w w') : Rgs w' w'.heap.size A l := (h.keep (fun i hi => k.block i hi)).more k.size
theorem At.put4 {w a : World} {l : List (Nat × TypeId × Array Value)} {g B : Nat} {t : TypeId} {x0 x1 x2 x3 : Value} (h : At w ((B, t, #[x0, x1, x2, x3]) :: l) g a) (hB : w.heap.size ≤ B) (hg : g < B) (hne : ∀ q ∈ l, q.1 < B) (u0 u1 u2 u3 : Value) :
    At w ((B, t, #[u0, u1, u2, u3]) :: l) g ((((a.setCell ⟨B, 0, none⟩ u0).setCell ⟨B, 1, none⟩ u1).setCell ⟨B, 2, none⟩ u2).setCell ⟨B, 3, none⟩ u3) := by
  have h1 := h.1.2 _ (.head _)
  have h2 := (((((h.tl.setC (p := ⟨B, 0, none⟩) hB hg hne u0)).setC (p := ⟨B, 1, none⟩) hB hg hne u1)).setC (p := ⟨B, 2, none⟩) hB hg hne u2).setC (p := ⟨B, 3, none⟩) hB hg hne u3
  refine ⟨⟨h2.1.1, fun q hq => ?_⟩, h2.2⟩
  rcases List.mem_cons.1 hq with rfl | hq
  · exact (((h1.set_ 0 u0).set_ 1 u1).set_ 2 u2).set_ 3 u3
  · exact h2.1.2 q hq
theorem row_take {cur : Array Value} {l : List Rg} (k : Row cur l) (n : Nat) : Row cur (l.take n) := fun i hi j hj => by
  rw [List.length_take] at hi
  rw [k i (by omega) j hj, List.getElem_take]
theorem row_cells {w : World} {G : Nat} {cur : Array Value} {t : TypeId} {l : List Rg} (h : Has w G t cur) (k : Row cur l) {n : Nat} (hn : n < l.length) :
    w.cell? ⟨G, n * 4, none⟩ = some (.string l[n].lo.key) ∧ w.cell? ⟨G, n * 4 + 1, none⟩ = some (.bool l[n].lo.top) ∧ w.cell? ⟨G, n * 4 + 2, none⟩ = some (.string l[n].hi.key) ∧ w.cell? ⟨G, n * 4 + 3, none⟩ = some (.bool l[n].hi.top) :=
  ⟨(h.cell _).trans (k n hn 0 (by omega)), (h.cell _).trans (k n hn 1 (by omega)), (h.cell _).trans (k n hn 2 (by omega)), (h.cell _).trans (k n hn 3 (by omega))⟩
theorem has_grown {w w' : World} {G : Nat} {cur : Array Value} {t : TypeId} (h : Has w G t cur) (k : w.grownBy w' none) : Has w' G t cur := h.below (blw_grown k)
theorem rgs_own3 {w : World} {base n : Nat} {v : Value} {a b : List Rg} {y : Rg} (h : w.ownsRow base 30 4 v n (flat a ++ [.string y.lo.key, .bool y.lo.top, .string y.hi.key, .bool y.hi.top] ++ flat b)) (hn : n = (a ++ [y] ++ b).length) : ∃ (l : List Rg) (A : Option Addr) (c : Nat), v = .slice A l.length c ∧ l.length ≤ c ∧ c ≤ maxLen ∧ Rgs w w.heap.size A l := by
  rw [← flat_snoc] at h
  exact rgs_own2 h hn

theorem step_append_ownv {P : Program} {ops : Array Oper} {o : Oper} {a : Act} {w : World} {K : Act → World → Prop} {Q : Exit → Act → World → Prop} {E : Prop} (hgd : o.guard = none) (s x : Operand) (t : TypeId)
    (ho : o.op = .call { callee := .builtin .append, args := #[s, x], argTypes := #[t, t] })
    (base : Nat) (e : TypeId) (i : TypeInfo) (z : Value) (size bytes : Nat) (ht : P.underlying t = some (.slice e)) (hi : P.info? e = some i) (hz : i.zero = some z)
    (hsize : i.size = size) (hby : i.bytes = bytes) (hzs : z.cells.size = size) (hsz : 0 < size)
    (v : Value) (n : Nat) (xs : List Value) (hs : a.eval s = v) (hown : w.ownsRow base e size v n xs)
    (ad : Addr) (m c : Nat) (news : List Value) (hx : a.eval x = .slice (some ad) m c) (hl : news.length = m * size) (hnews : ∀ j u, news[j]? = some u → w.cell? (ad.add j) = some u) (h1 : ∀ u ∈ news, u.oneCell' = true)
    (h63 : n + m ≤ maxLen) (hbytes : (n + m) * bytes ≤ 140737488355328) (hbase : base ≤ w.heap.size)
    (h : ∀ v' w', w'.ownsRow base e size v' (n + m) (xs ++ news) → w.grownBy w' v.ownBlock → (v' = .slice none 0 0 ↔ v = .slice none 0 0 ∧ m = 0) → K (a.put o.dst v') w') :
    if Region.wanted o (yielded ops a.tmps) = true then Oper.wp P o a w K Q else E := by
  have hw : Region.wanted o (yielded ops a.tmps) = true := by simp [Region.wanted, hgd]
  rw [if_pos hw]
  exact wp_append_own w s x t ho base e i z size bytes ht hi hz hsize hby hzs hsz v n xs hs hown ad m c news hx hl hnews h1 h63 hbytes hbase h
end Go.Proofs.YtofandkijmbplaaDoor
