/-
  Words on worlds beside a tape that came in; pieces of the laws of layer 1: into whatever a range is cut, the pieces are a chain from its lower to its upper bound, in a row of the call's own. Condition: the tape is one.
-/
import Derived.Test.YtofandkijmbplaaDoorKsL
import Derived.Test.YtofandkijmbplaaDoorKsX
namespace Go.Proofs.YtofandkijmbplaaDoor
open Go.RowKit

/-- The tape g of w is still one, these blocks, made since, hold these cells, and else nothing that was there has turned. -/
def Tst (w : World) (l : List (Nat × TypeId × Array Value)) (g : Nat) (a : World) : Prop := TStep w g a ∧ (∀ p ∈ l, w.heap.size ≤ p.1 ∧ Has a p.1 p.2.1 p.2.2) ∧ g < w.heap.size
section
variable {w a b : World} {l : List (Nat × TypeId × Array Value)} {g : Nat}
theorem Tst.nil (h : Tape w g) : Tst w [] g w := ⟨TStep.refl h, (fun _ h => by cases h), h.lt⟩
theorem Tst.below (h : Tst w l g a) (k : Below a.heap.size a b) : Tst w l g b := ⟨h.1.below k, fun p hp => ⟨(h.2.1 p hp).1, (h.2.1 p hp).2.below k⟩, h.2.2⟩
theorem Tst.step (h : Tst w l g a) (k : TStep a g b) : Tst w l g b := ⟨h.1.trans k, fun p hp => ⟨(h.2.1 p hp).1, (k.2.block p.1 (h.2.1 p hp).2.lt (fun e => by have := (h.2.1 p hp).1; have := h.2.2; have := Option.some.inj e; omega)).trans (h.2.1 p hp).2⟩, h.2.2⟩
theorem Tst.size (h : Tst w l g a) : w.heap.size ≤ a.heap.size := h.1.2.size
theorem Tst.add (h : Tst w l g a) (t : TypeId) (cs : Array Value) : Tst w ((a.heap.size, t, cs) :: l) g (a.alloc (.cells cs t)) :=
  ⟨h.1.alloc _, fun p hp => by
    rcases List.mem_cons.1 hp with rfl | hp
    · exact ⟨h.size, Has.new a t cs⟩
    · exact ⟨(h.2.1 p hp).1, (h.2.1 p hp).2.alloc _⟩, h.2.2⟩
theorem Tst.alloc (h : Tst w l g a) (o : Obj) : Tst w l g (a.alloc o) := h.below ((Below.refl _ _).alloc (Nat.le_refl _) o)
theorem Tst.tl {p : Nat × TypeId × Array Value} (h : Tst w (p :: l) g a) : Tst w l g a := ⟨h.1, fun q hq => h.2.1 q (.tail _ hq), h.2.2⟩
theorem Tst.hd {p : Nat × TypeId × Array Value} (h : Tst w (p :: l) g a) : (∀ o, a.cell? ⟨p.1, o, none⟩ = p.2.2[o]?) ∧ (∀ o, a.frozen? ⟨p.1, o, none⟩ = false) :=
  ⟨fun o => (h.2.1 p (.head _)).2.cell o, fun o => (h.2.1 p (.head _)).2.frozen o⟩
theorem Tst.lt {p : Nat × TypeId × Array Value} (h : Tst w (p :: l) g a) : w.heap.size ≤ p.1 ∧ p.1 < a.heap.size := ⟨(h.2.1 p (.head _)).1, (h.2.1 p (.head _)).2.lt⟩
theorem Tst.drew (h : Tst w l g a) : Tst w l g a.drew := ⟨h.1.drewN 1, h.2.1, h.2.2⟩
theorem Tst.tape (h : Tst w l g a) : Tape a g := h.1.1
/-- A row of the call's own has grown, or a new one was made. -/
theorem Tst.grown {r : Option Nat} (h : Tst w l g a) (k : a.grownBy b r) (hr : ∀ i, r = some i → w.heap.size ≤ i ∧ ∀ p ∈ l, p.1 ≠ i) : Tst w l g b := by
  have hg : some g ≠ r := fun e => by have := (hr g e.symm).1; have := h.2.2; omega
  obtain ⟨hl, h0, A, n, c, q, h1, h2, hn, hb⟩ := h.1.1
  have hgl := blk_lt hb
  have hk : ∀ i, i < w.heap.size → b.heap[i]? = a.heap[i]? := fun i hi => k.block i (Nat.lt_of_lt_of_le hi h.size) (fun e => by have := (hr i e.symm).1; omega)
  have hg2 := h.2.2
  refine ⟨⟨⟨hl.keep (hk _ (by omega)), h0, A, n, c, q, h1, h2, hn.keep (fun i hi => hk i (by omega)), (hk g hg2).trans hb⟩, ?_⟩, fun p hp => ⟨(h.2.1 p hp).1, (k.block p.1 (h.2.1 p hp).2.lt (fun e => (hr p.1 e.symm).2 p hp rfl)).trans (h.2.1 p hp).2⟩, hg2⟩
  exact ⟨k.os.trans h.1.2.os, k.tape.trans h.1.2.tape, k.output.trans h.1.2.output, Nat.le_trans h.1.2.size k.size, fun i hi hne => (hk i hi).trans (h.1.2.block i hi hne)⟩
theorem Tst.put2 {B : Nat} {t : TypeId} {x y u v : Value} (h : Tst w ((B, t, #[x, y]) :: l) g a) (hne : ∀ q ∈ l, q.1 ≠ B) : Tst w ((B, t, #[u, v]) :: l) g ((a.setCell ⟨B, 0, none⟩ u).setCell ⟨B, 1, none⟩ v) := by
  have hB := h.2.1 _ (.head _)
  simp only at hB
  have hk : ∀ i, i ≠ B → ((a.setCell ⟨B, 0, none⟩ u).setCell ⟨B, 1, none⟩ v).heap[i]? = a.heap[i]? := fun i hi => (Below.heap_setCell _ _ _ i hi).trans (Below.heap_setCell _ _ _ i hi)
  have hg2 := h.2.2
  obtain ⟨hl, h0, A, n, c, q, h1, h2, hn, hb⟩ := h.1.1
  refine ⟨⟨⟨hl.keep (hk _ (by omega)), h0, A, n, c, q, h1, h2, hn.keep (fun i hi => hk i (by omega)), (hk g (by omega)).trans hb⟩, ?_⟩, fun p hp => ?_, hg2⟩
  · exact ⟨h.1.2.os, h.1.2.tape, h.1.2.output, by simpa [World.setCell] using h.1.2.size, fun i hi hne => (hk i (by omega)).trans (h.1.2.block i hi hne)⟩
  · rcases List.mem_cons.1 hp with rfl | hp
    · exact ⟨hB.1, (hB.2.set_ 0 u).set_ 1 v⟩
    · exact ⟨(h.2.1 p (.tail _ hp)).1, (hk p.1 (hne p hp)).trans (h.2.1 p (.tail _ hp)).2⟩
end

/-- A chain of ranges from a to b, none of them Empty. -/
def Ch : Bd → List Rg → Bd → Prop
  | a, [], b => a = b
  | a, x :: l, b => x.lo = a ∧ x.lo.cmp x.hi < 0 ∧ x.hi.ok = true ∧ Ch x.hi l b
theorem Ch.snoc {a b c : Bd} {l : List Rg} (h : Ch a l b) (hc : c.ok = true) (k : b.cmp c < 0) : Ch a (l ++ [⟨b, c⟩]) c := by
  induction l generalizing a with
  | nil => cases h; exact ⟨rfl, k, hc, rfl⟩
  | cons x l ih => exact ⟨h.1, h.2.1, h.2.2.1, ih h.2.2.2⟩

/-- What pieces gives. -/
def PiecesP (r : Rg) (g : Nat) (w : World) (e : Ending) (w' : World) : Prop :=
  ∃ (l : List Rg) (v : Value), 1 ≤ l.length ∧ l.length ≤ 5 ∧ (r.emp = false → Ch r.lo l r.hi) ∧ e = .returned v ∧ w'.ownsRow w.heap.size 30 4 v l.length (flat l) ∧ TStep w g w'

theorem pieces_more {r : Rg} {out : List Rg} {at' b : Bd} (h : Hid (r.emp = false → Ch r.lo out at' ∧ at'.cmp r.hi < 0)) (hb : b.ok = true) (h1 : at'.cmp b < 0) (h2 : b.cmp r.hi < 0) : Hid (r.emp = false → Ch r.lo (out ++ [⟨at', b⟩]) b ∧ b.cmp r.hi < 0) :=
  Lib.hid fun e => ⟨(h.out e).1.snoc hb h1, h2⟩
theorem pieces_end {r : Rg} {out : List Rg} {at' : Bd} (h : Hid (r.emp = false → Ch r.lo out at' ∧ at'.cmp r.hi < 0)) : r.emp = false → Ch r.lo (out ++ [⟨at', r.hi⟩]) r.hi :=
  fun e => (h.out e).1.snoc (emp_false.1 e).2.1 (h.out e).2
theorem flat_one (a b : Bd) : flat [⟨a, b⟩] = [.string a.key, .bool a.top, .string b.key, .bool b.top] := rfl

theorem news4 (w : World) (u0 u1 u2 u3 : Value) (t : TypeId) : ∀ j u, ([u0, u1, u2, u3] : List Value)[j]? = some u → (w.alloc (.cells #[u0, u1, u2, u3] t)).cell? ((⟨w.heap.size, 0, none⟩ : Addr).add j) = some u := by
  have hN := Has.new w t #[u0, u1, u2, u3]
  intro j u hj
  match j, hj with
  | 0, hj => simp at hj; subst hj; exact hN.cell 0
  | 1, hj => simp at hj; subst hj; exact hN.cell 1
  | 2, hj => simp at hj; subst hj; exact hN.cell 2
  | 3, hj => simp at hj; subst hj; exact hN.cell 3
theorem ones4 (s t : ByteArray) (p q : Bool) : ∀ u ∈ ([.string s, .bool p, .string t, .bool q] : List Value), u.oneCell' = true := by
  intro u hu; simp at hu; rcases hu with rfl | rfl | rfl | rfl <;> rfl

theorem own_step {w w' : World} {base g : Nat} {e : TypeId} {size n : Nat} {v : Value} {xs : List Value} (h : w.ownsRow base e size v n xs) (k : TStep w g w') (hg : g < base) : w'.ownsRow base e size v n xs := by
  obtain ⟨h1, h2 | ⟨b, cap, cur, h3, h4, h5, h6⟩⟩ := h
  · exact ⟨h1, .inl h2⟩
  · exact ⟨h1, .inr ⟨b, cap, cur, h3, h4, (k.2.block b (Has.lt h5) (fun e => by have := Option.some.inj e; omega)).trans h5, h6⟩⟩
theorem own_put2 {w : World} {base : Nat} {e : TypeId} {size n B o1 o2 : Nat} {v u1 u2 : Value} {xs : List Value} (h : w.ownsRow base e size v n xs) (hB : B < base) : ((w.setCell ⟨B, o1, none⟩ u1).setCell ⟨B, o2, none⟩ u2).ownsRow base e size v n xs := by
  obtain ⟨h1, h2 | ⟨b, cap, cur, h3, h4, h5, h6⟩⟩ := h
  · exact ⟨h1, .inl h2⟩
  · exact ⟨h1, .inr ⟨b, cap, cur, h3, h4, ((Below.heap_setCell _ _ _ b (by (show b ≠ B); omega)).trans (Below.heap_setCell _ _ _ b (by (show b ≠ B); omega))).trans h5, h6⟩⟩
theorem own_less {w : World} {base base' : Nat} {e : TypeId} {size n : Nat} {v : Value} {xs : List Value} (h : w.ownsRow base e size v n xs) (hb : base' ≤ base) : w.ownsRow base' e size v n xs := by
  obtain ⟨h1, h2 | ⟨b, cap, cur, h3, h4, h5, h6⟩⟩ := h
  · exact ⟨h1, .inl h2⟩
  · exact ⟨h1, .inr ⟨b, cap, cur, h3, Nat.le_trans hb h4, h5, h6⟩⟩

set_option maxRecDepth 100000 in
set_option maxHeartbeats 6400000 in
theorem pieces_any (r : Rg) (g : Nat) (w : World) (ht : Tape w g) :
    Calls Tryd.prog 24 #[.pointer (some ⟨g, 0, none⟩), r.val] w (PiecesP r g w) := by
  obtain ⟨i0, hi0, hz0, hz1, hz2⟩ := info_parts infoRange
  have hI := (Tst.nil ht).add 30 #[.string r.lo.key, .bool r.lo.top, .string r.hi.key, .bool r.hi.top]
  have hgl := ht.lt
  clear ht
  replace hI := hI.add 28 #[.string r.lo.key, .bool r.lo.top]
  simp only [World.size_alloc] at hI
  have hK0 : Hid (r.emp = false → Ch r.lo [] r.lo ∧ r.lo.cmp r.hi < 0) := Lib.hid fun e => ⟨rfl, (emp_false.1 e).2.2⟩
  go_enter Tryd.func24, Tryd.ntmps24
  go_wp2_with fail
  refine (next_any g _ _ hI.tape (by omega)).mono ?_
  rintro e w1 ⟨k0, r0, r1, rfl, hst⟩
  replace hI := hI.step hst
  have r2 := next_lt r1 (by decide)
  clear hst r1
  go_wp2_with fail
  obtain ⟨kk, rfl⟩ := Int.eq_ofNat_of_zero_le r0
  have hown := World.ownsRow_nil w1 (w.heap.size + 2) 30 4
  have hw1 := hI.size
  have hlB := hI.lt
  simp only at hlB
  replace r2 : kk < 5 := by omega
  clear r0
  go_loopw [5, 7] (fun out i wr => ∃ (k : Nat) (l : List Rg) (at' : Bd), l.length + k ≤ 4 ∧ i = .int .i64 k ∧ wr.ownsRow (w.heap.size + 2) 30 4 out l.length (flat l) ∧
    Tst w [(w.heap.size + 1, 28, #[Value.string at'.key, Value.bool at'.top]), (w.heap.size, 30, #[Value.string r.lo.key, Value.bool r.lo.top, Value.string r.hi.key, Value.bool r.hi.top])] g wr ∧ w.heap.size + 2 ≤ wr.heap.size ∧
    Hid (r.emp = false → Ch r.lo l at' ∧ at'.cmp r.hi < 0)) (fun _ i _ => (intOf i).toNat)
  case atStart => exact ⟨kk, [], r.lo, by (show 0 + kk ≤ 4; omega), rfl, hown, hI, by omega, hK0⟩
  case round =>
    clear hI hown hK0 r2 hlB hw1
    obtain ⟨k, l, ⟨ak, at'⟩, hlk, rfl, hown, hI, hsz, HC⟩ := hrel
    obtain ⟨c6, f6⟩ := hI.hd
    obtain ⟨c3, f3⟩ := hI.tl.hd
    simp only at c6 f6 c3 f3
    by_cases hlt : 0 < k
    · go_wp2_with fail
      refine (key_any g _ hI.tape).mono ?_
      rintro e w2 ⟨bk, hbk, rfl, hst⟩
      have HB := Lib.hid hown.lt
      have hq2 := hst.2.size
      have hbok : Bd.ok ⟨bk, false⟩ = true := by (show vk bk = true); unfold vk; simp; omega
      have ho2 := own_below (own_step hown hst (by omega)) ((Below.refl _ _).alloc (Nat.le_refl _) (.cells #[.string bk, .bool false] 28))
      replace hI := (hI.step hst).add 28 #[.string bk, .bool false]
      clear hst c6 f6 c3 f3 hbk
      obtain ⟨c8, f8⟩ := hI.hd
      obtain ⟨c6, f6⟩ := hI.tl.hd
      obtain ⟨c3, f3⟩ := hI.tl.tl.hd
      simp only at c6 f6 c3 f3 c8 f8
      go_wp2_with (first | (go_at_call 33; refine (cmp_ref ⟨_, _⟩ ⟨_, _⟩ _).mono ?_; rintro e w3 ⟨rfl, hb3⟩; replace hI := hI.below hb3; replace ho2 := own_below ho2 hb3; (have hq3 : w2.heap.size < w3.heap.size := hI.lt.2); clear hb3 c6 f6 c3 f3 c8 f8; obtain ⟨c8, f8⟩ := hI.hd; obtain ⟨c6, f6⟩ := hI.tl.hd; obtain ⟨c3, f3⟩ := hI.tl.tl.hd; simp only at c6 f6 c3 f3 c8 f8) | (at_builtin; refine wpList_append_own _ rfl _ _ 23 rfl (w.heap.size + 2) 30 i0 _ 4 48 Tryd.underlying23 hi0 hz0 hz1 hz2 rfl (by decide) _ _ _ rfl (own_below ho2 ((Below.refl _ _).alloc (Nat.le_refl _) _)) ⟨w3.heap.size, 0, none⟩ 1 1 [.string ak, .bool at', .string bk, .bool false] rfl rfl (news4 _ _ _ _ _ _) (ones4 _ _ _ _) ?c3 ?c4 ?c5 ?_))
      case c3 => unfold maxLen; omega
      case c4 => omega
      case c5 => simp; omega
      · intro v' w4 hown' hgrow hnil
        have hI4 := (hI.alloc _).grown hgrow (fun i e => by
          obtain ⟨h1, h2⟩ := HB.out i e
          exact ⟨by omega, by simp; omega⟩)
        clear c6 f6 c3 f3 c8 f8 hI
        obtain ⟨c8, f8⟩ := hI4.hd
        obtain ⟨c6, f6⟩ := hI4.tl.hd
        simp only at c6 f6 c8 f8
        go_wp2
        go_roundw
        case rel => exact ⟨k - 1, l ++ [⟨⟨ak, at'⟩, ⟨bk, false⟩⟩], ⟨bk, false⟩, by rw [List.length_append]; (show l.length + 1 + (k - 1) ≤ 4); omega, by congr 1; omega, by rw [List.length_append, flat_snoc]; exact own_put2 hown' (by omega), hI4.tl.put2 (by simp), (by have := hI4.lt; simp [World.setCell]; simp at this; omega), pieces_more HC hbok (by omega) (by omega)⟩
        case measure => simp [intOf]; omega
      all_goals
        go_roundw
        case rel => exact ⟨k - 1, l, ⟨ak, at'⟩, by omega, by congr 1; omega, ho2, hI.tl, by have := hI.tl.tl.lt; omega, HC⟩
        case measure => simp [intOf]; omega
    · go_wp2_with (at_builtin; refine wpList_append_own _ rfl _ _ 23 rfl (w.heap.size + 2) 30 i0 _ 4 48 Tryd.underlying23 hi0 hz0 hz1 hz2 rfl (by decide) _ _ _ rfl (own_below hown ((Below.refl _ _).alloc (Nat.le_refl _) _)) ⟨wr.heap.size, 0, none⟩ 1 1 [.string ak, .bool at', .string r.hi.key, .bool r.hi.top] rfl rfl (news4 _ _ _ _ _ _) (ones4 _ _ _ _) ?c3 ?c4 ?c5 ?_)
      case c3 => unfold maxLen; omega
      case c4 => omega
      case c5 => omega
      all_goals
        intro v' w2 hown' hgrow hnil
        go_wp2
        go_ret
        exact ⟨_, v', by rw [List.length_append]; exact Nat.le_add_left _ _, by simp; omega, pieces_end HC, rfl, by rw [List.length_append, flat_snoc]; exact own_less hown' (by omega), ((hI.alloc _).grown hgrow (fun i e => by
          obtain ⟨h1, h2⟩ := hown.lt i e
          exact ⟨by omega, by simp; omega⟩)).1⟩
end Go.Proofs.YtofandkijmbplaaDoor
