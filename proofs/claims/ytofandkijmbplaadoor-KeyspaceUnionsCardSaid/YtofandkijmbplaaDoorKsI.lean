/-
  Subtract of package keyspace: what it answers, in a new row, in every world; it only makes memory. No condition.
-/
import Derived.Test.YtofandkijmbplaaDoorKsG
import Derived.Test.YtofandkijmbplaaDoorKsH
namespace Go.Proofs.YtofandkijmbplaaDoor
open Go.RowKit

def Rg.subK (a b : Rg) : List Rg := if b.emp then keep [a] else if a.emp then [] else keep [⟨a.lo, a.hi.loK b.lo⟩, ⟨a.lo.hiK b.hi, a.hi⟩]

theorem rgs_new (W : World) (l : List Rg) : Rgs (W.alloc (.cells (flat l).toArray 30)) (W.alloc (.cells (flat l).toArray 30)).heap.size (some ⟨W.heap.size, 0, none⟩) l := fun hne => by
  clear hne
  refine ⟨_, _, rfl, by simp, fun i hi => ?_⟩
  have hN := (Has.new W 30 (flat l).toArray).cell
  have key : ∀ j, j < 4 → (flat l)[i * 4 + j]? = ([.string l[i].lo.key, .bool l[i].lo.top, .string l[i].hi.key, .bool l[i].hi.top] : List Value)[j]? := by
    intro j hj
    clear hN
    induction l generalizing i with
    | nil => simp at hi
    | cons x l ih =>
      show ([Value.string x.lo.key, .bool x.lo.top, .string x.hi.key, .bool x.hi.top] ++ flat l)[i * 4 + j]? = _
      cases i with
      | zero =>
        rw [List.getElem?_append_left (by simp; omega)]
        simp
      | succ i =>
        rw [List.getElem?_append_right (by simp; omega)]
        have := ih i (by simpa using hi)
        have e : (i + 1) * 4 + j - [Value.string x.lo.key, .bool x.lo.top, .string x.hi.key, .bool x.hi.top].length = i * 4 + j := by simp; omega
        rw [e]
        exact this
  have cell : ∀ j, j < 4 → (W.alloc (.cells (flat l).toArray 30)).cell? ⟨W.heap.size, 0 + i * 4 + j, none⟩ = ([.string l[i].lo.key, .bool l[i].lo.top, .string l[i].hi.key, .bool l[i].hi.top] : List Value)[j]? := fun j hj => by
    rw [hN, Nat.zero_add, ← key j hj]
    simp
  exact ⟨cell 0 (by omega), cell 1 (by omega), cell 2 (by omega), cell 3 (by omega)⟩

theorem own_nil (w : World) (base : Nat) : w.ownsRow base 30 4 (.slice none 0 0) ([] : List Rg).length (flat []) := World.ownsRow_nil _ _ _ _

theorem ownP_lift {l : List Rg} {w a : World} {v : Value} {b : World} (h : Below w.heap.size w a) (ho : b.ownsRow a.heap.size 30 4 v l.length (flat l)) (hb : Below a.heap.size a b) : b.ownsRow w.heap.size 30 4 v l.length (flat l) ∧ Below w.heap.size w b := by
  refine ⟨?_, h.trans (hb.mono h.size)⟩
  obtain ⟨h1, h2 | ⟨g, cap, cur, h3, h4, h5, h6⟩⟩ := ho
  · exact ⟨h1, .inl h2⟩
  · exact ⟨h1, .inr ⟨g, cap, cur, h3, Nat.le_trans h.size h4, h5, h6⟩⟩

set_option maxRecDepth 100000 in
set_option maxHeartbeats 6400000 in
theorem sub_key (a b : Rg) (w : World) :
    Calls Tryd.prog 34 #[a.val, b.val] w (OwnP (a.subK b) w) := by
  obtain ⟨⟨ak, at'⟩, ⟨bk, bt⟩⟩ := a
  obtain ⟨⟨ck, ct⟩, ⟨dk, dt⟩⟩ := b
  have hI := (((Inv.nil w).add 30 #[.string ak, .bool at', .string bk, .bool bt]).add 30 #[.string ck, .bool ct, .string dk, .bool dt])
  simp only [World.size_alloc] at hI
  cases hf : Rg.emp ⟨⟨ck, ct⟩, ⟨dk, dt⟩⟩
  · cases he : Rg.emp ⟨⟨ak, at'⟩, ⟨bk, bt⟩⟩
    · have HS := Lib.hid (show Rg.subK ⟨⟨ak, at'⟩, ⟨bk, bt⟩⟩ ⟨⟨ck, ct⟩, ⟨dk, dt⟩⟩ = keep [⟨⟨ak, at'⟩, Bd.loK ⟨bk, bt⟩ ⟨ck, ct⟩⟩, ⟨Bd.hiK ⟨ak, at'⟩ ⟨dk, dt⟩, ⟨bk, bt⟩⟩] by unfold Rg.subK; rw [hf, he]; rfl)
      go_enter Tryd.func34, Tryd.ntmps34
      go_wp2_with ((go_at_call 36; refine (emp_key ⟨⟨_, _⟩, ⟨_, _⟩⟩ _).mono ?_; rintro e w1 ⟨rfl, hb1⟩; replace hI := hI.below hb1; clear hb1; obtain ⟨c0, f0⟩ := hI.hd; obtain ⟨c1, f1⟩ := hI.tl.hd))
      clear c0 c1 f0 f1
      have r1 := fun (w' : World) (h : Inv w [(w.heap.size + 1, 30, #[Value.string ck, Value.bool ct, Value.string dk, Value.bool dt]), (w.heap.size, 30, #[Value.string ak, Value.bool at', Value.string bk, Value.bool bt])] w') => h.hd.1
      have r2 := fun (w' : World) (h : Inv w [(w.heap.size + 1, 30, #[Value.string ck, Value.bool ct, Value.string dk, Value.bool dt]), (w.heap.size, 30, #[Value.string ak, Value.bool at', Value.string bk, Value.bool bt])] w') => h.tl.hd.1
      simp only at r1 r2
      go_region_held3 (fun w' => Inv w [(w.heap.size + 1, 30, #[Value.string ck, Value.bool ct, Value.string dk, Value.bool dt]), (w.heap.size, 30, #[Value.string ak, Value.bool at', Value.string bk, Value.bool bt])] w')
        (first | with_reducible exact hS1 | with_reducible exact hI.drew | with_reducible assumption | with_reducible refine Inv.alloc ?_ _ <;> with_reducible assumption)
        (first | (go_at_call 66; refine (lo_key ⟨_, _⟩ ⟨_, _⟩ _).mono ?_; rintro e w2 ⟨he2, hb2⟩; have hS1 := Inv.below ‹_› hb2; clear hb2; generalize hr : Bd.loK _ _ = r at he2; obtain ⟨lk, lt⟩ := r; have R2 := Lib.hid hr; clear hr; subst he2)
               | (go_at_call 57; refine (hi_key ⟨_, _⟩ ⟨_, _⟩ _).mono ?_; rintro e w2 ⟨he2, hb2⟩; have hS1 := Inv.below ‹_› hb2; clear hb2; generalize hr : Bd.hiK _ _ = r at he2; obtain ⟨hk, ht⟩ := r; have R1 := Lib.hid hr; clear hr; subst he2)
               | (go_at_call 54; refine (notEmpty_key [⟨⟨ak, at'⟩, ⟨lk, lt⟩⟩, ⟨⟨hk, ht⟩, ⟨bk, bt⟩⟩] _ _ _ (rgs_new _ _) (by simp) (by simp) (by decide)).mono ?_; rintro e w3 ⟨v, rfl, ho, hb3⟩; have hS0 := hS1; have hS1 := Inv.below (Inv.alloc hS0 _) hb3))
      go_wp2
      go_ret
      obtain ⟨p1, p2⟩ := ownP_lift (hS0.1.alloc hS0.1.size _) ho hb3
      rw [HS.out, R1.out, R2.out]
      exact ownP_mk p1 p2
    · have HS := Lib.hid (show Rg.subK ⟨⟨ak, at'⟩, ⟨bk, bt⟩⟩ ⟨⟨ck, ct⟩, ⟨dk, dt⟩⟩ = [] by unfold Rg.subK; rw [hf, he]; rfl)
      go_enter Tryd.func34, Tryd.ntmps34
      go_wp2_with ((go_at_call 36; refine (emp_key ⟨⟨_, _⟩, ⟨_, _⟩⟩ _).mono ?_; rintro e w1 ⟨rfl, hb1⟩; replace hI := hI.below hb1; clear hb1; obtain ⟨c0, f0⟩ := hI.hd; obtain ⟨c1, f1⟩ := hI.tl.hd))
      go_ret
      rw [HS.out]
      exact ownP_mk (own_nil _ _) hI.1
  · have HS := Lib.hid (show Rg.subK ⟨⟨ak, at'⟩, ⟨bk, bt⟩⟩ ⟨⟨ck, ct⟩, ⟨dk, dt⟩⟩ = keep [⟨⟨ak, at'⟩, ⟨bk, bt⟩⟩] by unfold Rg.subK; rw [hf]; rfl)
    go_enter Tryd.func34, Tryd.ntmps34
    go_wp2_with (first | (go_at_call 36; refine (emp_key ⟨⟨_, _⟩, ⟨_, _⟩⟩ _).mono ?_; rintro e w1 ⟨rfl, hb1⟩; replace hI := hI.below hb1; clear hb1; obtain ⟨c0, f0⟩ := hI.hd; obtain ⟨c1, f1⟩ := hI.tl.hd) | (go_at_call 54; refine (notEmpty_key [⟨⟨ak, at'⟩, ⟨bk, bt⟩⟩] _ _ _ (rgs_new _ _) (by simp) (by simp) (by decide)).mono ?_; rintro e w3 ⟨v, rfl, ho, hb3⟩; skip))
    go_ret
    obtain ⟨p1, p2⟩ := ownP_lift (hI.1.alloc hI.1.size _) ho hb3
    rw [HS.out]
    exact ownP_mk p1 p2

end Go.Proofs.YtofandkijmbplaaDoor
