/-
  Tiles and tile of package keyspace: what they answer for whatever ranges, in every world in which the list can be read; they only make memory. Condition: the list's cells lie below the call's own memory.
-/
import Derived.Test.YtiafimbehcemcaaDoorKsC
import Derived.Test.YtiafimbehcemcaaDoorKsW
import Derived.Lib.Hide
namespace Go.Proofs.YtiafimbehcemcaaDoor
open Go.RowKit

/-- What tile answers. -/
def tileK (x : Rg) (pos fin : Bd) : Int := if x.emp then 1 else if 0 < x.lo.cmp pos then 9 else if x.lo.cmp pos < 0 then 10 else if 0 < x.hi.cmp fin then 2 else 0

/-- What Tiles answers from a position on. -/
def tilesF : List Rg → Nat → Bd → Bd → Nat × Int
  | [], i, pos, fin => if pos.cmp fin < 0 then (i, 9) else (i, 0)
  | x :: l, i, pos, fin => if tileK x pos fin = 0 then tilesF l (i + 1) x.hi fin else (i, tileK x pos fin)
def tilesK (l : List Rg) (r : Rg) : Nat × Int := if r.ok then tilesF l 0 r.lo r.hi else (0, 1)

theorem tilesF_end {l : List Rg} {n : Nat} (h : l.length ≤ n) (i : Nat) (pos fin : Bd) : tilesF (l.drop n) i pos fin = if pos.cmp fin < 0 then (i, 9) else (i, 0) := by rw [List.drop_eq_nil_of_le h]; rfl
theorem tilesF_at {l : List Rg} {n : Nat} (h : n < l.length) (i : Nat) (pos fin : Bd) : tilesF (l.drop n) i pos fin = if tileK l[n] pos fin = 0 then tilesF (l.drop (n + 1)) (i + 1) l[n].hi fin else (i, tileK l[n] pos fin) := by
  rw [List.drop_eq_getElem_cons h]; rfl

/-- A slice of ranges below block B, as it is read. -/
def Rgs (w : World) (B : Nat) (A : Option Addr) (l : List Rg) : Prop :=
  l ≠ [] → ∃ b o, A = some ⟨b, o, none⟩ ∧ b < B ∧ ∀ i (h : i < l.length), w.cell? ⟨b, o + i * 4, none⟩ = some (.string l[i].lo.key) ∧ w.cell? ⟨b, o + i * 4 + 1, none⟩ = some (.bool l[i].lo.top) ∧
    w.cell? ⟨b, o + i * 4 + 2, none⟩ = some (.string l[i].hi.key) ∧ w.cell? ⟨b, o + i * 4 + 3, none⟩ = some (.bool l[i].hi.top)

theorem Rgs.keep {w w' : World} {B : Nat} {A : Option Addr} {l : List Rg} (h : Rgs w B A l) (k : ∀ i, i < B → w'.heap[i]? = w.heap[i]?) : Rgs w' B A l := fun hn => by
  obtain ⟨b, o, e, hb, hc⟩ := h hn
  refine ⟨b, o, e, hb, fun i hi => ?_⟩
  obtain ⟨h1, h2, h3, h4⟩ := hc i hi
  exact ⟨(World.cell?_of_block (k b hb)).trans h1, (World.cell?_of_block (k b hb)).trans h2, (World.cell?_of_block (k b hb)).trans h3, (World.cell?_of_block (k b hb)).trans h4⟩

set_option maxHeartbeats 1600000 in
theorem tile_key (x : Rg) (pos fin : Bd) (w : World) :
    Calls Tryd.prog 118 #[x.val, pos.val, fin.val] w fun e w' => e = .returned (.int .i64 (tileK x pos fin)) ∧ Below w.heap.size w w' := by
  obtain ⟨⟨ak, at'⟩, ⟨bk, bt⟩⟩ := x
  obtain ⟨pk, pt⟩ := pos
  obtain ⟨fk, ft⟩ := fin
  have hI := ((((Inv.nil w).add 74 #[.string ak, .bool at', .string bk, .bool bt]).add 72 #[.string pk, .bool pt]).add 72 #[.string fk, .bool ft])
  simp only [World.size_alloc] at hI
  cases he : Rg.emp ⟨⟨ak, at'⟩, ⟨bk, bt⟩⟩
  all_goals
    go_enter Tryd.func118, Tryd.ntmps118
    go_wp2_with (first | (go_at_call 119; refine (cmp_key ⟨_, _⟩ ⟨_, _⟩ _).mono ?_; rintro e w1 ⟨rfl, hb1⟩; replace hI := hI.below hb1; clear hb1; obtain ⟨c0, f0⟩ := hI.hd; obtain ⟨c1, f1⟩ := hI.tl.hd; obtain ⟨c2, f2⟩ := hI.tl.tl.hd) | (go_at_call 66; refine (emp_key ⟨⟨_, _⟩, ⟨_, _⟩⟩ _).mono ?_; rintro e w1 ⟨rfl, hb1⟩; replace hI := hI.below hb1; clear hb1; obtain ⟨c0, f0⟩ := hI.hd; obtain ⟨c1, f1⟩ := hI.tl.hd; obtain ⟨c2, f2⟩ := hI.tl.tl.hd))
  all_goals
    go_ret
    refine ⟨ret_int ?_, hI.1⟩
    unfold tileK
    rw [he]
    first
      | rfl
      | (simp only [Bool.false_eq_true, if_false]; first
          | rw [if_pos (by omega)]
          | rw [if_neg (by omega), if_pos (by omega)]
          | rw [if_neg (by omega), if_neg (by omega), if_pos (by omega)]
          | rw [if_neg (by omega), if_neg (by omega), if_neg (by omega)])

/-- What Tiles gives. -/
def TilesP (l : List Rg) (r : Rg) (w : World) (e : Ending) (w' : World) : Prop := e = .returned (.tuple #[.int .i64 ((tilesK l r).1 : Int), .int .i64 (tilesK l r).2]) ∧ Below w.heap.size w w'
theorem tilesP_mk {l : List Rg} {r : Rg} {w w' : World} {a b : Int} (h : ((tilesK l r).1 : Int) = a) (k : (tilesK l r).2 = b) (hb : Below w.heap.size w w') : TilesP l r w (.returned (.tuple #[.int .i64 a, .int .i64 b])) w' := by subst h k; exact ⟨rfl, hb⟩

set_option maxHeartbeats 1600000 in
theorem tiles_key (l : List Rg) (r : Rg) (A : Option Addr) (c : Nat) (w : World) (hl : Rgs w w.heap.size A l) (hc : l.length ≤ c) (hm : c ≤ maxLen) :
    Calls Tryd.prog 60 #[.slice A l.length c, r.val] w (TilesP l r w) := by
  unfold maxLen at hm
  obtain ⟨⟨ak, at'⟩, ⟨bk, bt⟩⟩ := r
  have hI := ((Inv.nil w).add 74 #[.string ak, .bool at', .string bk, .bool bt])
  cases he : Rg.ok ⟨⟨ak, at'⟩, ⟨bk, bt⟩⟩
  · go_enter Tryd.func60, Tryd.ntmps60
    go_wp2_with ((go_at_call 117; refine (rok_key ⟨⟨_, _⟩, ⟨_, _⟩⟩ _).mono ?_; rintro e w1 ⟨rfl, hb1⟩; replace hI := hI.below hb1; clear hb1; obtain ⟨c0, f0⟩ := hI.hd))
    go_ret2
    exact tilesP_mk (by unfold tilesK; rw [he]; rfl) (by unfold tilesK; rw [he]; rfl) hI.1
  · have HT := Lib.hid (show tilesK l ⟨⟨ak, at'⟩, ⟨bk, bt⟩⟩ = tilesF l 0 ⟨ak, at'⟩ ⟨bk, bt⟩ by unfold tilesK; rw [he]; rfl)
    go_enter Tryd.func60, Tryd.ntmps60
    go_wp2_with ((go_at_call 117; refine (rok_key ⟨⟨_, _⟩, ⟨_, _⟩⟩ _).mono ?_; rintro e w1 ⟨rfl, hb1⟩; replace hI := hI.below hb1; clear hb1; obtain ⟨c0, f0⟩ := hI.hd))
    have hp : w.heap.size < w1.heap.size := (hI.2 _ (.head _)).lt
    replace hI := hI.add 72 #[.string ak, .bool at']
    generalize w1.heap.size = p at *
    clear c0 f0
    have hne : ∀ pos : Bd, ∀ q ∈ [(w.heap.size, 74, #[Value.string ak, Value.bool at', Value.string bk, Value.bool bt])], q.1 ≠ p := by intro _; simp; omega
    go_loopw [17] (fun i wr => ∃ (k : Nat) (pos : Bd), k ≤ l.length ∧ i = .int .i64 k ∧ Inv w [(p, 72, #[Value.string pos.key, Value.bool pos.top]), (w.heap.size, 74, #[Value.string ak, Value.bool at', Value.string bk, Value.bool bt])] wr ∧ Hid (tilesF (l.drop k) k pos ⟨bk, bt⟩ = tilesF l 0 ⟨ak, at'⟩ ⟨bk, bt⟩)) (fun i _ => l.length - (intOf i).toNat)
    case atStart => exact ⟨0, ⟨ak, at'⟩, Nat.zero_le _, rfl, hI, Lib.hid rfl⟩
    case round =>
      clear hI
      obtain ⟨k, ⟨pk, pt⟩, hk, rfl, hI, HP⟩ := hrel
      obtain ⟨cp, fp⟩ := hI.hd
      obtain ⟨cr, fr⟩ := hI.tl.hd
      by_cases hlt : k < l.length
      · obtain ⟨b, o, hA, hb, hcell⟩ := hl (by intro e; rw [e] at hlt; simp at hlt)
        subst hA
        obtain ⟨x1, x2, x3, x4⟩ := hcell k hlt
        have HX := Lib.hid (tilesF_at hlt k ⟨pk, pt⟩ ⟨bk, bt⟩)
        generalize l[k] = x at *
        obtain ⟨⟨xk, xt⟩, ⟨yk, yt⟩⟩ := x
        replace x1 := (hI.1.cell (p := ⟨b, o + k * 4, none⟩) hb).trans x1
        replace x2 := (hI.1.cell (p := ⟨b, o + k * 4 + 1, none⟩) hb).trans x2
        replace x3 := (hI.1.cell (p := ⟨b, o + k * 4 + 2, none⟩) hb).trans x3
        replace x4 := (hI.1.cell (p := ⟨b, o + k * 4 + 3, none⟩) hb).trans x4
        simp only at x1 x2 x3 x4
        clear hcell
        have hpl := (hI.2 _ (.head _)).lt
        have hwl := (hI.2 _ (.tail _ (.head _))).lt
        simp only at hpl hwl
        replace hI := hI.add 74 #[.string xk, .bool xt, .string yk, .bool yt]
        cases he0 : decide (tileK ⟨⟨xk, xt⟩, ⟨yk, yt⟩⟩ ⟨pk, pt⟩ ⟨bk, bt⟩ = 0)
        · have he1 : (tileK ⟨⟨xk, xt⟩, ⟨yk, yt⟩⟩ ⟨pk, pt⟩ ⟨bk, bt⟩ == 0) = _ := he0
          have HE0 := Lib.hid he0
          clear he0
          go_wp2_with (go_at_call 118; refine (tile_key ⟨⟨_, _⟩, ⟨_, _⟩⟩ ⟨_, _⟩ ⟨_, _⟩ _).mono ?_; rintro e w2 ⟨rfl, hb2⟩; replace hI := hI.below hb2; clear hb2 x1 x2 x3 x4 cp fp cr fr; obtain ⟨cx, fx⟩ := hI.hd; obtain ⟨cp, fp⟩ := hI.tl.hd; obtain ⟨cr, fr⟩ := hI.tl.tl.hd)
          go_ret2
          have hT : tilesK l ⟨⟨ak, at'⟩, ⟨bk, bt⟩⟩ = (k, tileK ⟨⟨xk, xt⟩, ⟨yk, yt⟩⟩ ⟨pk, pt⟩ ⟨bk, bt⟩) := by rw [HT.out, ← HP.out, HX.out, if_neg (of_decide_eq_false HE0.out)]
          exact tilesP_mk (by rw [hT]) (by rw [hT]) hI.1
        · have he1 : (tileK ⟨⟨xk, xt⟩, ⟨yk, yt⟩⟩ ⟨pk, pt⟩ ⟨bk, bt⟩ == 0) = _ := he0
          have HE0 := Lib.hid he0
          clear he0
          go_wp2_with (go_at_call 118; refine (tile_key ⟨⟨_, _⟩, ⟨_, _⟩⟩ ⟨_, _⟩ ⟨_, _⟩ _).mono ?_; rintro e w2 ⟨rfl, hb2⟩; replace hI := hI.below hb2; clear hb2 x1 x2 x3 x4 cp fp cr fr; obtain ⟨cx, fx⟩ := hI.hd; obtain ⟨cp, fp⟩ := hI.tl.hd; obtain ⟨cr, fr⟩ := hI.tl.tl.hd)
          go_roundw
          case rel => exact ⟨k + 1, ⟨yk, yt⟩, hlt, by go_num, hI.tl.put2 (by omega) (hne ⟨yk, yt⟩), Lib.hid (by rw [← HP.out, HX.out, if_pos (of_decide_eq_true HE0.out)])⟩
          case measure => simp [intOf]; omega
      · have hkl : k = l.length := by omega
        have HE := Lib.hid (tilesF_end (l := l) (n := k) (by omega) k ⟨pk, pt⟩ ⟨bk, bt⟩)
        have HK := Lib.hid hkl
        clear hkl
        go_wp2_with ((go_at_call 119; refine (cmp_key ⟨_, _⟩ ⟨_, _⟩ _).mono ?_; rintro e w1 ⟨rfl, hb1⟩; replace hI := hI.below hb1; clear hb1; obtain ⟨c0, f0⟩ := hI.hd; obtain ⟨c1, f1⟩ := hI.tl.hd))
        all_goals
          go_ret2
          have hT := HT.out.trans (HP.out.symm.trans HE.out)
          by_cases h9 : Bd.cmp ⟨pk, pt⟩ ⟨bk, bt⟩ < 0
          · rw [if_pos h9] at hT
            first
              | (exfalso; omega)
              | exact tilesP_mk (by rw [hT]; exact congrArg (fun x : Nat => (x : Int)) HK.out) (by rw [hT]) hI.1
          · rw [if_neg h9] at hT
            first
              | (exfalso; omega)
              | exact tilesP_mk (by rw [hT]; exact congrArg (fun x : Nat => (x : Int)) HK.out) (by rw [hT]) hI.1

end Go.Proofs.YtiafimbehcemcaaDoor
