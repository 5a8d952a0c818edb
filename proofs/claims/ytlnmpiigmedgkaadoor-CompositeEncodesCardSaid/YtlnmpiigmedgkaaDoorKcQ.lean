/-
  Prefix of package composite. Conditions: the arguments can be read.
-/
import Derived.Test.YtlnmpiigmedgkaaDoorKcE
import Derived.Test.YtlnmpiigmedgkaaDoorKsN
namespace Go.Proofs.YtlnmpiigmedgkaaDoor
open Go.RowKit

/-- What Prefix answers. -/
def preV (s : List Col) (l : List Fd) : Rg × Int := if (encV s l).2 = 0 then (Rg.pre (encV s l).1, 0) else (Rg.zero, (encV s l).2)
def PreB (r : Rg × Int) (w : World) (e : Ending) (w' : World) : Prop := e = .returned (.tuple #[r.1.val, .int .i64 r.2]) ∧ Below w.heap.size w w'
set_option maxRecDepth 100000 in
set_option maxHeartbeats 1600000 in
theorem prefix_any (A1 A2 : Option Addr) (s : List Col) (l : List Fd) (c1 c2 : Nat) (w : World) (hs : Cols w w.heap.size A1 s) (hl : Fds w w.heap.size A2 l) (hs63 : s.length ≤ 9223372036854775807) (hw : ∀ i (h : i < l.length), l[i].wide) :
    Calls Tryd.prog 31 #[.slice A1 s.length c1, .slice A2 l.length c2] w (PreB (preV s l) w) := by
  have hb0 := (Below.refl w.heap.size w).alloc (Nat.le_refl _) (.cells #[.string ByteArray.empty, .bool false, .string ByteArray.empty, .bool false] 51)
  have E := Lib.hid (encode_any A1 A2 s l c1 c2 _ ((hs.below hb0).more hb0.size) ((hl.below hb0).more hb0.size) hs63 hw)
  have HV := Lib.hid (show preV s l = if (encV s l).2 = 0 then (Rg.pre (encV s l).1, 0) else (Rg.zero, (encV s l).2) from rfl)
  have hN := Has.new w 51 #[.string ByteArray.empty, .bool false, .string ByteArray.empty, .bool false]
  generalize preV s l = V at *
  generalize encV s l = X at *
  obtain ⟨x, xe⟩ := X
  by_cases h0 : xe = 0
  · subst h0
    have hV : V = (Rg.pre x, 0) := by rw [HV.out]; rfl
    subst hV
    clear HV
    go_enter Tryd.func31, Tryd.ntmps31
    go_wp2_with fail
    refine (E.out).mono ?_
    rintro e w1 ⟨rfl, hb1⟩
    have hN1 := hN.below hb1
    clear E
    go_wp2_with fail
    refine (pre_key x w1).mono ?_
    rintro e w2 ⟨he, hb2⟩
    have hN2 := hN1.below hb2
    generalize Rg.pre x = r at *
    obtain ⟨⟨k1, t1⟩, ⟨k2, t2⟩⟩ := r
    subst he
    have c0 := hN2.cell 0
    have c1 := hN2.cell 1
    have c2 := hN2.cell 2
    have c3 := hN2.cell 3
    have f0 : ∀ o, w2.frozen? ⟨w.heap.size, o, none⟩ = false := fun o => hN2.frozen o
    have hbw : Below w.heap.size w w2 := hb0.trans ((hb1.trans (hb2.mono hb1.size)).mono hb0.size)
    clear hb1 hb2 hb0 hN hN1 hN2 hs hl
    go_wp2_with fail
    refine bodyPost_ret (v := .tuple #[.agg #[.string k1, .bool t1, .string k2, .bool t2], .int .i64 0]) (by simp [results, Tryd.results31, go_sem, *]) rfl ⟨rfl, (((hbw.setCell (p := ⟨w.heap.size, 0, none⟩) (Nat.le_refl _) _).setCell (p := ⟨w.heap.size, 1, none⟩) (Nat.le_refl _) _).setCell (p := ⟨w.heap.size, 2, none⟩) (Nat.le_refl _) _).setCell (p := ⟨w.heap.size, 3, none⟩) (Nat.le_refl _) _⟩
  · have hV : V = (Rg.zero, xe) := by rw [HV.out]; simp [h0]
    subst hV
    clear HV
    have hx : (xe == 0) = false := by simpa using h0
    clear h0
    go_enter Tryd.func31, Tryd.ntmps31
    go_wp2_with fail
    refine (E.out).mono ?_
    rintro e w1 ⟨rfl, hb1⟩
    have hN1 := hN.below hb1
    have c0 := hN1.cell 0
    have c1 := hN1.cell 1
    have c2 := hN1.cell 2
    have c3 := hN1.cell 3
    have f0 : ∀ o, w1.frozen? ⟨w.heap.size, o, none⟩ = false := fun o => hN1.frozen o
    have hbw : Below w.heap.size w w1 := hb0.trans (hb1.mono hb0.size)
    clear E hb1 hb0 hN hN1 hs hl
    go_wp2_with fail
    refine bodyPost_ret (v := .tuple #[.agg #[.string ByteArray.empty, .bool false, .string ByteArray.empty, .bool false], .int .i64 xe]) (by simp [results, Tryd.results31, go_sem, *]; rfl) rfl ⟨rfl, (((hbw.setCell (p := ⟨w.heap.size, 0, none⟩) (Nat.le_refl _) _).setCell (p := ⟨w.heap.size, 1, none⟩) (Nat.le_refl _) _).setCell (p := ⟨w.heap.size, 2, none⟩) (Nat.le_refl _) _).setCell (p := ⟨w.heap.size, 3, none⟩) (Nat.le_refl _) _⟩
end Go.Proofs.YtlnmpiigmedgkaaDoor
