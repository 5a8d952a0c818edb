/-
  The tape's Height. Condition: the nodes can be read.
-/
import Derived.Test.YtmhimkojegkalaaDoorKmN
import Derived.Test.YtmhimkojegkalaaDoorKnB
import Derived.Test.YtmhimkojegkalaaDoorKhU
import Derived.Deep.DeepCutAuto
import Derived.Deep.CutBlock
namespace Go.Proofs.YtmhimkojegkalaaDoor
open Go.RowKit

def HgtP (g : Nat) (w : World) (e : Ending) (w' : World) : Prop := ∃ h : Int, (0 ≤ h ∧ h ≤ 16) ∧ e = .returned (.int .i64 h) ∧ TStep w g w'
theorem hgtP_mk {g : Nat} {w w' : World} {h : Int} (h0 : 0 ≤ h) (h1 : h ≤ 16) (k : TStep w g w') : HgtP g w (.returned (.int .i64 h)) w' := ⟨h, ⟨h0, h1⟩, rfl, k⟩
set_option maxRecDepth 100000 in
set_option maxHeartbeats 1600000 in
theorem theight_any (A : Option Addr) (l : List Nd) (c : Nat) (g : Nat) (w : World) (ht : Tape w g) (hl : Nds w w.heap.size A l) (hwd : ∀ x ∈ l, x.word < 4294967296) :
    Calls Tryd.prog 9 #[.pointer (some ⟨g, 0, none⟩), .slice A l.length c] w (HgtP g w) := by
  have HH := Lib.hid (rheight_any A l c w hl hwd)
  have hh16 := hgtV_le l
  generalize hgtV l = k at *
  have hg := ht.lt
  go_enter Tryd.func9, Tryd.ntmps9
  go_wp2_with fail
  refine (HH.out).mono ?_
  rintro e w1 ⟨rfl, hb1⟩
  have s1 : TStep w g w1 := (TStep.refl ht).below hb1
  clear hb1 HH hl
  go_wp2_with fail
  refine (bool_any g 3 w1 s1.1 (by omega) (by omega)).mono ?_
  rintro e w2 ⟨b, rfl, hst2⟩
  have s2 := s1.trans hst2
  clear hst2 s1
  have HB4 := Lib.hid (fun (W : World) (h : Tape W g) => bool_any g 4 W h (by omega) (by omega))
  go_upto_if 9 with fail
  go_cut [5] (fun s wx => ∃ m : Int, s = .int .i64 m ∧ (0 ≤ m ∧ m ≤ 16) ∧ TStep w g wx)
  case first =>
    cases b
    · go_wp2_with fail
      go_meet
      exact ⟨k, rfl, by omega, s2⟩
    · go_wp2_with fail
      refine (next_any g 3 w2 s2.1 (by omega)).mono ?_
      rintro e w3 ⟨r, r0, r1, rfl, hst3⟩
      have s3 := s2.trans hst3
      have e1 : IntKind.i64.wrap ((k : Int) + r) = (k : Int) + r := IntWalk.i64_in _ (by omega)
      clear hst3 s2
      go_wp2_with fail
      all_goals
        go_meet
        exact ⟨_, rfl, by omega, s3⟩
  case rest =>
    obtain ⟨m, rfl, ⟨m0, m1⟩, s3⟩ := hcut
    clear s2 hh16
    by_cases h5 : m > 5
    · go_wp2_with fail
      refine (HB4.out _ s3.1).mono ?_
      rintro e w4 ⟨b4, rfl, hst4⟩
      have s4 := s3.trans hst4
      clear hst4
      cases b4
      · go_wp2_with fail
        go_ret
        first | exact hgtP_mk m0 m1 s4 | exact hgtP_mk (by omega) (by omega) s4
      · go_wp2_with fail
        go_ret
        first | exact hgtP_mk m0 m1 s4 | exact hgtP_mk (by omega) (by omega) s4
    · go_wp2_with fail
      go_ret
      exact hgtP_mk m0 m1 s3
end Go.Proofs.YtmhimkojegkalaaDoor
