/-
  Owner of package roster where there is none, Some and ID of the tape: what they answer. Conditions: the nodes can be read; the tape; 'letters' is as the program's text lays it.
-/
import Derived.Test.YtiafimbehcemcaaDoorKgI
import Derived.Test.YtiafimbehcemcaaDoorKdR
import Derived.Test.YtiafimbehcemcaaDoorKwQ
namespace Go.Proofs.YtiafimbehcemcaaDoor
open Go.RowKit

set_option maxRecDepth 100000 in
set_option maxHeartbeats 1600000 in
theorem owner_no (A : Option Addr) (l : List Nd) (c : Nat) (key : ByteArray) (w : World) (hl : Nds w w.heap.size A l) (hchk : chkV l = 0) (hk : l = [] ∨ vk key = false) :
    Calls Tryd.prog 53 #[.slice A l.length c, .string key] w fun e w' => e = .returned (.tuple #[Nd.none.val, .bool false]) ∧ Below w.heap.size w w' := by
  have hbC := (Below.refl w.heap.size w).alloc (Nat.le_refl _) (.cells #[.string key] 9)
  have hb0 := hbC.alloc hbC.size (.cells #[.int .i64 0, .string ByteArray.empty, .int .u32 0] 60)
  have hX := Has.new (w.alloc (.cells #[.string key] 9)) 60 #[.int .i64 0, .string ByteArray.empty, .int .u32 0]
  rw [World.size_alloc] at hX
  have hC := (Has.new w 9 #[.string key]).alloc (.cells #[.int .i64 0, .string ByteArray.empty, .int .u32 0] 60)
  have HC := Lib.hid ((check_any A l c _ ((hl.below hb0).more hb0.size) (ros_wide hchk)).mono fun e w' h => (⟨by rw [h.1, hchk], h.2⟩ : e = .returned (.int .i64 0) ∧ Below _ _ w'))
  have HX := Lib.hid hX
  have HCB := Lib.hid hC
  have HB0 := Lib.hid hb0
  clear hX hC hbC hchk hl hb0
  by_cases h0 : l = []
  · subst h0
    clear hk
    go_enter Tryd.func53, Tryd.ntmps53
    go_wp2_with fail
    refine (HC.out).mono ?_
    rintro e w1 ⟨rfl, hb1⟩
    have X4 := HX.out.below hb1
    have g0 := X4.cell 0
    have g1 := X4.cell 1
    have g2 := X4.cell 2
    have gz := fun o => X4.frozen o
    have HB4 := Lib.hid (HB0.out.trans (hb1.mono HB0.out.size))
    clear X4
    go_wp2_with fail
    refine bodyPost_ret (v := .tuple #[.agg #[.int .i64 0, .string ⟨#[]⟩, .int .u32 0], .bool false]) (by simp [results, Tryd.results53, go_sem, *]) rfl ⟨rfl, ?_⟩
    exact ((HB4.out.setCell (Nat.le_succ _) _).setCell (Nat.le_succ _) _).setCell (Nat.le_succ _) _
  · have hkf : vk key = false := by
      rcases hk with h | h
      · exact absurd h h0
      · exact h
    have HV := Lib.hid (fun w1 => (vk_key key w1).mono fun e w' h => (⟨by rw [h.1, hkf], h.2⟩ : e = .returned (.bool false) ∧ w1 = w'))
    have hl1 : 1 ≤ l.length := by
      cases l with
      | nil => exact absurd rfl h0
      | cons x l => simp
    have hl0 : ((l.length : Int) == 0) = false := by simp; omega
    clear hk hkf h0
    go_enter Tryd.func53, Tryd.ntmps53
    go_wp2_with fail
    refine (HC.out).mono ?_
    rintro e w1 ⟨rfl, hb1⟩
    have c1 := (HCB.out.below hb1).cell 0
    have X4 := HX.out.below hb1
    have g0 := X4.cell 0
    have g1 := X4.cell 1
    have g2 := X4.cell 2
    have gz := fun o => X4.frozen o
    have HB4 := Lib.hid (HB0.out.trans (hb1.mono HB0.out.size))
    clear X4
    go_wp2_with fail
    refine (HV.out _).mono ?_
    rintro e w' ⟨rfl, rfl⟩
    go_wp2_with fail
    refine bodyPost_ret (v := .tuple #[.agg #[.int .i64 0, .string ⟨#[]⟩, .int .u32 0], .bool false]) (by simp [results, Tryd.results53, go_sem, *]) rfl ⟨rfl, ?_⟩
    exact ((HB4.out.setCell (Nat.le_succ _) _).setCell (Nat.le_succ _) _).setCell (Nat.le_succ _) _
end Go.Proofs.YtiafimbehcemcaaDoor
