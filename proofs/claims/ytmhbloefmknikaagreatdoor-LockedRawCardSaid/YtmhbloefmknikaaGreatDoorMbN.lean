/-
  Step of package locked, for any list. Condition: the list can be read.
-/
import Derived.Test.YtmhbloefmknikaaGreatDoorMbJ
namespace Go.Proofs.YtmhbloefmknikaaGreatDoor
open Go.RowKit Go.Maps
namespace Lk
set_option maxRecDepth 100000 in
set_option maxHeartbeats 3200000 in
theorem stepL_any (A1 A2 : Option Addr) (l : Ls) (p : Int) (n m c1 c2 : Nat) (w : World) (hn : l.cs.length = n) (hm : l.ps.length = m) (h : RdL w 0 A1 A2 l) :
    Calls Tryz.prog 17 #[.agg #[.slice A1 n c1, .slice A2 m c2], .int .i64 p] w (StqP l p n m w) := by
  by_cases v : Vld l
  · obtain ⟨a1, a2, rfl, rfl⟩ := rd_of h (by have := v.n2; omega) (by have := v.m1; omega)
    exact (step_any a1 a2 l p n m c1 c2 w hn hm h v).mono fun e w' q => .inr ⟨v, q⟩
  · have hx := ((Has.new w 28 #[.slice A1 n c1, .slice A2 m c2]).below ((Below.refl _ _).alloc (Nat.le_refl _) (.cells #[.slice none 0 0, .slice none 0 0] 28)))
    have hb := ((Below.refl w.heap.size w).alloc (Nat.le_refl _) (.cells #[.slice A1 n c1, .slice A2 m c2] 28)).alloc (by rw [World.size_alloc]; omega) (.cells #[.slice none 0 0, .slice none 0 0] 28)
    have hy := Has.new (w.alloc (.cells #[.slice A1 n c1, .slice A2 m c2] 28)) 28 #[.slice none 0 0, .slice none 0 0]
    have hz : ((w.alloc (.cells #[.slice A1 n c1, .slice A2 m c2] 28)).alloc (.cells #[.slice none 0 0, .slice none 0 0] 28)).heap.size = w.heap.size + 1 + 1 := by rw [World.size_alloc, World.size_alloc]
    rw [World.size_alloc] at hy
    have HB := Lib.hid hb
    have HX := Lib.hid hx
    have HY := Lib.hid hy
    have HL := Lib.hid (h.below hb)
    have HN := Lib.hid hn
    have HM := Lib.hid hm
    have HV := Lib.hid v
    clear hx hb hy h hn hm v
    go_enter Tryz.func17, Tryz.ntmps17
    go_upto_region 1 with fail
    generalize (w.alloc (.cells #[.slice A1 n c1, .slice A2 m c2] 28)).alloc (.cells #[.slice none 0 0, .slice none 0 0] 28) = W at *
    obtain ⟨B, hB⟩ : ∃ B, B = w.heap.size := ⟨_, rfl⟩
    rw [← hB] at HX HY HB hz ⊢
    have HBB := Lib.hid hB
    clear hB
    have x0 := HX.out.cell 0
    have x1 := HX.out.cell 1
    have HVA := Lib.hid ((valid_any A1 A2 l n m c1 c2 W HN.out HM.out HL.out).mono fun e w' h => h.no HV.out)
    go_wp2_with fail
    refine (HVA.out).mono ?_
    rintro e w2 ⟨rfl, hb2⟩
    have HY2 := Lib.hid (HY.out.below hb2)
    have HB2 := Lib.hid (HB.out.trans (hb2.mono (by omega)))
    clear x0 x1 hb2 hz HVA HX HY HB HL
    have y0 := HY2.out.cell 0
    have y1 := HY2.out.cell 1
    have z0 := HY2.out.frozen 0
    have z1 := HY2.out.frozen 1
    go_wp2_with fail
    (try simp only [Exit.inBlock, Exit.then])
    have h2 := twice0 w2 (B + 1) (.slice none 0 0) (.slice none 0 0) _ _ y0 y1
    refine bodyPost_ret (results_list1 rfl _ _ (B + 1) rfl h2.1 h2.2) rfl (.inl ⟨HV.out, rfl, ?_⟩)
    rw [← HBB.out]
    exact (HB2.out.setCell (p := ⟨B + 1, 0, none⟩) (by simp only; omega) _).setCell (p := ⟨B + 1, 1, none⟩) (by simp only; omega) _
end Lk
end Go.Proofs.YtmhbloefmknikaaGreatDoor
