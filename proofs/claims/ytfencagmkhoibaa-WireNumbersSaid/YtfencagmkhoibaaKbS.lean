/-
  The examples of chapter 3, as the statements call them: sane answers true, in every world; it only makes memory. No condition.
-/
import Derived.Test.YtfencagmkhoibaaKbU
import Derived.Test.YtfencagmkhoibaaKbD
import Derived.Test.YtfencagmkhoibaaKwL
namespace Go.Proofs.Ytfencagmkhoibaa
open Go.RowKit

theorem encU_300 : encU 300 = [172, 2] := by rw [encU_ge (by decide), encU_lt (by decide)]; rfl
theorem encU_1 : encU (zig (-1)) = [1] := by rw [show zig (-1) = 1 from rfl, encU_lt (by decide)]; rfl
theorem encS_ab : encS [97, 98] = [2, 97, 98] := by unfold encS; rw [show ([97, 98] : List UInt8).length = 2 from rfl, encU_lt (by decide)]; rfl
theorem decU_128 : decU [128, 0] = none := by decide
theorem decS_2 : decS [2, 97, 98, 99] 5 = .got [97, 98] 3 := by
  unfold decS
  rw [show decU [2, 97, 98, 99] = some (2, 1) by decide]
  rfl
/-- What was appended, as it is read later. -/
theorem OwnB.later {w w' : World} {base : Nat} {v : Value} {l : List UInt8} (h : OwnB w base v l) (k : Below w.heap.size w w') : ∃ A c, v = .slice A l.length c ∧ l.length ≤ c ∧ c ≤ maxLen ∧ Bys w' w.heap.size A l := by
  obtain ⟨A, c, e, h1, h2, h3⟩ := h.read
  exact ⟨A, c, e, h1, h2, h3.below k⟩

theorem bys_new (w : World) (l : List UInt8) : Bys (w.alloc (.cells (bv l).toArray 5)) (w.heap.size + 1) (some ⟨w.heap.size, 0, none⟩) l := fun _ => by
  refine ⟨_, 0, rfl, Nat.lt_succ_self _, fun i hi => ?_⟩
  rw [Nat.zero_add, (Has.new w 5 (bv l).toArray).cell]
  simpa using bv_get hi

set_option maxRecDepth 100000 in
set_option maxHeartbeats 3200000 in
theorem sane_any (w : World) : Calls Try.prog 7 #[] w (LawP w) := by
  go_enter Try.func7, Try.ntmps7
  go_wp2_with fail
  refine (appendUint_any none [] 0 300 w (Bys.nil _) (by simp) (Nat.le_refl _) (by unfold maxLen; omega) (by omega)).mono ?_
  rintro e w1 ⟨v1, rfl, ho1, hb1⟩
  go_wp2_with fail
  refine (appendInt_any none [] 0 (-1) w1 (Bys.nil _) (by simp) (Nat.le_refl _) (by unfold maxLen; omega) (by omega) (by omega)).mono ?_
  rintro e w2 ⟨v2, rfl, ho2, hb2⟩
  go_wp2_with fail
  refine (appendString_any none [] 0 ⟨#[97, 98]⟩ w2 (Bys.nil _) (by simp) (Nat.le_refl _) (by unfold maxLen; omega) (by decide)).mono ?_
  rintro e w3 ⟨v3, rfl, ho3, hb3⟩
  rw [List.nil_append, encU_300] at ho1
  rw [List.nil_append, encU_1] at ho2
  rw [List.nil_append, show (ByteArray.mk #[97, 98]).data.toList = [97, 98] from rfl, encS_ab] at ho3
  have hb4 := (Below.refl w3.heap.size w3).alloc (Nat.le_refl _) (.cells #[.int .u8 128, .int .u8 0] 5)
  have hu := Lib.hid (uint_any (some ⟨w3.heap.size, 0, none⟩) [128, 0] 2 (w3.heap.size + 1) (w3.alloc (.cells #[.int .u8 128, .int .u8 0] 5)) (bys_new w3 [128, 0]) (by simp))
  go_wp2_with fail
  refine hu.out.mono ?_
  rintro e w4 ⟨he, rfl⟩
  rw [decU_128] at he
  obtain rfl : e = .returned (.tuple #[.int .u64 0, .int .i64 0, .int .i64 4]) := he
  have hs := Lib.hid (string_any (some ⟨w3.heap.size + 1, 0, none⟩) [2, 97, 98, 99] 4 (w3.heap.size + 1 + 1) ((w3.alloc (.cells #[.int .u8 128, .int .u8 0] 5)).alloc (.cells #[.int .u8 2, .int .u8 97, .int .u8 98, .int .u8 99] 5)) 5
    (by have h := bys_new (w3.alloc (.cells #[.int .u8 128, .int .u8 0] 5)) [2, 97, 98, 99]; rw [World.size_alloc] at h; exact h) (by simp) (by simp) (by unfold maxLen; omega) (by omega) (by omega))
  have hb5 := hb4.alloc (by simp) (.cells #[.int .u8 2, .int .u8 97, .int .u8 98, .int .u8 99] 5)
  go_wp2_with fail
  refine hs.out.mono ?_
  rintro e w4 ⟨he, rfl⟩
  rw [decS_2] at he
  obtain rfl : e = .returned (.tuple #[.string ⟨#[97, 98]⟩, .int .i64 3, .int .i64 0]) := he
  obtain ⟨A3, c3, rfl, _, _, r3⟩ := ho3.later hb5
  obtain ⟨A2, c2, rfl, _, _, r2⟩ := ho2.later (hb3.trans (hb5.mono hb3.size))
  obtain ⟨A1, c1, rfl, _, _, r1⟩ := ho1.later (hb2.trans ((hb3.trans (hb5.mono hb3.size)).mono hb2.size))
  have k1 := run_str (P := Try.prog) _ _ A1 _ c1 r1 23 9 Try.underlying23 Try.underlying5 Try.underlying9
  have k2 := run_str (P := Try.prog) _ _ A2 _ c2 r2 23 9 Try.underlying23 Try.underlying5 Try.underlying9
  have k3 := run_str (P := Try.prog) _ _ A3 _ c3 r3 23 9 Try.underlying23 Try.underlying5 Try.underlying9
  simp only [List.length_cons, List.length_nil] at k1 k2 k3
  have HB := Lib.hid (hb1.trans ((hb2.trans ((hb3.trans (hb5.mono hb3.size)).mono hb2.size)).mono hb1.size))
  clear r1 r2 r3 hb1 hb2 hb3 hb4 hb5 ho1 ho2 ho3
  go_wp2_with fail
  go_ret
  exact ⟨rfl, HB.out⟩
end Go.Proofs.Ytfencagmkhoibaa
