/-
  At of the reference of chapter 7. Condition: the links can be read.
-/
import Derived.Test.YtjokbdhineilcaaGreatDoorLpA
namespace Go.Proofs.YtjokbdhineilcaaGreatDoor
open Go.RowKit

theorem at_is {k : List Ld} {id t : Int} {i : Nat} (hi : i < k.length) (h1 : k[i].id = id) (h2 : ∀ j (_ : j < i) (h : j < k.length), k[j].id ≠ id) : atV k id t = if 0 ≤ t then (k[i].levels[t.toNat]?).getD ⟨0, 0⟩ else ⟨0, 0⟩ := by
  have : k.find? (fun x => decide (x.id = id)) = some k[i] := by
    rw [List.find?_eq_some_iff_getElem]
    exact ⟨by simpa using h1, i, hi, rfl, fun j hj => by simpa using h2 j hj (by omega)⟩
  unfold atV
  rw [this]
theorem at_not {k : List Ld} {id t : Int} (h : ∀ j (h : j < k.length), k[j].id ≠ id) : atV k id t = ⟨0, 0⟩ := by
  have : k.find? (fun x => decide (x.id = id)) = none := by
    rw [List.find?_eq_none]
    intro x hx
    obtain ⟨j, hj, rfl⟩ := List.mem_iff_getElem.1 hx
    simpa using h j hj
  unfold atV
  rw [this]
def AtP (y : Lk) (w : World) (e : Ending) (w' : World) : Prop := e = .returned (.agg #[.int .i64 y.left, .int .i64 y.right]) ∧ Below w.heap.size w w'
set_option maxRecDepth 100000 in
set_option maxHeartbeats 1600000 in
theorem rat_any (A : Option Addr) (k : List Ld) (c : Nat) (id t : Int) (w : World) (hl : Lds w w.heap.size A k) (hn : k.length ≤ maxLen) :
    Calls Tryz.prog 47 #[.slice A k.length c, .int .i64 id, .int .i64 t] w (AtP (atV k id t) w) := by
  have hb0 := (Below.refl w.heap.size w).alloc (Nat.le_refl _) (.cells #[.int .i64 0, .int .i64 0] 53)
  have HX := Lib.hid (Has.new w 53 #[.int .i64 0, .int .i64 0])
  have HB0 := Lib.hid hb0
  have HIS := Lib.hid (fun (i : Nat) (hi : i < k.length) (h1 : k[i].id = id) (h2 : ∀ j (_ : j < i) (h : j < k.length), k[j].id ≠ id) => at_is (t := t) hi h1 h2)
  have HNO := Lib.hid (fun (h : ∀ j (h : j < k.length), k[j].id ≠ id) => at_not (t := t) h)
  have HLK : Hid (∀ (i : Nat) (h : i < k.length), ∃ b o, A = some ⟨b, o, none⟩ ∧ b < w.heap.size ∧ w.cell? ⟨b, o + i * 2, none⟩ = some (.int .i64 k[i].id) ∧ ∃ (A' : Option Addr) (c' : Nat), w.cell? ⟨b, o + i * 2 + 1, none⟩ = some (.slice A' k[i].levels.length c') ∧ k[i].levels.length ≤ c' ∧ c' ≤ maxLen ∧ Lks w w.heap.size A' k[i].levels) := Lib.hid fun i h => hl.at_ h
  have hml : maxLen ≤ 9223372036854775807 := by decide
  unfold AtP
  generalize atV k id t = V at *
  obtain ⟨n, hnn⟩ : ∃ n, n = k.length := ⟨_, rfl⟩
  have HN := Lib.hid hnn
  rw [← hnn] at hn ⊢
  clear hb0 hnn hl
  go_enter Tryz.func47, Tryz.ntmps47
  go_wp2_with fail
  generalize hw1 : (w.alloc (.cells #[.int .i64 0, .int .i64 0] 53)) = w1 at *
  go_loopw [7] (fun vi wr => ∃ i : Nat, i ≤ n ∧ vi = .int .i64 (i : Int) ∧ w1 = wr ∧ Hid (∀ j (_ : j < i) (h : j < k.length), k[j].id ≠ id)) (fun vi _ => n - (intOf vi).toNat)
  case atStart => exact ⟨0, Nat.zero_le _, rfl, rfl, Lib.hid (fun j h => absurd h (by omega))⟩
  case round =>
    obtain ⟨i, hi, rfl, rfl, HK⟩ := hrel
    have x0 := HX.out.cell 0
    have x1 := HX.out.cell 1
    have z := fun o => HX.out.frozen o
    by_cases hlt : i < n
    · have i2 : i < k.length := by rw [← HN.out]; exact hlt
      obtain ⟨b, o, hA2, hbl, f1, A', c', f2, hc1, hc2, hr⟩ := HLK.out i i2
      subst hA2
      replace f1 := (HB0.out.cell (p := ⟨b, o + i * 2, none⟩) hbl).trans f1
      replace f2 := (HB0.out.cell (p := ⟨b, o + i * 2 + 1, none⟩) hbl).trans f2
      have HYK := Lib.hid (fun (h : k[i].id = id) => HIS.out i i2 h HK.out)
      have HNK := Lib.hid (fun (h : k[i].id ≠ id) (j : Nat) (h1 : j < i + 1) (h2 : j < k.length) => (by
        by_cases e : j = i
        · subst e; exact h
        · exact HK.out j (by omega) h2 : k[j].id ≠ id))
      have HR := Lib.hid (fun (s : Nat) (hs : s < k[i].levels.length) => hr.at_ hs)
      generalize k[i] = y at *
      obtain ⟨yi, ys⟩ := y
      simp only at f1 f2 hc1 HYK HNK HR
      have i0 : (0 : Int) ≤ (i : Int) := by omega
      have i1 : (i : Int) < (n : Int) := by omega
      clear hr i2
      by_cases he : yi = id
      · subst he
        have HV := Lib.hid (HYK.out rfl)
        have e1 : (yi == yi) = true := by simp
        obtain ⟨p, hp⟩ : ∃ p, p = ys.length := ⟨_, rfl⟩
        have HP := Lib.hid hp
        rw [← hp] at f2 hc1
        have hpm : (p : Int) ≤ 9223372036854775807 := by omega
        clear HYK HNK HK HIS HNO HLK hp
        by_cases ht0 : t < 0
        · have HV2 : Hid (V = ⟨0, 0⟩) := Lib.hid (by rw [HV.out, if_neg (by omega)])
          go_wp2_with fail
          refine bodyPost_ret (v := .agg #[.int .i64 0, .int .i64 0]) (by simp [results, Tryz.results47, go_sem, *]) rfl ⟨by rw [HV2.out], ?_⟩
          exact (HB0.out.setCell (Nat.le_refl _) _).setCell (Nat.le_refl _) _
        · by_cases htp : t < (p : Int)
          · obtain ⟨s, rfl⟩ := Int.eq_ofNat_of_zero_le (show 0 ≤ t by omega)
            have hs : s < p := by omega
            obtain ⟨b5, o5, e5, hb5, g1, g2⟩ := HR.out s (by rw [← HP.out]; exact hs)
            subst e5
            replace g1 := (HB0.out.cell (p := ⟨b5, o5 + s * 2, none⟩) hb5).trans g1
            replace g2 := (HB0.out.cell (p := ⟨b5, o5 + s * 2 + 1, none⟩) hb5).trans g2
            have HV2 : Hid (V = ys[s]'(by rw [← HP.out]; exact hs)) := Lib.hid (by rw [HV.out, if_pos (by omega), Int.toNat_natCast, List.getElem?_eq_getElem (by rw [← HP.out]; exact hs), Option.getD_some])
            generalize ys[s]'(by rw [← HP.out]; exact hs) = yy at *
            obtain ⟨yl, yr⟩ := yy
            have hge : ¬ ((p : Int) ≤ (s : Int)) := by omega
            go_wp2_with fail
            refine bodyPost_ret (v := .agg #[.int .i64 yl, .int .i64 yr]) (by simp [results, Tryz.results47, go_sem, *]) rfl ⟨by rw [HV2.out], ?_⟩
            exact (HB0.out.setCell (Nat.le_refl _) _).setCell (Nat.le_refl _) _
          · have HV2 : Hid (V = ⟨0, 0⟩) := Lib.hid (by rw [HV.out, if_pos (by omega), List.getElem?_eq_none (by have := HP.out; omega), Option.getD_none])
            have hge : (p : Int) ≤ t := by omega
            go_wp2_with fail
            refine bodyPost_ret (v := .agg #[.int .i64 0, .int .i64 0]) (by simp [results, Tryz.results47, go_sem, *]) rfl ⟨by rw [HV2.out], ?_⟩
            exact (HB0.out.setCell (Nat.le_refl _) _).setCell (Nat.le_refl _) _
      · have HZ := Lib.hid (HNK.out he)
        have e1 : (yi == id) = false := by simpa using he
        clear HYK HNK HK
        go_wp2_with fail
        exact ⟨⟨i + 1, hlt, by go_num, trivial, HZ⟩, by simp [intOf]; omega⟩
    · have HV := Lib.hid (HNO.out fun j h => HK.out j (by have := HN.out; omega) h)
      have i1 : ¬ (i : Int) < (n : Int) := by omega
      clear HK HIS HNO
      go_wp2_with fail
      refine bodyPost_ret (v := .agg #[.int .i64 0, .int .i64 0]) (by simp [results, Tryz.results47, go_sem, *]) rfl ⟨by rw [HV.out], ?_⟩
      exact (HB0.out.setCell (Nat.le_refl _) _).setCell (Nat.le_refl _) _
end Go.Proofs.YtjokbdhineilcaaGreatDoor
