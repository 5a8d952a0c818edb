/-
  Group of package word: the nodes whose words agree with a word up to a level. Condition: the nodes can be read; the library's table of trailing zeros is as its initialiser lays it.
-/
import Derived.Test.YtiafimbehcemcaaDoorKdC
import Derived.Test.YtiafimbehcemcaaDoorKdN
namespace Go.Proofs.YtiafimbehcemcaaDoor
open Go.RowKit

theorem Deb.keep {w w' : World} (h : Deb w) (k : w'.heap[1]? = w.heap[1]?) : Deb w' := fun j hj => (World.cell?_of_block (w := w) k).trans (h j hj)
theorem Deb.lt {w : World} (h : Deb w) : 1 < w.heap.size := World.block_lt_of_cell? w _ (h 0 (by decide))
theorem Deb.below {w w' : World} (h : Deb w) (k : Below w.heap.size w w') : Deb w' := h.keep (k.block _ h.lt)
theorem Deb.step {w w' : World} {g : Nat} (h : Deb w) (hg : 1 ≠ g) (k : TStep w g w') : Deb w' := h.keep (k.2.block _ h.lt (fun e => hg (Option.some.inj e)))

/-- The nodes of a group. -/
def grp (l : List Nd) (h : Int) (v : Nat) : List Nd := l.filter fun x => decide (h ≤ (cm x.word v : Int))
theorem grp_yes {l : List Nd} {h : Int} {v k : Nat} (hk : k < l.length) (hy : h ≤ (cm l[k].word v : Int)) : grp (l.take (k + 1)) h v = grp (l.take k) h v ++ [l[k]] := by
  unfold grp; rw [List.take_succ_eq_append_getElem hk, List.filter_append]; congr 1; simp [hy]
theorem grp_no {l : List Nd} {h : Int} {v k : Nat} (hk : k < l.length) (hy : ¬ h ≤ (cm l[k].word v : Int)) : grp (l.take (k + 1)) h v = grp (l.take k) h v := by
  unfold grp; rw [List.take_succ_eq_append_getElem hk, List.filter_append]; simp [hy]
theorem grp_len (l : List Nd) (h : Int) (v : Nat) : (grp l h v).length ≤ l.length := List.length_filter_le _ _

/-- What Group gives: a row of the call's own. -/
def NdsP (l : List Nd) (w : World) (e : Ending) (w' : World) : Prop := ∃ A c, e = .returned (.slice A l.length c) ∧ OwnN w' w.heap.size (.slice A l.length c) l ∧ Below w.heap.size w w'

set_option maxRecDepth 100000 in
set_option maxHeartbeats 3200000 in
theorem group_any (A : Option Addr) (l : List Nd) (c : Nat) (h : Int) (v : Nat) (w : World) (hl : Nds w w.heap.size A l) (hn : l.length ≤ 1000) (hwd : ∀ x ∈ l, x.word < 4294967296) (hv : v < 4294967296) (hT : Deb w) :
    Calls Tryd.prog 32 #[.slice A l.length c, .int .i64 h, .int .u32 (v : Int)] w (NdsP (grp l h v) w) := by
  obtain ⟨inf, hif, hif1, hif2, hif3⟩ := infoN_parts
  go_enter Tryd.func32, Tryd.ntmps32
  go_wp2_with fail
  go_loopw [7, 12] (fun b i wr => ∃ (v1 : Value) (k : Nat) (l1 : List Nd), v1 = b ∧ k ≤ l.length ∧ i = .int .i64 (k : Int) ∧ OwnN wr w.heap.size v1 l1 ∧ Below w.heap.size w wr ∧ Hid (l1 = grp (l.take k) h v) ∧ l1.length ≤ k) (fun _ i _ => l.length - (intOf i).toNat)
  case atStart => exact ⟨_, 0, [], rfl, by omega, rfl, OwnN.nil _ _, Below.refl _ _, Lib.hid (by simp [grp]), by simp⟩
  case round =>
    obtain ⟨v1, k, l1, rfl, hk, rfl, ho1, hB, HL, hlen⟩ := hrel
    by_cases hlt : k < l.length
    · obtain ⟨b, o, hA2, hb, f1, f2, f3⟩ := hl.at_ hlt
      subst hA2
      have hxw := hwd _ (List.getElem_mem hlt)
      have HY := Lib.hid (fun (hy : h ≤ (cm l[k].word v : Int)) => grp_yes hlt hy)
      have HNo := Lib.hid (fun (hy : ¬ h ≤ (cm l[k].word v : Int)) => grp_no hlt hy)
      replace f1 := (hB.cell (p := ⟨b, o + k * 3, none⟩) hb).trans f1
      replace f2 := (hB.cell (p := ⟨b, o + k * 3 + 1, none⟩) hb).trans f2
      replace f3 := (hB.cell (p := ⟨b, o + k * 3 + 2, none⟩) hb).trans f3
      generalize l[k] = y at *
      obtain ⟨yi, yk, yw⟩ := y
      have i0 : (0 : Int) ≤ (k : Int) := by omega
      have hdeb := (hT.below (w' := wr) ⟨hB.os, hB.tape, hB.output, hB.size, hB.block⟩).below ((Below.refl _ _).alloc (Nat.le_refl _) (.cells #[.int .i64 yi, .string yk, .int .u32 (yw : Int)] 60))
      obtain ⟨A3, c3, hv3, hnd⟩ := ho1.read
      have hoa := ho1.below ((Below.refl _ _).alloc (Nat.le_refl _) (.cells #[.int .i64 yi, .string yk, .int .u32 (yw : Int)] 60))
      have hBa := hB.alloc hB.size (.cells #[.int .i64 yi, .string yk, .int .u32 (yw : Int)] 60)
      have hX := Has.new wr 60 #[.int .i64 yi, .string yk, .int .u32 (yw : Int)]
      have x0 := hX.cell 0
      have x1 := hX.cell 1
      have x2 := hX.cell 2
      clear hnd
      subst hv3
      go_wp2_with fail
      refine (same_any yw v h _ hxw hv hdeb).mono ?_
      rintro e w' ⟨he, rfl⟩
      by_cases hy : h ≤ (cm yw v : Int)
      · have hd : decide (h ≤ (cm yw v : Int)) = true := by simpa using hy
        have HF := Lib.hid (HY.out hy)
        rw [hd] at he
        subst he
        clear hd hy HY HNo hdeb
        go_wp2_with (at_builtin; refine wpList_pushN rfl _ _ 23 rfl w.heap.size inf Tryd.underlying23 hif hif1 hif2 hif3 (.slice A3 l1.length c3) l1 _ ⟨yi, yk, yw⟩ rfl hoa (by rw [World.size_alloc]; rfl) (by omega) hBa.size ?_; intro v2 w6 ho6 hb6; obtain ⟨l2, hl2⟩ : ∃ l2, l2 = l1 ++ [(⟨yi, yk, yw⟩ : Nd)] := ⟨_, rfl⟩; rw [← hl2] at ho6; have hln2 : l2.length = l1.length + 1 := (by rw [hl2]; simp); have HL2 := Lib.hid hl2; have HLN := Lib.hid hln2; clear hl2 hln2; obtain ⟨A4, c4, rfl, -⟩ := ho6.read)
        exact ⟨⟨_, k + 1, l2, rfl, hlt, by go_num, ho6, hBa.trans hb6, Lib.hid (by rw [HL2.out, HL.out, HF.out]), by have := HLN.out; omega⟩, by simp [intOf]; omega⟩
      · have hd : decide (h ≤ (cm yw v : Int)) = false := by simpa using hy
        have HF := Lib.hid (HNo.out (by omega))
        rw [hd] at he
        subst he
        clear hd hy HY HNo hdeb
        go_wp2_with fail
        exact ⟨⟨_, k + 1, l1, rfl, hlt, by go_num, hoa, hBa, Lib.hid (by rw [HL.out, HF.out]), by omega⟩, by simp [intOf]; omega⟩
    · have hL2 : l1 = grp l h v := by rw [HL.out, List.take_of_length_le (by omega)]
      obtain ⟨A3, c3, rfl, -⟩ := ho1.read
      have HL2 := Lib.hid hL2
      clear hL2 HL
      go_wp2_with fail
      go_ret
      rw [← HL2.out]
      exact ⟨A3, c3, rfl, ho1, hB⟩
theorem two_nodes (w : World) (a b : Nd) : Nds (w.alloc (.cells #[.int .i64 a.id, .string a.key, .int .u32 (a.word : Int), .int .i64 b.id, .string b.key, .int .u32 (b.word : Int)] 60)) (w.heap.size + 1) (some ⟨w.heap.size, 0, none⟩) [a, b] := fun _ => by
  have hN := Has.new w 60 #[.int .i64 a.id, .string a.key, .int .u32 (a.word : Int), .int .i64 b.id, .string b.key, .int .u32 (b.word : Int)]
  refine ⟨_, 0, rfl, by omega, fun i hi => ?_⟩
  have h2 : i = 0 ∨ i = 1 := by simp at hi; omega
  rcases h2 with rfl | rfl
  · exact ⟨hN.cell 0, hN.cell 1, hN.cell 2⟩
  · exact ⟨hN.cell 3, hN.cell 4, hN.cell 5⟩
theorem cm_51 : cm 5 1 = 2 := by decide +kernel
theorem cm_13 : cm 1 3 = 1 := by decide +kernel
theorem cm_23 : cm 2 3 = 0 := by decide +kernel
theorem grp_13 : grp [⟨0, ⟨#[]⟩, 1⟩, ⟨0, ⟨#[]⟩, 2⟩] 1 3 = [⟨0, ⟨#[]⟩, 1⟩] := by
  unfold grp
  simp [cm_13, cm_23]
set_option maxRecDepth 100000 in
set_option maxHeartbeats 3200000 in
theorem sane4_any (w : World) (hT : Deb w) : Calls Tryd.prog 37 #[] w (LawP w) := by
  have h1 := Lib.hid (common_any 5 1 w (by decide) (by decide) hT)
  have h2 := Lib.hid (same_any 5 1 3 w (by decide) (by decide) hT)
  have h3 := Lib.hid (same_any 5 1 (-1) w (by decide) (by decide) hT)
  have h4 := Lib.hid (bit_any 5 2 w (by decide))
  have h5 := Lib.hid (valid_any4 65535 w (by decide))
  have h6 := Lib.hid (draw_any 0 0 w)
  have h7 := Lib.hid (rdraw_any 0 0 w)
  have hb := (Below.refl w.heap.size w).alloc (Nat.le_refl _) (.cells #[.int .i64 0, .string ⟨#[]⟩, .int .u32 1, .int .i64 0, .string ⟨#[]⟩, .int .u32 2] 60)
  have h8 := Lib.hid (group_any (some ⟨w.heap.size, 0, none⟩) [⟨0, ⟨#[]⟩, 1⟩, ⟨0, ⟨#[]⟩, 2⟩] 2 1 3 (w.alloc (.cells #[.int .i64 0, .string ⟨#[]⟩, .int .u32 1, .int .i64 0, .string ⟨#[]⟩, .int .u32 2] 60)) (by rw [World.size_alloc]; exact two_nodes w ⟨0, ⟨#[]⟩, 1⟩ ⟨0, ⟨#[]⟩, 2⟩) (by simp) (by simp) (by decide) (hT.below hb))
  go_enter Tryd.func37, Tryd.ntmps37
  go_wp2_with fail
  refine (h1.out).mono ?_
  rintro e w' ⟨he, rfl⟩
  rw [cm_51] at he
  subst he
  go_wp2_with fail
  refine (h2.out).mono ?_
  rintro e w' ⟨he, rfl⟩
  rw [cm_51] at he
  obtain rfl : e = .returned (.bool false) := he
  go_wp2_with fail
  refine (h3.out).mono ?_
  rintro e w' ⟨he, rfl⟩
  rw [cm_51] at he
  obtain rfl : e = .returned (.bool true) := he
  go_wp2_with fail
  refine (h4.out).mono ?_
  rintro e w' ⟨he, rfl⟩
  rw [show wbit 5 2 = 1 by decide +kernel] at he
  subst he
  go_wp2_with fail
  refine (h5.out).mono ?_
  rintro e w' ⟨he, rfl⟩
  obtain rfl : e = .returned (.bool true) := he
  generalize drW (0 : Nat) 0 = z at *
  go_wp2_with fail
  refine (h6.out).mono ?_
  rintro e w' ⟨rfl, rfl⟩
  go_wp2_with fail
  refine (h7.out).mono ?_
  rintro e w' ⟨rfl, rfl⟩
  clear h1 h2 h3 h4 h5 h6 h7
  go_wp2_with fail
  refine (h8.out).mono ?_
  rintro e w9 ⟨A, c, rfl, ho, hb9⟩
  have hlen : (grp [⟨0, ⟨#[]⟩, 1⟩, ⟨0, ⟨#[]⟩, 2⟩] 1 3).length = 1 := by rw [grp_13]; rfl
  rw [hlen]
  clear ho hlen h8
  go_wp2_with fail
  go_ret
  exact ⟨rfl, hb.trans (hb9.mono hb.size)⟩
end Go.Proofs.YtiafimbehcemcaaDoor
