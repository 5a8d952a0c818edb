/-
  Group of the reference of chapter 4: the nodes whose words agree with a word up to a level. Condition: the nodes can be read.
-/
import Derived.Test.YtmhimkojegkalaaDoorKdH
namespace Go.Proofs.YtmhimkojegkalaaDoor
open Go.RowKit

theorem grp_deep (l : List Nd) {h : Int} (v : Nat) (hh : 16 < h) : grp l h v = [] := by
  unfold grp
  rw [List.filter_eq_nil_iff]
  intro x _
  have := cm_le x.word v
  simp
  omega

set_option maxRecDepth 100000 in
set_option maxHeartbeats 3200000 in
theorem rgroup_any (A : Option Addr) (l : List Nd) (c : Nat) (h : Int) (v : Nat) (w : World) (hl : Nds w w.heap.size A l) (hn : l.length ≤ 1000) (hwd : ∀ x ∈ l, x.word < 4294967296) (hv : v < 4294967296) :
    Calls Tryd.prog 116 #[.slice A l.length c, .int .i64 h, .int .u32 (v : Int)] w (NdsP (grp l h v) w) := by
  obtain ⟨inf, hif, hif1, hif2, hif3⟩ := infoN_parts
  by_cases hh : 16 < h
  · rw [grp_deep l v hh]
    clear hl hwd
    go_enter Tryd.func116, Tryd.ntmps116
    by_cases h0 : 0 < l.length
    · have h0' : (0 : Int) < (l.length : Int) := by omega
      go_wp2_with fail
      go_loopw [7, 8] (fun b i wr => b = .slice none 0 0 ∧ i = .int .i64 0 ∧ wr = w) (fun _ _ _ => 0)
      case atStart => exact ⟨rfl, rfl, rfl⟩
      case round =>
        obtain ⟨rfl, rfl, rfl⟩ := hrel
        go_wp2_with fail
        go_ret
        exact ⟨none, 0, rfl, OwnN.nil _ _, Below.refl _ _⟩
    · have h0' : ¬ (0 : Int) < (l.length : Int) := by omega
      go_wp2_with fail
      go_loopw [7, 8] (fun b i wr => b = .slice none 0 0 ∧ i = .int .i64 0 ∧ wr = w) (fun _ _ _ => 0)
      case atStart => exact ⟨rfl, rfl, rfl⟩
      case round =>
        obtain ⟨rfl, rfl, rfl⟩ := hrel
        go_wp2_with fail
        go_ret
        exact ⟨none, 0, rfl, OwnN.nil _ _, Below.refl _ _⟩
  have hh2 : h ≤ 16 := by omega
  go_enter Tryd.func116, Tryd.ntmps116
  go_wp2_with fail
  go_loopw [7, 8] (fun b i wr => ∃ (v1 : Value) (k : Nat) (l1 : List Nd), v1 = b ∧ k ≤ l.length ∧ i = .int .i64 (k : Int) ∧ OwnN wr w.heap.size v1 l1 ∧ Below w.heap.size w wr ∧ Hid (l1 = grp (l.take k) h v) ∧ l1.length ≤ k) (fun _ i _ => l.length - (intOf i).toNat)
  case atStart => exact ⟨_, 0, [], rfl, by omega, rfl, OwnN.nil _ _, Below.refl _ _, Lib.hid (by simp [grp]), by simp⟩
  case round =>
    obtain ⟨v1, k, l1, rfl, hk, rfl, ho1, hB, HL, hlen⟩ := hrel
    by_cases hlt : k < l.length
    · obtain ⟨b, o, hA2, hb, f1, f2, f3⟩ := hl.at_ hlt
      subst hA2
      have hxw := hwd _ (List.getElem_mem hlt)
      have HY := Lib.hid (fun (hy : h ≤ (cm l[k].word v : Int)) => grp_yes hlt hy)
      have HNo := Lib.hid (fun (hy : ¬ h ≤ (cm l[k].word v : Int)) => grp_no hlt hy)
      replace f1 := (hB.cell (p := ⟨b, o + k * 3, none⟩) hb).trans f1
      replace f2 := (hB.cell (p := ⟨b, o + k * 3 + 1, none⟩) hb).trans f2
      replace f3 := (hB.cell (p := ⟨b, o + k * 3 + 2, none⟩) hb).trans f3
      generalize l[k] = y at *
      obtain ⟨yi, yk, yw⟩ := y
      have i0 : (0 : Int) ≤ (k : Int) := by omega
      have i1 : (k : Int) < (l.length : Int) := by omega
      obtain ⟨A3, c3, hv3, hnd⟩ := ho1.read
      clear hnd
      subst hv3
      go_wp2_with fail
      refine (rsame_any yw v h _ hxw hv).mono ?_
      rintro e w' ⟨he, rfl⟩
      by_cases hy : h ≤ (cm yw v : Int)
      · have hd : decide (h ≤ (cm yw v : Int)) = true := by simpa using hy
        have HF := Lib.hid (HY.out hy)
        rw [hd] at he
        subst he
        clear hd hy HY HNo
        have hbs := hB.size
        go_wp2_with (at_builtin; refine wpList_pushN rfl _ _ 23 rfl w.heap.size inf Tryd.underlying23 hif hif1 hif2 hif3 (.slice A3 l1.length c3) l1 _ ⟨yi, yk, yw⟩ rfl ho1 rfl (by omega) hbs ?_; intro v2 w6 ho6 hb6; obtain ⟨l2, hl2⟩ : ∃ l2, l2 = l1 ++ [(⟨yi, yk, yw⟩ : Nd)] := ⟨_, rfl⟩; rw [← hl2] at ho6; have hln2 : l2.length = l1.length + 1 := (by rw [hl2]; simp); have HL2 := Lib.hid hl2; have HLN := Lib.hid hln2; clear hl2 hln2; obtain ⟨A4, c4, rfl, -⟩ := ho6.read)
        exact ⟨⟨_, k + 1, l2, rfl, hlt, by go_num, ho6, hB.trans hb6, Lib.hid (by rw [HL2.out, HL.out, HF.out]), by have := HLN.out; omega⟩, by simp [intOf]; omega⟩
      · have hd : decide (h ≤ (cm yw v : Int)) = false := by simpa using hy
        have HF := Lib.hid (HNo.out (by omega))
        rw [hd] at he
        subst he
        clear hd hy HY HNo
        go_wp2_with fail
        exact ⟨⟨_, k + 1, l1, rfl, hlt, by go_num, ho1, hB, Lib.hid (by rw [HL.out, HF.out]), by omega⟩, by simp [intOf]; omega⟩
    · have hL2 : l1 = grp l h v := by rw [HL.out, List.take_of_length_le (by omega)]
      obtain ⟨A3, c3, rfl, -⟩ := ho1.read
      have HL2 := Lib.hid hL2
      clear hL2 HL
      go_wp2_with fail
      go_ret
      rw [← HL2.out]
      exact ⟨A3, c3, rfl, ho1, hB⟩
end Go.Proofs.YtmhimkojegkalaaDoor
