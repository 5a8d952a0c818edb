/-
  Same of the reference and damage of chapter 2's statements. Conditions: the lists can be read; the tape.
-/
import Derived.Test.YtlnmpiigmedgkaaDoorKcU
import Derived.Test.YtlnmpiigmedgkaaDoorKcN
import Derived.StillTailTactics
namespace Go.Proofs.YtlnmpiigmedgkaaDoor
open Go.RowKit

/-- Two fields are the same. -/
def Fd.same (a b : Fd) : Bool := a.kind == b.kind && a.num == b.num && a.text.toList == b.text.toList
theorem Fd.same_iff (a b : Fd) : a.same b = true ↔ a = b := by
  unfold Fd.same
  rw [Bool.and_eq_true, Bool.and_eq_true, beq_iff_eq, beq_iff_eq, beq_iff_eq]
  constructor
  · rintro ⟨⟨h1, h2⟩, h3⟩
    obtain ⟨k, n, t⟩ := a
    obtain ⟨k', n', t'⟩ := b
    simp only at h1 h2 h3
    rw [h1, h2, toList_inj h3]
  · rintro rfl
    exact ⟨⟨rfl, rfl⟩, rfl⟩
/-- Two lists are the same. -/
def sameL : List Fd → List Fd → Bool
  | [], [] => true
  | a :: x, b :: y => a.same b && sameL x y
  | _, _ => false
theorem sameL_iff : ∀ a b : List Fd, sameL a b = true ↔ a = b
  | [], [] => by simp [sameL]
  | [], _ :: _ => by simp [sameL]
  | _ :: _, [] => by simp [sameL]
  | a :: x, b :: y => by
    show (a.same b && sameL x y) = true ↔ _
    rw [Bool.and_eq_true, Fd.same_iff, sameL_iff x y]
    simp
theorem sameL_self (a : List Fd) : sameL a a = true := (sameL_iff a a).2 rfl
theorem sameL_len {a b : List Fd} (h : a.length ≠ b.length) : sameL a b = false := by
  rw [← Bool.not_eq_true, sameL_iff]
  rintro rfl
  exact h rfl
theorem sameL_drop {a b : List Fd} {k : Nat} (h1 : k < a.length) (h2 : k < b.length) : sameL (a.drop k) (b.drop k) = (a[k].same b[k] && sameL (a.drop (k + 1)) (b.drop (k + 1))) := by
  rw [List.drop_eq_getElem_cons h1, List.drop_eq_getElem_cons h2]; rfl

theorem fieldsF : (Tryd.prog.fieldsOf 98).toList.map (fun f => (f.name, f.type, f.offset)) = [("Kind", 3, 0), ("Int", 2, 1), ("Text", 9, 2)] := by kernel_rfl
theorem eq_fd (a b : Fd) (w : World) : (Op.equalIn 10000 98 (.agg #[.int .i64 a.kind, .int .i64 a.num, .string a.text]) (.agg #[.int .i64 b.kind, .int .i64 b.num, .string b.text])).run Tryd.prog w = .ok (a.same b) w := by
  rw [run_equalIn_agg w 9999 98 _ _ (by kernel_rfl) (by kernel_rfl)]
  unfold Fd.same
  by_cases h1 : a.kind = b.kind <;> by_cases h2 : a.num = b.num <;> by_cases h3 : a.text.toList = b.text.toList <;> simp [go_sem, Tryd.underlying98, Tryd.underlying3, Tryd.underlying2, Tryd.underlying9, h1, h2, h3]
theorem neq_fd (a b : Fd) (w : World) : (binOp .neq 98 (.agg #[.int .i64 a.kind, .int .i64 a.num, .string a.text]) (.agg #[.int .i64 b.kind, .int .i64 b.num, .string b.text])).run Tryd.prog w = .ok (.bool (!a.same b)) w := by
  rw [run_neq_struct, eq_fd]
  rfl
theorem eql_fd (a b : Fd) (w : World) : (binOp .eql 98 (.agg #[.int .i64 a.kind, .int .i64 a.num, .string a.text]) (.agg #[.int .i64 b.kind, .int .i64 b.num, .string b.text])).run Tryd.prog w = .ok (.bool (a.same b)) w := by
  rw [run_eql_struct, eq_fd]
  rfl
set_option maxRecDepth 100000 in
set_option maxHeartbeats 1600000 in
theorem same_lists (A1 A2 : Option Addr) (a b : List Fd) (c1 c2 : Nat) (w : World) (h1 : Fds w w.heap.size A1 a) (h2 : Fds w w.heap.size A2 b) (h63 : a.length ≤ 1000000) :
    Calls Tryd.prog 27 #[.slice A1 a.length c1, .slice A2 b.length c2] w (BoolB (sameL a b) w) := by
  by_cases hlen : a.length = b.length
  · have HLN := Lib.hid hlen
    have hn : ((a.length : Int) != (b.length : Int)) = false := by simp [hlen]
    clear hlen
    generalize hla : a.length = la at *
    generalize hlb : b.length = lb at *
    have hz : (la : Int) ≤ (lb : Int) := by have := HLN.out; omega
    have HA := Lib.hid hla
    have HB := Lib.hid hlb
    clear hla hlb
    go_enter Tryd.func27, Tryd.ntmps27
    go_wp2_with fail
    go_loopw [5] (fun i wr => ∃ k : Nat, i = .int .i64 (k : Int) ∧ k ≤ la ∧ Below w.heap.size w wr ∧ Hid (sameL a b = sameL (a.drop k) (b.drop k))) (fun i _ => la - (intOf i).toNat)
    case atStart => exact ⟨0, rfl, by omega, Below.refl _ _, Lib.hid rfl⟩
    case round =>
      obtain ⟨k, rfl, hk, hB, HS⟩ := hrel
      by_cases hlt : k < la
      · have k1 : k < a.length := by rw [HA.out]; exact hlt
        have k2 : k < b.length := by rw [HB.out, ← HLN.out]; exact hlt
        obtain ⟨b1, o1, e1, hb1, f1, f2, f3⟩ := h1.at_ k1
        obtain ⟨b2, o2, e2, hb2, g1, g2, g3⟩ := h2.at_ k2
        subst e1 e2
        have HD := Lib.hid (sameL_drop k1 k2)
        have hBd := hB.drew
        replace f1 : wr.drew.cell? ⟨b1, o1 + k * 3, none⟩ = _ := (hB.cell (p := ⟨b1, o1 + k * 3, none⟩) hb1).trans f1
        replace f2 : wr.drew.cell? ⟨b1, o1 + k * 3 + 1, none⟩ = _ := (hB.cell (p := ⟨b1, o1 + k * 3 + 1, none⟩) hb1).trans f2
        replace f3 : wr.drew.cell? ⟨b1, o1 + k * 3 + 2, none⟩ = _ := (hB.cell (p := ⟨b1, o1 + k * 3 + 2, none⟩) hb1).trans f3
        replace g1 : wr.drew.cell? ⟨b2, o2 + k * 3, none⟩ = _ := (hB.cell (p := ⟨b2, o2 + k * 3, none⟩) hb2).trans g1
        replace g2 : wr.drew.cell? ⟨b2, o2 + k * 3 + 1, none⟩ = _ := (hB.cell (p := ⟨b2, o2 + k * 3 + 1, none⟩) hb2).trans g2
        replace g3 : wr.drew.cell? ⟨b2, o2 + k * 3 + 2, none⟩ = _ := (hB.cell (p := ⟨b2, o2 + k * 3 + 2, none⟩) hb2).trans g3
        generalize a[k] = x at *
        generalize b[k] = y at *
        obtain ⟨xk, xn, xt⟩ := x
        obtain ⟨yk, yn, yt⟩ := y
        have i0 : (0 : Int) ≤ (k : Int) := by omega
        have i1 : (k : Int) < (la : Int) := by omega
        have i2 : (k : Int) < (lb : Int) := by omega
        clear k1 k2 hn
        cases hs : Fd.same ⟨xk, xn, xt⟩ ⟨yk, yn, yt⟩
        · have HF : Hid (sameL a b = false) := Lib.hid (by rw [HS.out, HD.out, hs]; rfl)
          have HC : Hid (¬ (xk = yk ∧ xn = yn ∧ xt.toList = yt.toList)) := Lib.hid (by
            rintro ⟨e1, e2, e3⟩
            have hs2 : Fd.same ⟨xk, xn, xt⟩ ⟨yk, yn, yt⟩ = true := by rw [Fd.same_iff, e1, e2, toList_inj e3]
            rw [hs] at hs2
            cases hs2)
          clear HD HS hs
          go_wp2_with fail
          refine wp_region_still_tail 8 (by kernel_rfl) (by kernel_rfl) ?_
          simp only [List.take_succ_cons, List.take_zero, List.drop_succ_cons, List.drop_zero]
          change wpStill _ _ wr.drew (fun a' => wpList _ _ _ _ a' wr.drew) _ _
          generalize wr.drew = w9 at *
          repeat still_step
          refine wpStill_nil ?_
          go_wp2_with fail
          all_goals first
            | (go_ret; exact ⟨ret_bool HF.out.symm, hBd⟩)
            | exact absurd ⟨‹xk = yk›, ‹xn = yn›, ‹xt.toList = yt.toList›⟩ HC.out
        · have HF : Hid (sameL a b = sameL (a.drop (k + 1)) (b.drop (k + 1))) := Lib.hid (by rw [HS.out, HD.out, hs]; rfl)
          have he := (Fd.same_iff _ _).1 hs
          injection he with e1 e2 e3
          subst e1 e2 e3
          clear HD HS hs
          go_wp2_with fail
          refine wp_region_still_tail 8 (by kernel_rfl) (by kernel_rfl) ?_
          simp only [List.take_succ_cons, List.take_zero, List.drop_succ_cons, List.drop_zero]
          change wpStill _ _ wr.drew (fun a' => wpList _ _ _ _ a' wr.drew) _ _
          generalize wr.drew = w9 at *
          repeat still_step
          refine wpStill_nil ?_
          go_wp2_with fail
          exact ⟨⟨k + 1, by go_num, hlt, hBd, HF⟩, by simp [intOf]; omega⟩
      · have HE : Hid (sameL a b = true) := Lib.hid (by
          rw [HS.out, List.drop_eq_nil_of_le (by have := HA.out; omega), List.drop_eq_nil_of_le (by have := HB.out; have := HLN.out; omega)]; rfl)
        go_wp2_with fail
        go_ret
        exact ⟨ret_bool HE.out.symm, hB⟩
  · have HE := Lib.hid (sameL_len hlen)
    have hn : ((a.length : Int) == (b.length : Int)) = false := by simp; omega
    go_enter Tryd.func27, Tryd.ntmps27
    go_wp2_with fail
    go_ret
    exact ⟨ret_bool HE.out.symm, Below.refl _ _⟩

/-- []byte(s): what conv_c says, and that every cell up to the capacity is there and can be written. -/
theorem conv_d (w : World) (s : ByteArray) : ∃ (cap : Nat) (w1 : World), (convert 9 58 (.string s)).run Tryd.prog w = .ok (.slice (some ⟨w.heap.size, 0, none⟩) s.size cap) w1 ∧ s.size ≤ cap ∧ Below w.heap.size w w1 ∧ w.heap.size < w1.heap.size ∧
    (∀ j (hj : j < s.data.toList.length), w1.cell? ⟨w.heap.size, j, none⟩ = some (.int .u8 (s.data.toList[j].toNat : Int))) ∧ (∀ j, j < cap → (w1.cell? ⟨w.heap.size, j, none⟩).isSome = true) ∧ (∀ j, j < cap → w1.frozen? ⟨w.heap.size, j, none⟩ = false) := by
  have h := run_bytes_of_string (P := Tryd.prog) w 9 58 5 s Tryd.underlying9 Tryd.underlying58 Tryd.underlying5
  have hge : s.size ≤ grownCap w s.size 0 5 := grownCap_ge _ _ _ _
  have hsz : (bytesRow s (grownCap w s.size 0 5)).size = grownCap w s.size 0 5 := by
    unfold bytesRow
    rw [Array.size_append, Array.size_map, Array.size_replicate]
    show s.size + _ = _
    omega
  refine ⟨_, _, h, hge, ((Below.refl _ _).drew).alloc (Nat.le_refl _) _, ?_, fun j hj => ?_, fun j hj => ?_, fun j hj => ?_⟩
  · rw [World.size_alloc]; exact Nat.lt_succ_self _
  · have h1 : j < (s.data.map (fun b => Value.int .u8 b.toNat)).size := by rw [Array.size_map]; exact hj
    refine (World.cell?_alloc_mark w.drew _ _ _ j).trans ?_
    unfold bytesRow
    rw [Array.getElem?_append_left h1, Array.getElem?_map, ← Array.getElem?_toList, List.getElem?_eq_getElem hj]
    rfl
  · have := (World.cell?_alloc_mark w.drew (bytesRow s (grownCap w s.size 0 5)) 5 ((bytesRow s (grownCap w s.size 0 5)).size, (bytesRow s (grownCap w s.size 0 5)).size + 1) j)
    rw [show (w.drew).heap.size = w.heap.size from rfl] at this
    rw [this, Array.getElem?_eq_getElem (by rw [hsz]; exact hj)]
    rfl
  · refine (World.frozen?_alloc_mark w.drew _ _ _ _ j).trans ?_
    rw [hsz, decide_eq_false (by omega)]
    rfl
/-- append of one byte to such a slice. -/
theorem run_append_conv (w : World) (G n cap : Nat) (l : List UInt8) (hl : l.length = n) (X : Nat) (x : UInt8) (ty : TypeId)
    (hcell : ∀ j (hj : j < l.length), w.cell? ⟨G, j, none⟩ = some (.int .u8 (l[j].toNat : Int))) (hs : ∀ j, j < cap → (w.cell? ⟨G, j, none⟩).isSome = true) (hf : ∀ j, j < cap → w.frozen? ⟨G, j, none⟩ = false)
    (hG : G < w.heap.size) (hX : w.cell? ⟨X, 0, none⟩ = some (.int .u8 (x.toNat : Int))) (hcap : n ≤ cap) (hn : n ≤ 1000000000) :
    ∃ A c w', (Builtin.append_ #[58, 58] ty #[.slice (some ⟨G, 0, none⟩) n cap, .slice (some ⟨X, 0, none⟩) 1 1]).run Tryd.prog w = .ok (.slice A (n + 1) c) w' ∧ Bys w' w'.heap.size A (l ++ [x]) ∧ Below G w w' := by
  obtain ⟨i, hi, ie⟩ := Option.map_eq_some_iff.1 infoByte
  injection ie with i1 i2
  injection i2 with i2 i3
  have hnews : ∀ j u, (bv [x])[j]? = some u → w.cell? ((⟨X, 0, none⟩ : Addr).add j) = some u := fun j u hj => by
    rcases j with _ | j
    · rw [add_at]
      have : some (Value.int .u8 (x.toNat : Int)) = some u := hj
      rw [← this]
      exact hX
    · simp [bv] at hj
  by_cases hroom : n + 1 ≤ cap
  · have hr := run_append_room_cells (P := Tryd.prog) w 58 ty 5 i Tryd.underlying58 hi G 0 n cap ⟨X, 0, none⟩ 1 1 (bv [x]) (by rw [i2]; rfl) hnews (bv_ones _) hroom
      (fun j hj => by rw [i2]; simp [bv] at hj; subst hj; simpa using hs n (by omega)) (fun j hj => by rw [i2]; simp [bv] at hj; subst hj; simpa using hf n (by omega))
    rw [i2, Nat.mul_one, Nat.zero_add] at hr
    refine ⟨_, _, _, hr, fun _ => ⟨G, 0, rfl, ?_, fun j hj => ?_⟩, ?_⟩
    · show G < (w.setCell ⟨G, n, none⟩ _).heap.size
      simpa [World.setCell] using hG
    · show (w.setCell ⟨G, n, none⟩ (.int .u8 (x.toNat : Int))).cell? ⟨G, 0 + j, none⟩ = _
      rw [Nat.zero_add]
      by_cases hjn : j < l.length
      · rw [World.cell?_setCell_other w _ _ _ (fun e => by injection e with e1 e2; omega), hcell j hjn, List.getElem_append_left hjn]
      · have hjn2 : j = n := by simp at hj; omega
        subst hjn2
        obtain ⟨u, hu⟩ := Option.isSome_iff_exists.1 (hs j (by omega))
        rw [World.cell?_setCell_same w _ _ hu]
        simp [hl]
    · show Below G w (w.setCell ⟨G, n, none⟩ (.int .u8 (x.toNat : Int)))
      exact (Below.refl _ _).setCell (p := ⟨G, n, none⟩) (Nat.le_refl _) _
  · obtain ⟨v', w', hr, ho, hg⟩ := run_append_arg_grows (P := Tryd.prog) w 58 ty 5 i (.int .u8 0) 1 1 Tryd.underlying58 hi i1 i2 i3 rfl (by decide) ⟨G, 0, none⟩ n cap (bv l) (by rw [bv_len, hl, Nat.mul_one])
      (fun j u hj => by
        rw [bv_at] at hj
        rw [add_at, Nat.zero_add]
        rcases Nat.lt_or_ge j l.length with h1 | h1
        · rw [hcell j h1, ← hj, List.getElem?_eq_getElem h1]; rfl
        · rw [List.getElem?_eq_none h1] at hj; cases hj) ⟨X, 0, none⟩ 1 1 (bv [x]) rfl hnews (by omega) (by unfold maxLen; omega) (by omega)
    have hob : OwnB w' w.heap.size v' (l ++ [x]) := by
      unfold OwnB
      rw [bv_append, List.length_append, hl]
      exact ho
    obtain ⟨A, c, rfl, _, _, hb⟩ := hob.read
    have hlen : (l ++ [x]).length = n + 1 := by simp [hl]
    rw [hlen] at hr
    exact ⟨A, c, w', hr, hb, ⟨hg.os, hg.tape, hg.output, hg.size, fun k hk => hg.block k (by omega) (by simp)⟩⟩
end Go.Proofs.YtlnmpiigmedgkaaDoor
