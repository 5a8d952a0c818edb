/-
  SameNodes and Group of the references, as package word's statements use them. Conditions: the lists can be read.
-/
import Derived.Test.YtmhimkojegkalaaDoorKdG
import Derived.StillTailTactics
namespace Go.Proofs.YtmhimkojegkalaaDoor
open Go.RowKit

def BoolN (b : Bool) (w : World) (e : Ending) (w' : World) : Prop := e = .returned (.bool b) ∧ Below w.heap.size w w'
/-- Two nodes are the same. -/
def Nd.same (a b : Nd) : Bool := a.id == b.id && a.key.toList == b.key.toList && a.word == b.word
theorem Nd.same_iff (a b : Nd) : a.same b = true ↔ a = b := by
  unfold Nd.same
  rw [Bool.and_eq_true, Bool.and_eq_true, beq_iff_eq, beq_iff_eq, beq_iff_eq]
  constructor
  · rintro ⟨⟨h1, h2⟩, h3⟩
    obtain ⟨k, n, t⟩ := a
    obtain ⟨k', n', t'⟩ := b
    simp only at h1 h2 h3
    rw [h1, toList_inj h2, h3]
  · rintro rfl
    exact ⟨⟨rfl, rfl⟩, rfl⟩
/-- Two lists are the same. -/
def sameN : List Nd → List Nd → Bool
  | [], [] => true
  | a :: x, b :: y => a.same b && sameN x y
  | _, _ => false
theorem sameN_iff : ∀ a b : List Nd, sameN a b = true ↔ a = b
  | [], [] => by simp [sameN]
  | [], _ :: _ => by simp [sameN]
  | _ :: _, [] => by simp [sameN]
  | a :: x, b :: y => by
    show (a.same b && sameN x y) = true ↔ _
    rw [Bool.and_eq_true, Nd.same_iff, sameN_iff x y]
    simp
theorem sameN_self (a : List Nd) : sameN a a = true := (sameN_iff a a).2 rfl
theorem sameN_len {a b : List Nd} (h : a.length ≠ b.length) : sameN a b = false := by
  rw [← Bool.not_eq_true, sameN_iff]
  rintro rfl
  exact h rfl
theorem sameN_drop {a b : List Nd} {k : Nat} (h1 : k < a.length) (h2 : k < b.length) : sameN (a.drop k) (b.drop k) = (a[k].same b[k] && sameN (a.drop (k + 1)) (b.drop (k + 1))) := by
  rw [List.drop_eq_getElem_cons h1, List.drop_eq_getElem_cons h2]; rfl

theorem fieldsN : (Tryd.prog.fieldsOf 57).toList.map (fun f => (f.name, f.type, f.offset)) = [("ID", 3, 0), ("Key", 9, 1), ("Word", 54, 2)] := by kernel_rfl
theorem eq_nd (a b : Nd) (w : World) : (Op.equalIn 10000 57 (.agg #[.int .i64 a.id, .string a.key, .int .u32 (a.word : Int)]) (.agg #[.int .i64 b.id, .string b.key, .int .u32 (b.word : Int)])).run Tryd.prog w = .ok (a.same b) w := by
  rw [run_equalIn_agg w 9999 57 _ _ (by kernel_rfl) (by kernel_rfl)]
  unfold Nd.same
  by_cases h1 : a.id = b.id <;> by_cases h2 : a.key.toList = b.key.toList <;> by_cases h3 : a.word = b.word <;> simp [go_sem, Tryd.underlying57, Tryd.underlying3, Tryd.underlying9, Tryd.underlying54, h1, h2, h3, Int.ofNat_inj]
theorem neq_nd (a b : Nd) (w : World) : (binOp .neq 57 (.agg #[.int .i64 a.id, .string a.key, .int .u32 (a.word : Int)]) (.agg #[.int .i64 b.id, .string b.key, .int .u32 (b.word : Int)])).run Tryd.prog w = .ok (.bool (!a.same b)) w := by
  rw [run_neq_struct, eq_nd]
  rfl
set_option maxRecDepth 100000 in
set_option maxHeartbeats 1600000 in
theorem same_nodes (A1 A2 : Option Addr) (a b : List Nd) (c1 c2 : Nat) (w : World) (h1 : Nds w w.heap.size A1 a) (h2 : Nds w w.heap.size A2 b) (h63 : a.length ≤ 1000000) :
    Calls Tryd.prog 20 #[.slice A1 a.length c1, .slice A2 b.length c2] w (BoolN (sameN a b) w) := by
  by_cases hlen : a.length = b.length
  · have HLN := Lib.hid hlen
    have hn : ((a.length : Int) != (b.length : Int)) = false := by simp [hlen]
    clear hlen
    generalize hla : a.length = la at *
    generalize hlb : b.length = lb at *
    have hz : (la : Int) ≤ (lb : Int) := by have := HLN.out; omega
    have HA := Lib.hid hla
    have HB := Lib.hid hlb
    clear hla hlb
    go_enter Tryd.func20, Tryd.ntmps20
    go_wp2_with fail
    go_loopw [5] (fun i wr => ∃ k : Nat, i = .int .i64 (k : Int) ∧ k ≤ la ∧ Below w.heap.size w wr ∧ Hid (sameN a b = sameN (a.drop k) (b.drop k))) (fun i _ => la - (intOf i).toNat)
    case atStart => exact ⟨0, rfl, by omega, Below.refl _ _, Lib.hid rfl⟩
    case round =>
      obtain ⟨k, rfl, hk, hB, HS⟩ := hrel
      by_cases hlt : k < la
      · have k1 : k < a.length := by rw [HA.out]; exact hlt
        have k2 : k < b.length := by rw [HB.out, ← HLN.out]; exact hlt
        obtain ⟨b1, o1, e1, hb1, f1, f2, f3⟩ := h1.at_ k1
        obtain ⟨b2, o2, e2, hb2, g1, g2, g3⟩ := h2.at_ k2
        subst e1 e2
        have HD := Lib.hid (sameN_drop k1 k2)
        have hBd := hB.drew
        replace f1 : wr.drew.cell? ⟨b1, o1 + k * 3, none⟩ = _ := (hB.cell (p := ⟨b1, o1 + k * 3, none⟩) hb1).trans f1
        replace f2 : wr.drew.cell? ⟨b1, o1 + k * 3 + 1, none⟩ = _ := (hB.cell (p := ⟨b1, o1 + k * 3 + 1, none⟩) hb1).trans f2
        replace f3 : wr.drew.cell? ⟨b1, o1 + k * 3 + 2, none⟩ = _ := (hB.cell (p := ⟨b1, o1 + k * 3 + 2, none⟩) hb1).trans f3
        replace g1 : wr.drew.cell? ⟨b2, o2 + k * 3, none⟩ = _ := (hB.cell (p := ⟨b2, o2 + k * 3, none⟩) hb2).trans g1
        replace g2 : wr.drew.cell? ⟨b2, o2 + k * 3 + 1, none⟩ = _ := (hB.cell (p := ⟨b2, o2 + k * 3 + 1, none⟩) hb2).trans g2
        replace g3 : wr.drew.cell? ⟨b2, o2 + k * 3 + 2, none⟩ = _ := (hB.cell (p := ⟨b2, o2 + k * 3 + 2, none⟩) hb2).trans g3
        generalize a[k] = x at *
        generalize b[k] = y at *
        obtain ⟨xk, xn, xt⟩ := x
        obtain ⟨yk, yn, yt⟩ := y
        have i0 : (0 : Int) ≤ (k : Int) := by omega
        have i1 : (k : Int) < (la : Int) := by omega
        have i2 : (k : Int) < (lb : Int) := by omega
        clear k1 k2 hn
        cases hs : Nd.same ⟨xk, xn, xt⟩ ⟨yk, yn, yt⟩
        · have HF : Hid (sameN a b = false) := Lib.hid (by rw [HS.out, HD.out, hs]; rfl)
          have hNE : ∀ W, (binOp .neq 57 (.agg #[.int .i64 xk, .string xn, .int .u32 (xt : Int)]) (.agg #[.int .i64 yk, .string yn, .int .u32 (yt : Int)])).run Tryd.prog W = .ok (.bool true) W := fun W => by rw [neq_nd ⟨xk, xn, xt⟩ ⟨yk, yn, yt⟩, hs]; rfl
          clear HD HS hs
          go_wp2_with fail
          refine wp_region_still_tail 8 (by kernel_rfl) (by kernel_rfl) ?_
          simp only [List.take_succ_cons, List.take_zero, List.drop_succ_cons, List.drop_zero]
          change wpStill _ _ wr.drew (fun a' => wpList _ _ _ _ a' wr.drew) _ _
          generalize wr.drew = w9 at *
          repeat still_step
          refine wpStill_nil ?_
          go_wp2_with fail
          go_ret
          exact ⟨ret_bool HF.out.symm, hBd⟩
        · have HF : Hid (sameN a b = sameN (a.drop (k + 1)) (b.drop (k + 1))) := Lib.hid (by rw [HS.out, HD.out, hs]; rfl)
          have he := (Nd.same_iff _ _).1 hs
          injection he with e1 e2 e3
          subst e1 e2 e3
          have hNE : ∀ W, (binOp .neq 57 (.agg #[.int .i64 xk, .string xn, .int .u32 (xt : Int)]) (.agg #[.int .i64 xk, .string xn, .int .u32 (xt : Int)])).run Tryd.prog W = .ok (.bool false) W := fun W => by rw [neq_nd ⟨xk, xn, xt⟩ ⟨xk, xn, xt⟩, hs]; rfl
          clear HD HS hs
          go_wp2_with fail
          refine wp_region_still_tail 8 (by kernel_rfl) (by kernel_rfl) ?_
          simp only [List.take_succ_cons, List.take_zero, List.drop_succ_cons, List.drop_zero]
          change wpStill _ _ wr.drew (fun a' => wpList _ _ _ _ a' wr.drew) _ _
          generalize wr.drew = w9 at *
          repeat still_step
          refine wpStill_nil ?_
          go_wp2_with fail
          exact ⟨⟨k + 1, by go_num, hlt, hBd, HF⟩, by simp [intOf]; omega⟩
      · have HE : Hid (sameN a b = true) := Lib.hid (by
          rw [HS.out, List.drop_eq_nil_of_le (by have := HA.out; omega), List.drop_eq_nil_of_le (by have := HB.out; have := HLN.out; omega)]; rfl)
        go_wp2_with fail
        go_ret
        exact ⟨ret_bool HE.out.symm, hB⟩
  · have HE := Lib.hid (sameN_len hlen)
    have hn : ((a.length : Int) == (b.length : Int)) = false := by simp; omega
    go_enter Tryd.func20, Tryd.ntmps20
    go_wp2_with fail
    go_ret
    exact ⟨ret_bool HE.out.symm, Below.refl _ _⟩

end Go.Proofs.YtmhimkojegkalaaDoor
