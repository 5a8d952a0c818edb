/-
  agrees of the laws of layer 1: for all arguments it answers true and only makes memory. No condition.
-/
import Derived.Test.YthcgigbgkbjfoaaDoorK5
import Derived.Test.YthcgigbgkbjfoaaDoorKsG
import Derived.Test.YthcgigbgkbjfoaaDoorKsJ
import Derived.Test.YthcgigbgkbjfoaaDoorKsZ
namespace Go.Proofs.YthcgigbgkbjfoaaDoor
open Go.RowKit

theorem below_step {w a b : World} (h : Below w.heap.size w a) (k : Below a.heap.size a b) : Below w.heap.size w b := h.trans (k.mono h.size)
theorem rgs_step {w w' : World} {A : Option Addr} {l : List Rg} (h : Rgs w w.heap.size A l) (k : Below w.heap.size w w') : Rgs w' w'.heap.size A l := fun hn => by
  obtain ⟨b, o, e, hb, hc⟩ := (h.keep (fun i hi => k.block i hi)) hn
  exact ⟨b, o, e, Nat.lt_of_lt_of_le hb k.size, hc⟩

set_option maxRecDepth 100000 in
set_option maxHeartbeats 12800000 in
theorem agrees_any (a b : Rg) (key : ByteArray) (w : World) :
    Calls Tryd.prog 22 #[a.val, b.val, .string key] w (LawP w) := by
  have hlen := subK_len a b
  obtain ⟨ri, hri⟩ : ∃ ri, a.intK b = ri := ⟨_, rfl⟩
  obtain ⟨rh, hrh⟩ : ∃ rh, a.hulK b = rh := ⟨_, rfl⟩
  obtain ⟨l, hl⟩ : ∃ l, a.subK b = l := ⟨_, rfl⟩
  rw [hl] at hlen
  have RI := Lib.hid hri
  have RH := Lib.hid hrh
  have RS := Lib.hid hl
  have HLN := Lib.hid (show l.length ≤ 1000 by omega)
  have hI := ((Inv.nil w).add 34 #[Value.string a.lo.key, Value.bool a.lo.top, Value.string a.hi.key, Value.bool a.hi.top]).add 34 #[Value.string b.lo.key, Value.bool b.lo.top, Value.string b.hi.key, Value.bool b.hi.top]
  simp only [World.size_alloc] at hI
  clear hri hrh hl hlen
  go_enter Tryd.func22, Tryd.ntmps22
  go_wp2_with fail
  have r1 := fun (w' : World) (h : Inv w [(w.heap.size + 1, 34, #[Value.string b.lo.key, Value.bool b.lo.top, Value.string b.hi.key, Value.bool b.hi.top]), (w.heap.size, 34, #[Value.string a.lo.key, Value.bool a.lo.top, Value.string a.hi.key, Value.bool a.hi.top])] w') => h.hd.1
  have r2 := fun (w' : World) (h : Inv w [(w.heap.size + 1, 34, #[Value.string b.lo.key, Value.bool b.lo.top, Value.string b.hi.key, Value.bool b.hi.top]), (w.heap.size, 34, #[Value.string a.lo.key, Value.bool a.lo.top, Value.string a.hi.key, Value.bool a.hi.top])] w') => h.tl.hd.1
  simp only at r1 r2
  go_region_held3 (fun w' => Inv w [(w.heap.size + 1, 34, #[Value.string b.lo.key, Value.bool b.lo.top, Value.string b.hi.key, Value.bool b.hi.top]), (w.heap.size, 34, #[Value.string a.lo.key, Value.bool a.lo.top, Value.string a.hi.key, Value.bool a.hi.top])] w')
    (first | with_reducible exact hS1 | with_reducible exact hI.drew | with_reducible assumption)
    (first | (go_at_call 45; refine (rok_key a _).mono ?_; rintro e w5 ⟨rfl, hb5⟩; have hS1 := Inv.below ‹_› hb5; clear hb5) | (go_at_call 46; refine (rok_ref a _).mono ?_; rintro e w5 ⟨rfl, hb5⟩; have hS1 := Inv.below ‹_› hb5; clear hb5) | (go_at_call 42; refine (emp_key a _).mono ?_; rintro e w5 ⟨rfl, hb5⟩; have hS1 := Inv.below ‹_› hb5; clear hb5) | (go_at_call 39; refine (emp_ref a _).mono ?_; rintro e w5 ⟨rfl, hb5⟩; have hS1 := Inv.below ‹_› hb5; clear hb5) | (go_at_call 35; refine (has_key a key _).mono ?_; rintro e w5 ⟨rfl, hb5⟩; have hS1 := Inv.below ‹_› hb5; clear hb5) | (go_at_call 47; refine (has_ref a key _).mono ?_; rintro e w5 ⟨rfl, hb5⟩; have hS1 := Inv.below ‹_› hb5; clear hb5) | (go_at_call 37; refine (int_key a b _).mono ?_; rintro e w5 ⟨he5, hb5⟩; rw [RI.out] at he5; subst he5; have hS1 := Inv.below ‹_› hb5; clear hb5) | (go_at_call 48; refine (int_ref a b _).mono ?_; rintro e w5 ⟨he5, hb5⟩; rw [intR_eq, RI.out] at he5; subst he5; have hS1 := Inv.below ‹_› hb5; clear hb5) | (go_at_call 38; refine (hul_key a b _).mono ?_; rintro e w5 ⟨he5, hb5⟩; rw [RH.out] at he5; subst he5; have hS1 := Inv.below ‹_› hb5; clear hb5) | (go_at_call 49; refine (hul_ref a b _).mono ?_; rintro e w5 ⟨he5, hb5⟩; rw [hulR_eq, RH.out] at he5; subst he5; have hS1 := Inv.below ‹_› hb5; clear hb5) | (go_at_call 41; refine (adj_key a b _).mono ?_; rintro e w5 ⟨rfl, hb5⟩; have hS1 := Inv.below ‹_› hb5; clear hb5) | (go_at_call 50; refine (adj_ref a b _).mono ?_; rintro e w5 ⟨rfl, hb5⟩; have hS1 := Inv.below ‹_› hb5; clear hb5) | (go_at_call 36; refine (sub_key a b _).mono ?_; rintro e w6 ⟨v6, rfl, ho6, hb6⟩; rw [RS.out] at ho6; obtain ⟨A6, c6, rfl, _, _, hR6⟩ := own_rgs ho6; have hS6 := Inv.below ‹_› hb6; clear hb6 ho6) | (go_at_call 51; refine (sub_ref a b _).mono ?_; rintro e w7 ⟨v7, rfl, ho7, hb7⟩; rw [subR_eq, RS.out] at ho7; obtain ⟨A7, c7, rfl, _, _, hR7⟩ := own_rgs ho7; have hS7 := Inv.below ‹_› hb7; have hR8 := rgs_step hR6 hb7; clear hb7 ho7 hR6) | (go_at_call 26; refine (same_ref l A6 A7 c6 c7 _ hR8 hR7 HLN.out).mono ?_; rintro e w8 ⟨rfl, hb8⟩; have hS1 := Inv.below hS7 hb8; clear hb8))
  go_wp2
  go_ret
  exact ⟨rfl, hS1.1⟩
end Go.Proofs.YthcgigbgkbjfoaaDoor
