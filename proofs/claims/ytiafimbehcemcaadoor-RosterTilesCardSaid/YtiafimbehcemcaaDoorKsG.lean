/-
  Hull and Adjacent of package keyspace and of its reference: what they answer, in every world; they only make memory. No condition.
-/
import Derived.Test.YtiafimbehcemcaaDoorKsD
import Derived.Deep.RegionHeld3
import Derived.Lib.Hide
namespace Go.Proofs.YtiafimbehcemcaaDoor
open Go.RowKit

def Rg.hulK (a b : Rg) : Rg := if a.emp then b.orZ else if b.emp then a else ⟨a.lo.loK b.lo, a.hi.hiK b.hi⟩
def Rg.hulR (a b : Rg) : Rg := if a.emp then b.orZ else if b.emp then a else ⟨a.lo.loR b.lo, a.hi.hiR b.hi⟩
def Rg.adj (a b : Rg) : Bool := !a.emp && !b.emp && (a.hi.cmp b.lo == 0)

set_option maxHeartbeats 3200000 in
theorem hul_key (a b : Rg) (w : World) :
    Calls Tryd.prog 65 #[a.val, b.val] w fun e w' => e = .returned (a.hulK b).val ∧ Below w.heap.size w w' := by
  obtain ⟨⟨ak, at'⟩, ⟨bk, bt⟩⟩ := a
  obtain ⟨⟨ck, ct⟩, ⟨dk, dt⟩⟩ := b
  have hI := ((((Inv.nil w).add 74 #[.string ak, .bool at', .string bk, .bool bt]).add 74 #[.string ck, .bool ct, .string dk, .bool dt]).add 74 #[.string ByteArray.empty, .bool false, .string ByteArray.empty, .bool false])
  simp only [World.size_alloc] at hI
  cases he : Rg.emp ⟨⟨ak, at'⟩, ⟨bk, bt⟩⟩
  · cases hf : Rg.emp ⟨⟨ck, ct⟩, ⟨dk, dt⟩⟩
    · go_enter Tryd.func65, Tryd.ntmps65
      go_wp2_with ((go_at_call 66; refine (emp_key ⟨⟨_, _⟩, ⟨_, _⟩⟩ _).mono ?_; rintro e w1 ⟨rfl, hb1⟩; replace hI := hI.below hb1; clear hb1; obtain ⟨c0, f0⟩ := hI.hd; obtain ⟨c1, f1⟩ := hI.tl.hd; obtain ⟨c2, f2⟩ := hI.tl.tl.hd))
      clear c0 c1 c2 f0 f1 f2
      have hA : Any4 (w.heap.size + 1 + 1) 74 w1 := ⟨_, _, _, _, hI.2 _ (.head _)⟩
      replace hI := hI.tl
      have r1 := fun (w' : World) (h : Inv w [(w.heap.size + 1, 74, #[Value.string ck, Value.bool ct, Value.string dk, Value.bool dt]), (w.heap.size, 74, #[Value.string ak, Value.bool at', Value.string bk, Value.bool bt])] w') => h.hd.1
      have r2 := fun (w' : World) (h : Inv w [(w.heap.size + 1, 74, #[Value.string ck, Value.bool ct, Value.string dk, Value.bool dt]), (w.heap.size, 74, #[Value.string ak, Value.bool at', Value.string bk, Value.bool bt])] w') => h.tl.hd.1
      simp only at r1 r2
      have hne : ∀ q ∈ [(w.heap.size + 1, 74, #[Value.string ck, Value.bool ct, Value.string dk, Value.bool dt]), (w.heap.size, 74, #[Value.string ak, Value.bool at', Value.string bk, Value.bool bt])], q.1 ≠ w.heap.size + 1 + 1 := (by simp; omega)
      go_region_held3 (fun w' => Inv w [(w.heap.size + 1, 74, #[Value.string ck, Value.bool ct, Value.string dk, Value.bool dt]), (w.heap.size, 74, #[Value.string ak, Value.bool at', Value.string bk, Value.bool bt])] w' ∧ Any4 (w.heap.size + 1 + 1) 74 w')
        (first | exact hS1 | exact ⟨hI.drew, hA⟩ | exact held_set4 hS1 (by omega) hne _ _ _ _)
        (first | (go_at_call 121; refine (lo_key ⟨_, _⟩ ⟨_, _⟩ _).mono ?_; rintro e w2 ⟨he2, hb2⟩; have hS1 := held_below ‹_› hb2; clear hb2; generalize hr : Bd.loK _ _ = r at he2; obtain ⟨lk, lt⟩ := r; have R2 := Lib.hid hr; clear hr; subst he2)
               | (go_at_call 122; refine (hi_key ⟨_, _⟩ ⟨_, _⟩ _).mono ?_; rintro e w2 ⟨he2, hb2⟩; have hS1 := held_below ‹_› hb2; clear hb2; generalize hr : Bd.hiK _ _ = r at he2; obtain ⟨hk, ht⟩ := r; have R1 := Lib.hid hr; clear hr; subst he2; obtain ⟨x0, x1, x2, x3, hx⟩ := hS1.2; have c0 := hx.cell; have f0 := hx.frozen; clear hx))
      go_wp2
      refine bodyPost_ret (v := .agg #[.string _, .bool _, .string _, .bool _]) (by simp [results, Tryd.results65, go_sem, *]; exact ⟨rfl, rfl, rfl, rfl⟩) rfl ⟨?_, (((hS1.1.1.setCell (by first | omega | (simp; done) | (simp; omega)) _).setCell (by first | omega | (simp; done) | (simp; omega)) _).setCell (by first | omega | (simp; done) | (simp; omega)) _).setCell (by first | omega | (simp; done) | (simp; omega)) _⟩
      unfold Rg.hulK
      rw [he, hf, R1.out, R2.out]
      rfl
    · go_enter Tryd.func65, Tryd.ntmps65
      go_wp2_with ((go_at_call 66; refine (emp_key ⟨⟨_, _⟩, ⟨_, _⟩⟩ _).mono ?_; rintro e w1 ⟨rfl, hb1⟩; replace hI := hI.below hb1; clear hb1; obtain ⟨c0, f0⟩ := hI.hd; obtain ⟨c1, f1⟩ := hI.tl.hd; obtain ⟨c2, f2⟩ := hI.tl.tl.hd))
      refine bodyPost_ret (v := .agg #[.string _, .bool _, .string _, .bool _]) (by simp [results, Tryd.results65, go_sem, *]; exact ⟨rfl, rfl, rfl, rfl⟩) rfl ⟨?_, (((hI.1.setCell (by first | omega | (simp; done) | (simp; omega)) _).setCell (by first | omega | (simp; done) | (simp; omega)) _).setCell (by first | omega | (simp; done) | (simp; omega)) _).setCell (by first | omega | (simp; done) | (simp; omega)) _⟩
      unfold Rg.hulK
      rw [he, hf]
      rfl
  · go_enter Tryd.func65, Tryd.ntmps65
    go_wp2_with (first | (go_at_call 66; refine (emp_key ⟨⟨_, _⟩, ⟨_, _⟩⟩ _).mono ?_; rintro e w1 ⟨rfl, hb1⟩; replace hI := hI.below hb1; clear hb1; obtain ⟨c0, f0⟩ := hI.hd; obtain ⟨c1, f1⟩ := hI.tl.hd; obtain ⟨c2, f2⟩ := hI.tl.tl.hd) | (go_at_call 120; refine (orz_key ⟨⟨_, _⟩, ⟨_, _⟩⟩ _).mono ?_; rintro e w1 ⟨he2, hb1⟩; replace hI := hI.below hb1; clear hb1; obtain ⟨c0, f0⟩ := hI.hd; generalize hr : Rg.orZ _ = r at he2; obtain ⟨⟨ok1, ot1⟩, ⟨ok2, ot2⟩⟩ := r; have R3 := Lib.hid hr; clear hr; subst he2))
    refine bodyPost_ret (v := .agg #[.string _, .bool _, .string _, .bool _]) (by simp [results, Tryd.results65, go_sem, *]; exact ⟨rfl, rfl, rfl, rfl⟩) rfl ⟨?_, (((hI.1.setCell (by first | omega | (simp; done) | (simp; omega)) _).setCell (by first | omega | (simp; done) | (simp; omega)) _).setCell (by first | omega | (simp; done) | (simp; omega)) _).setCell (by first | omega | (simp; done) | (simp; omega)) _⟩
    unfold Rg.hulK
    rw [he]
    exact congrArg (fun r : Rg => Ending.returned r.val) R3.out.symm

end Go.Proofs.YtiafimbehcemcaaDoor
