/-
  Sort of package roster, of at most 19 nodes: what it gives. Condition: the nodes can be read.
-/
import Derived.Test.YtiafimbehcemcaaDoorKgD
import Derived.Lib.ReflectliteSlice
namespace Go.Proofs.YtiafimbehcemcaaDoor
open Go.RowKit

theorem SRel.below_base {w w1 W : World} {g : Nat} {pad : List Value} {d : Array Nd} (h : SRel w1 g pad W d) (k : Below w.heap.size w w1) : SRel w g pad W d :=
  h.base ⟨k.os, k.tape, k.output, k.size, fun i hi _ => k.block i hi⟩

set_option maxRecDepth 100000 in
set_option maxHeartbeats 1600000 in
theorem stable_func (B g n cap : Nat) (pad : List Value) (sf : Nat) (sb : Array Value) (hSw : ∀ w1, SwapN sf sb w1 g pad n) (d : Array Nd) (w : World) (hg : Has w g 60 (flatN d.toList ++ pad).toArray) (hd : d.size = n)
    (hB : w.cell? ⟨B, 0, none⟩ = some (.slice (some ⟨g, 0, none⟩) n cap)) (hBl : B < w.heap.size) (hBg : B ≠ g) (hn : n < 20) :
    Calls Tryd.prog 149 #[.agg #[.func (.func 107) #[] #[.pointer (some ⟨B, 0, none⟩)], .func (.func sf) #[] sb], .int .i64 (n : Int)] w fun e W' => e = .returned (.tuple #[]) ∧ SRel w g pad W' (Go.Sort.insertionSort nlt d 0 n) := by
  obtain ⟨w1, hw1⟩ : ∃ w1, w1 = w.alloc (.cells #[.func (.func 107) #[] #[.pointer (some ⟨B, 0, none⟩)], .func (.func sf) #[] sb] 186) := ⟨_, rfl⟩
  have hbw : Below w.heap.size w w1 := by rw [hw1]; exact (Below.refl _ _).alloc (Nat.le_refl _) _
  have hX : Has w1 w.heap.size 186 #[.func (.func 107) #[] #[.pointer (some ⟨B, 0, none⟩)], .func (.func sf) #[] sb] := by rw [hw1]; exact Has.new _ _ _
  have x0 := hX.cell 0
  have x1 := hX.cell 1
  have H := Lib.hid (ins_func B g n cap pad sf sb hSw d 0 n w1 (hg.below hbw) hd ((hbw.cell (p := ⟨B, 0, none⟩) hBl).trans hB) (Nat.lt_of_lt_of_le hBl hbw.size) hBg (by omega) (by omega) (by omega))
  have HB := Lib.hid hbw
  have hn1 : ¬ (20 : Int) ≤ (n : Int) := by omega
  have hn2 : ¬ (20 : Int) < (n : Int) := by omega
  clear hg hSw hB hBl hBg hX hbw hd
  generalize Go.Sort.insertionSort nlt d 0 n = Z at *
  go_enter Tryd.func149, Tryd.ntmps149
  go_wp2_with fail
  rw [← hw1]
  clear hw1
  refine wp_loop_rounds 1 ?_
  rw [rounds_succ]
  go_wp2_with fail
  refine (H.out).mono ?_
  rintro e w2 ⟨rfl, hs2⟩
  go_wp2_with fail
  refine wp_loop_rounds 1 ?_
  rw [rounds_succ]
  go_wp2_with fail
  go_end0
  exact ⟨rfl, hs2.below_base HB.out⟩

set_option maxRecDepth 100000 in
set_option maxHeartbeats 1600000 in
theorem slice_of (p : Option Addr) (n c : Nat) (f : Nat) (inf : TypeInfo) (hif : Tryd.prog.info? 60 = some inf) (hf : Tryd.prog.funcs.findIdx? (·.name == "internal/reflectlite" ++ ".Swapper$" ++ toString (Go.Lib.swapperK n inf 25)) = some f) (lb sb : Array Value)
    (hsb : (if Go.Lib.swapperK n inf 25 ≤ 2 then (#[] : Array Value) else #[.slice p n c, typeHandle Tryd.prog 60]) = sb) (w : World) (R : World → Prop)
    (hp : ∀ W, Below w.heap.size w W → Calls Tryd.prog 149 #[.agg #[.func (.func 107) #[] lb, .func (.func f) #[] sb], .int .i64 (n : Int)] W fun e W' => e = .returned (.tuple #[]) ∧ R W') :
    Calls Tryd.prog 106 #[.iface 23 (.slice p n c), .func (.func 107) #[] lb] w fun e W' => e = .returned (.tuple #[]) ∧ R W' := by
  obtain ⟨inl, hil⟩ : ∃ i, Tryd.prog.info? 23 = some i := ⟨(Tryd.prog.info? 23).get (by kernel_rfl), by kernel_rfl⟩
  have hd : inl.desc = .slice 60 := by
    have h : (Tryd.prog.info? 23).map (·.desc) = some (.slice 60) := by kernel_rfl
    rw [hil] at h
    exact Option.some.inj h
  have hv := Go.Lib.run_valueOf_slice (P := Tryd.prog) 23 60 inl hil hd p n c w
  have hs := fun w => Go.Lib.run_swapper_slice (P := Tryd.prog) 23 60 inl inf hil hd hif 25 (fun _ => by kernel_rfl) p n c f hf w
  have hl := fun a w ha => Go.Lib.run_valueLen_slice (P := Tryd.prog) 23 60 inl hil hd (by kernel_rfl) a p n c w ha
  rw [hsb] at hs
  have HP := Lib.hid hp
  clear hp hsb hf
  have q1 := (run_callFunc_extern Tryd.func147 (by kernel_rfl) (by kernel_rfl) (by kernel_rfl) (e := fun args => Extern.ReflectliteValue.unpack (args.getD 0 (.tuple #[]))) (by kernel_rfl) #[.iface 23 (.slice p n c)] w)
  rw [show Sem.run Tryd.prog ((fun args : Array Value => Extern.ReflectliteValue.unpack (args.getD 0 (.tuple #[]))) #[.iface 23 (.slice p n c)]) w = _ from hv] at q1
  simp only [Result.andThen] at q1
  have q2 : ∀ W, Sem.run Tryd.prog (callFunc 148 #[.iface 23 (.slice p n c)]) W = .ok (.value (.func (.func f) #[] sb)) W := fun W => by
    rw [run_callFunc_extern Tryd.func148 (by kernel_rfl) (by kernel_rfl) (by kernel_rfl) (e := Extern.ReflectliteSwapper.swapper "internal/reflectlite" (Extern.ReflectliteValue.valueError "Swapper")) (by kernel_rfl), hs]
    rfl
  have q3 : ∀ a W, W.cell? a = some (.slice p n c) → Sem.run Tryd.prog (callFunc 150 #[.agg #[typeHandle Tryd.prog 23, .pointer (some a), .int .u64 151]]) W = .ok (.value (.int .i64 (n : Int))) W := fun a W ha => by
    rw [run_callFunc_extern Tryd.func150 (by kernel_rfl) (by kernel_rfl) (by kernel_rfl) (e := Extern.ReflectliteValue.method (Extern.ReflectliteValue.valueError "reflectlite.Value.Len" 0) Extern.ReflectliteValue.len) (by kernel_rfl), hl a W ha]
    rfl
  clear hv hs hl
  have hT : ∃ G : Nat, typeHandle Tryd.prog 23 = .pointer (some ⟨G, 23, none⟩) := ⟨_, rfl⟩
  obtain ⟨G, hT⟩ := hT
  rw [hT] at q1 q3
  clear hT
  have hA := (Has.new w 23 #[.slice p n c]).alloc (.cells #[.pointer (some ⟨G, 23, none⟩), .pointer (some ⟨w.heap.size, 0, none⟩), .int .u64 151] 180)
  have hX := Has.new (w.alloc (.cells #[.slice p n c] 23)) 180 #[.pointer (some ⟨G, 23, none⟩), .pointer (some ⟨w.heap.size, 0, none⟩), .int .u64 151]
  have hbw := ((Below.refl w.heap.size w).alloc (Nat.le_refl _) (.cells #[.slice p n c] 23)).alloc (by rw [World.size_alloc]; omega) (.cells #[.pointer (some ⟨G, 23, none⟩), .pointer (some ⟨w.heap.size, 0, none⟩), .int .u64 151] 180)
  have x0 := hX.cell 0
  have x1 := hX.cell 1
  have x2 := hX.cell 2
  have q4 := q3 _ _ (hA.cell 0)
  rw [World.size_alloc] at x0 x1 x2
  clear hX hA q3
  have Q4 := Lib.hid q4
  have Q1 := Lib.hid q1
  clear q1 q4
  go_enter Tryd.func106, Tryd.ntmps106
  go_wp2_with fail
  rw [Q1.out, Oper.upon_value]
  go_wp2_with fail
  rw [Q4.out, Oper.upon_value]
  go_wp2_with fail
  refine (HP.out _ hbw).mono ?_
  rintro e w3 ⟨rfl, hR⟩
  go_wp2_with fail
  go_end0
  exact ⟨rfl, hR⟩
end Go.Proofs.YtiafimbehcemcaaDoor
