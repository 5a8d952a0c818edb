/-
  same of chapter 2's statements answers true. Conditions: the arguments can be read.
-/
import Derived.Test.YtlnmpiigmedgkaaDoorKrG
namespace Go.Proofs.YtlnmpiigmedgkaaDoor
open Go.RowKit

set_option maxRecDepth 100000 in
set_option maxHeartbeats 6400000 in
theorem same_any (A0 A1 A2 : Option Addr) (s : List Col) (a b : List Fd) (c0 c1 c2 : Nat) (w : World) (hs : Cols w w.heap.size A0 s) (ha : Fds w w.heap.size A1 a) (hb : Fds w w.heap.size A2 b) (hs63 : s.length ≤ 9223372036854775807) (hw : ∀ i (h : i < a.length), a[i].wide) :
    Calls Tryd.prog 21 #[.slice A0 s.length c0, .slice A1 a.length c1, .slice A2 b.length c2] w (BoolB true w) := by
  have Q0 := Below.refl w.heap.size w
  have C1 := Lib.hid (fun (W : World) (k : Below w.heap.size w W) => encode_any A0 A1 s a c0 c1 W ((hs.below k).more k.size) ((ha.below k).more k.size) hs63 hw)
  have C2 := Lib.hid (fun (W : World) (k : Below w.heap.size w W) => rencode_any A0 A1 s a c0 c1 W ((hs.below k).more k.size) ((ha.below k).more k.size) hw)
  have C3 := Lib.hid (fun (W : World) (k : Below w.heap.size w W) => prefix_any A0 A1 s a c0 c1 W ((hs.below k).more k.size) ((ha.below k).more k.size) hs63 hw)
  have C4 := Lib.hid (fun (W : World) (k : Below w.heap.size w W) => rprefix_any A0 A1 s a c0 c1 W ((hs.below k).more k.size) ((ha.below k).more k.size) hw)
  have C5 := Lib.hid (fun (W : World) (k : Below w.heap.size w W) => valid_any A0 s c0 W ((hs.below k).more k.size) hs63)
  have C6 := Lib.hid (fun (W : World) (k : Below w.heap.size w W) => rvalid_any A0 s c0 W ((hs.below k).more k.size))
  have C7 := Lib.hid (fun (W : World) (k : Below w.heap.size w W) => fits_any A0 A1 s a c0 c1 W ((hs.below k).more k.size) ((ha.below k).more k.size) hs63)
  have C8 := Lib.hid (fun (W : World) (k : Below w.heap.size w W) => rfitsL_any A0 A1 s a c0 c1 W ((hs.below k).more k.size) ((ha.below k).more k.size))
  have C9 := Lib.hid (fun (W : World) (k : Below w.heap.size w W) => compare_any A0 A1 A2 s a b c0 c1 c2 W ((hs.below k).more k.size) ((ha.below k).more k.size) ((hb.below k).more k.size) hs63)
  have C0 := Lib.hid (fun (W : World) (k : Below w.heap.size w W) => rcompare_any A0 A1 A2 s a b c0 c1 c2 W ((hs.below k).more k.size) ((ha.below k).more k.size) ((hb.below k).more k.size))
  clear hs ha hb hs63 hw
  generalize encV s a = X at *
  generalize preV s a = P at *
  generalize schOk s = g1 at *
  generalize fitsL s a = g2 at *
  generalize cmpL s a b = g3 at *
  obtain ⟨x, xe⟩ := X
  obtain ⟨⟨⟨k1, t1⟩, ⟨k2, t2⟩⟩, re⟩ := P
  go_enter Tryd.func21, Tryd.ntmps21
  go_wp2_with fail
  refine (C1.out _ Q0).mono ?_
  rintro e w1 ⟨rfl, hb1⟩
  have Q1 := Q0.trans (hb1.mono Q0.size)
  clear C1 Q0 hb1
  go_wp2_with fail
  refine (C2.out _ Q1).mono ?_
  rintro e w2 ⟨rfl, hb2⟩
  have Q2 := Q1.trans (hb2.mono Q1.size)
  clear C2 Q1 hb2
  go_wp2_with fail
  refine (C3.out _ Q2).mono ?_
  rintro e w3 ⟨rfl, hb3⟩
  have Q3 := Q2.trans (hb3.mono Q2.size)
  clear C3 Q2 hb3
  go_wp2_with fail
  have hN := Has.new w3 51 #[.string k1, .bool t1, .string k2, .bool t2]
  have Q4 := Q3.alloc Q3.size (.cells #[.string k1, .bool t1, .string k2, .bool t2] 51)
  refine (C4.out _ Q4).mono ?_
  rintro e w4 ⟨rfl, hb4⟩
  have Q5 := Q4.trans (hb4.mono Q4.size)
  have hN4 := hN.below hb4
  clear C4 Q3 Q4 hb4 hN
  have hN5 := hN4.alloc (.cells #[.string k1, .bool t1, .string k2, .bool t2] 51)
  have hM := Has.new w4 51 #[.string k1, .bool t1, .string k2, .bool t2]
  have Q6 := Q5.alloc Q5.size (.cells #[.string k1, .bool t1, .string k2, .bool t2] 51)
  have c0' := hN5.cell 0
  have c1' := hN5.cell 1
  have c2' := hN5.cell 2
  have c3' := hN5.cell 3
  have d0' := hM.cell 0
  have d1' := hM.cell 1
  have d2' := hM.cell 2
  have d3' := hM.cell 3
  clear hN4 hN5 hM Q5
  go_wp2_with fail
  refine (C5.out _ Q6).mono ?_
  rintro e w6 ⟨rfl, hb6⟩
  have Q7 := Q6.trans (hb6.mono Q6.size)
  clear C5 Q6 hb6 c0' c1' c2' c3' d0' d1' d2' d3'
  go_wp2_with fail
  refine (C6.out _ Q7).mono ?_
  rintro e w7 ⟨rfl, hb7⟩
  have Q8 := Q7.trans (hb7.mono Q7.size)
  clear C6 Q7 hb7
  go_wp2_with fail
  refine (C7.out _ Q8).mono ?_
  rintro e w8 ⟨rfl, hb8⟩
  have Q9 := Q8.trans (hb8.mono Q8.size)
  clear C7 Q8 hb8
  go_wp2_with fail
  refine (C8.out _ Q9).mono ?_
  rintro e w9 ⟨rfl, hb9⟩
  have Q10 := Q9.trans (hb9.mono Q9.size)
  clear C8 Q9 hb9
  go_wp2_with fail
  refine (C9.out _ Q10).mono ?_
  rintro e w10 ⟨rfl, hb10⟩
  have Q11 := Q10.trans (hb10.mono Q10.size)
  clear C9 Q10 hb10
  go_wp2_with fail
  refine (C0.out _ Q11).mono ?_
  rintro e w11 ⟨rfl, hb11⟩
  have Q12 := Q11.trans (hb11.mono Q11.size)
  clear C0 Q11 hb11
  go_wp2_with fail
  go_ret
  exact ⟨rfl, Q12⟩
end Go.Proofs.YtlnmpiigmedgkaaDoor
