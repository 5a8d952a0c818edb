/-
  The readers of links of package wire: link, readList of links. Condition: the bytes can be read.
  The reader of a node's links of package wire. Condition: the bytes can be read.
  Lists of nodes' links that package wire reads: readList, decode and DecodeLinks. Condition: the bytes can be read.
-/
import Derived.Test.YtmhimkojegkalaaDoorLjD
import Derived.Test.YtmhimkojegkalaaDoorLjH
namespace Go.Proofs.YtmhimkojegkalaaDoor
section
open Go.RowKit

theorem rdLk_len (r : Rdr) : rlen (rdLk r).2 ≤ rlen r := Nat.le_trans (rdI_len _) (rdI_len r)
set_option maxRecDepth 100000 in
set_option maxHeartbeats 1600000 in
theorem link_any (r : Rdr) (v : Value) (B : Nat) (w : World) (hv : RdV w B r v) (hB : B ≤ w.heap.size) (hL : rlen r ≤ 9223372036854775807) :
    Calls Tryd.prog 89 #[v] w fun e w' => ∃ v', e = .returned (.tuple #[(rdLk r).1.val, v']) ∧ RdV w' B (rdLk r).2 v' ∧ Below w.heap.size w w' := by
  have hL1 : rlen (rdI r).2 ≤ 9223372036854775807 := Nat.le_trans (rdI_len r) hL
  obtain ⟨A, l, c, rfl, hl, hc, hmx, hR⟩ := hv
  generalize hff : r.isNone = f
  have h1 := (Below.refl w.heap.size w).alloc (Nat.le_refl _) (.cells #[.slice A l.length c, .bool f] 88)
  have h2 := h1.alloc h1.size (.cells #[.int .i64 0, .int .i64 0] 61)
  have h3 := h2.alloc h2.size (.cells #[.slice none 0 0, .bool false] 88)
  have hX := ((Has.new w 88 #[.slice A l.length c, .bool f]).alloc (.cells #[.int .i64 0, .int .i64 0] 61)).alloc (.cells #[.slice none 0 0, .bool false] 88)
  have hN := (Has.new (w.alloc (.cells #[.slice A l.length c, .bool f] 88)) 61 #[.int .i64 0, .int .i64 0]).alloc (.cells #[.slice none 0 0, .bool false] 88)
  have hZ := Has.new ((w.alloc (.cells #[.slice A l.length c, .bool f] 88)).alloc (.cells #[.int .i64 0, .int .i64 0] 61)) 88 #[.slice none 0 0, .bool false]
  rw [World.size_alloc, World.size_alloc] at hZ
  rw [World.size_alloc] at hN
  have x0 := hX.cell 0
  have x1 := hX.cell 1
  have HX := Lib.hid hX
  have HN := Lib.hid hN
  have HZ := Lib.hid hZ
  have HB := Lib.hid h3
  have HS := Lib.hid (signed_any r _ B _ ⟨A, l, c, by rw [hff], hl, hc, hmx, hR.below (h3.mono hB)⟩ (Nat.le_trans hB h3.size) hL)
  have HT := Lib.hid (fun (v1 : Value) (w1 : World) (h : RdV w1 B (rdI r).2 v1) (hb : B ≤ w1.heap.size) => signed_any (rdI r).2 v1 B w1 h hb hL1)
  have HRD : Hid (rdLk r = (⟨(rdI r).1, (rdI (rdI r).2).1⟩, (rdI (rdI r).2).2)) := Lib.hid rfl
  generalize rdLk r = D at *
  obtain ⟨⟨Di, Dk⟩, Dr⟩ := D
  obtain ⟨e1, e2⟩ := Prod.mk.inj HRD.out
  obtain ⟨e3, e4⟩ := Lk.mk.inj e1
  generalize rdI r = P1 at *
  obtain ⟨y1, r1⟩ := P1
  simp only at e3 e4 e2 HS HT
  generalize rdI r1 = P2 at *
  obtain ⟨y2, r2⟩ := P2
  simp only at e4 e2 HT
  subst e3 e4 e2
  clear HRD e1 hL hL1 hX hN hZ h1 h2 h3 hl hff hR
  go_enter Tryd.func89, Tryd.ntmps89
  go_wp2_with fail
  refine (HS.out).mono ?_
  rintro e w1 ⟨v1, rfl, hv1, hb1⟩
  obtain ⟨A1, l1, c1, rfl, hl1', hc1, hm1, hR1⟩ := hv1
  have HL1 := Lib.hid hl1'
  clear hl1'
  have hgne : w.heap.size + 1 ≠ w.heap.size := by omega
  have hgne2 : w.heap.size + 1 + 1 ≠ w.heap.size := by omega
  have hgne3 : w.heap.size + 1 + 1 ≠ w.heap.size + 1 := by omega
  have X1 := HX.out.below hb1
  have N1 := HN.out.below hb1
  have Z1 := HZ.out.below hb1
  have HB1 := Lib.hid (HB.out.trans (hb1.mono HB.out.size))
  have XH := Lib.hid (((X1.far (p := ⟨w.heap.size + 1, 0, none⟩) hgne.symm (.int .i64 Di)).set_ 0 (.slice A1 l1.length c1)).set_ 1 (.bool r1.isNone))
  have NH := Lib.hid (((N1.set_ 0 (.int .i64 Di)).far (p := ⟨w.heap.size, 0, none⟩) hgne (.slice A1 l1.length c1)).far (p := ⟨w.heap.size, 1, none⟩) hgne (.bool r1.isNone))
  have ZH := Lib.hid (((Z1.far (p := ⟨w.heap.size + 1, 0, none⟩) hgne3 (.int .i64 Di)).far (p := ⟨w.heap.size, 0, none⟩) hgne2 (.slice A1 l1.length c1)).far (p := ⟨w.heap.size, 1, none⟩) hgne2 (.bool r1.isNone))
  have BH := Lib.hid (((HB1.out.setCell (p := ⟨w.heap.size + 1, 0, none⟩) (Nat.le_succ _) (.int .i64 Di)).setCell (p := ⟨w.heap.size, 0, none⟩) (Nat.le_refl _) (.slice A1 l1.length c1)).setCell (p := ⟨w.heap.size, 1, none⟩) (Nat.le_refl _) (.bool r1.isNone))
  have RH := Lib.hid (bys_box hR1 hB 0 0 1 (.int .i64 Di) (.slice A1 l1.length c1) (.bool r1.isNone))
  have n0 := N1.cell 0
  have nz := fun o => N1.frozen o
  have xc0 := X1.cell 0
  have xc1 := X1.cell 1
  have xz := fun o => X1.frozen o
  clear x0 x1 X1 N1 Z1 HX HN HZ HB HS hb1 hR1 HB1
  go_upto_region 2 with fail
  clear n0 nz xc0 xc1 xz
  generalize (((w1.setCell ⟨w.heap.size + 1, 0, none⟩ (.int .i64 Di)).setCell ⟨w.heap.size, 0, none⟩ (.slice A1 l1.length c1)).setCell ⟨w.heap.size, 1, none⟩ (.bool r1.isNone)) = W1 at *
  have x0 := XH.out.cell 0
  have x1 := XH.out.cell 1
  have HT1 := Lib.hid (HT.out _ W1 ⟨A1, l1, c1, rfl, HL1.out, hc1, hm1, RH.out⟩ (Nat.le_trans hB BH.out.size))
  clear HT RH
  go_wp2_with fail
  refine (HT1.out).mono ?_
  rintro e w3 ⟨v3, rfl, hv3, hb3⟩
  obtain ⟨A3, l3, c3, rfl, hl3', hc3, hm3, hR3⟩ := hv3
  have HL3 := Lib.hid hl3'
  clear hl3'
  have X1 := XH.out.below hb3
  have N1 := NH.out.below hb3
  have Z1 := ZH.out.below hb3
  have HB1 := Lib.hid (BH.out.trans (hb3.mono BH.out.size))
  have n0 := N1.cell 1
  have nz := fun o => N1.frozen o
  have xc0 := X1.cell 0
  have xc1 := X1.cell 1
  have xz := fun o => X1.frozen o
  clear x0 x1 XH NH ZH BH HT1 hb3 HL1 hc1 hm1
  go_upto_region 3 with fail
  have X3 := (((X1.far (p := ⟨w.heap.size + 1, 1, none⟩) hgne.symm (.int .i64 Dk)).set_ 0 (.slice A3 l3.length c3)).set_ 1 (.bool Dr.isNone))
  have N3 := (((N1.set_ 1 (.int .i64 Dk)).far (p := ⟨w.heap.size, 0, none⟩) hgne (.slice A3 l3.length c3)).far (p := ⟨w.heap.size, 1, none⟩) hgne (.bool Dr.isNone))
  have Z3 := (((Z1.far (p := ⟨w.heap.size + 1, 1, none⟩) hgne3 (.int .i64 Dk)).far (p := ⟨w.heap.size, 0, none⟩) hgne2 (.slice A3 l3.length c3)).far (p := ⟨w.heap.size, 1, none⟩) hgne2 (.bool Dr.isNone))
  have B3 := (((HB1.out.setCell (p := ⟨w.heap.size + 1, 1, none⟩) (Nat.le_succ _) (.int .i64 Dk)).setCell (p := ⟨w.heap.size, 0, none⟩) (Nat.le_refl _) (.slice A3 l3.length c3)).setCell (p := ⟨w.heap.size, 1, none⟩) (Nat.le_refl _) (.bool Dr.isNone))
  have R3 := bys_box hR3 hB 1 0 1 (.int .i64 Dk) (.slice A3 l3.length c3) (.bool Dr.isNone)
  clear X1 N1 Z1 HB1 hR3 n0 nz xc0 xc1 xz
  generalize (((w3.setCell ⟨w.heap.size + 1, 1, none⟩ (.int .i64 Dk)).setCell ⟨w.heap.size, 0, none⟩ (.slice A3 l3.length c3)).setCell ⟨w.heap.size, 1, none⟩ (.bool Dr.isNone)) = W3 at *
  replace X3 : Has W3 w.heap.size 88 #[.slice A3 l3.length c3, .bool Dr.isNone] := X3
  replace N3 : Has W3 (w.heap.size + 1) 61 #[.int .i64 Di, .int .i64 Dk] := N3
  have x0 := X3.cell 0
  have x1 := X3.cell 1
  have n0 := N3.cell 0
  have n1 := N3.cell 1
  have nz := fun o => N3.frozen o
  have z0 := Z3.cell 0
  have z1 := Z3.cell 1
  have zz := fun o => Z3.frozen o
  have HB3 := Lib.hid B3
  have HR3 := Lib.hid R3
  generalize hf3 : Dr.isNone = f3 at *
  have HF := Lib.hid hf3
  clear hf3
  clear X3 N3 Z3 B3 R3
  go_region
  have hg1 : B ≤ w.heap.size + 1 := Nat.le_succ_of_le hB
  have hg2 : B ≤ w.heap.size + 1 + 1 := Nat.le_succ_of_le hg1
  have HBF := Lib.hid (((((HB3.out.setCell (p := ⟨w.heap.size + 1, 0, none⟩) (Nat.le_succ _) (.int .i64 Di)).setCell (p := ⟨w.heap.size + 1, 1, none⟩) (Nat.le_succ _) (.int .i64 Dk)).setCell (p := ⟨w.heap.size + 1 + 1, 0, none⟩) (Nat.le_succ_of_le (Nat.le_succ _)) (.slice A3 l3.length c3)).setCell (p := ⟨w.heap.size + 1 + 1, 1, none⟩) (Nat.le_succ_of_le (Nat.le_succ _)) (.bool f3)).drew)
  have HRF := Lib.hid (HR3.out.below ((((((Below.refl B W3).setCell (p := ⟨w.heap.size + 1, 0, none⟩) hg1 (.int .i64 Di)).setCell (p := ⟨w.heap.size + 1, 1, none⟩) hg1 (.int .i64 Dk)).setCell (p := ⟨w.heap.size + 1 + 1, 0, none⟩) hg2 (.slice A3 l3.length c3)).setCell (p := ⟨w.heap.size + 1 + 1, 1, none⟩) hg2 (.bool f3)).drew))
  go_wp2_with fail
  refine bodyPost_ret (v := .tuple #[.agg #[.int .i64 Di, .int .i64 Dk], .agg #[.slice A3 l3.length c3, .bool f3]]) (by simp [results, Tryd.results89, go_sem, *]) rfl ⟨_, rfl, ⟨A3, l3, c3, by rw [HF.out], HL3.out, hc3, hm3, HRF.out⟩, HBF.out⟩
/-- Where readList of nodes is. -/
structure RdK (w wx : World) (g H B : Nat) (q : List Lk) (r : Rdr) : Prop where
  below : Below w.heap.size w wx
  box : ∃ (A : Option Addr) (l : List UInt8) (c : Nat), Has wx g 88 #[.slice A l.length c, .bool r.isNone] ∧ l = r.getD [] ∧ l.length ≤ c ∧ c ≤ maxLen ∧ Bys wx B A l
  res : Has wx (g + 1) 88 #[.slice none 0 0, .bool false]
  row : Has wx H 61 (flatK q).toArray
theorem RdK.on {w wa wx : World} {g H B : Nat} {q : List Lk} {r : Rdr} (h : RdK w wa g H B q r) (hB : B ≤ wa.heap.size) (k : Below wa.heap.size wa wx) : RdK w wx g H B q r := by
  obtain ⟨b1, ⟨A, l, c, b2, b3, b4, b5, b6⟩, b7, b8⟩ := h
  exact ⟨b1.trans (k.mono b1.size), ⟨A, l, c, b2.below k, b3, b4, b5, b6.below (k.mono hB)⟩, b7.below k, b8.below k⟩
theorem RdK.cells {w wx : World} {g H B : Nat} {q : List Lk} {r : Rdr} (h : RdK w wx g H B q r) {k : Nat} (hk : k < q.length) : (∃ o, wx.cell? ⟨H, k * 2, none⟩ = some o) ∧ (∃ o, wx.cell? ⟨H, k * 2 + 1, none⟩ = some o) := by
  have hfa := flatK_at q k hk
  exact ⟨⟨_, by rw [h.row.cell, List.getElem?_toArray]; exact hfa.1⟩, ⟨_, by rw [h.row.cell, List.getElem?_toArray]; exact hfa.2⟩⟩
theorem RdK.step {w w3 : World} {g H B : Nat} {q : List Lk} {r r' : Rdr} (h : RdK w w3 g H B q r) (hg : w.heap.size ≤ g) (hH : g + 1 < H) (hB : B ≤ g) {k : Nat} (hk : k < q.length) (x : Lk) {A3 : Option Addr} {l3 : List UInt8} {c3 : Nat} (e3 : l3 = r'.getD []) (hc3 : l3.length ≤ c3) (hm3 : c3 ≤ maxLen) (hR : Bys w3 B A3 l3) :
    RdK w ((((w3.setCell ⟨H, k * 2, none⟩ (.int .i64 x.left)).setCell ⟨H, k * 2 + 1, none⟩ (.int .i64 x.right)).setCell ⟨g, 0, none⟩ (.slice A3 l3.length c3)).setCell ⟨g, 1, none⟩ (.bool r'.isNone)) g H B (q.set k x) r' := by
  obtain ⟨b1, ⟨A, l, c, b2, _⟩, b7, b8⟩ := h
  have hne1 : g ≠ H := by omega
  have hne2 : g + 1 ≠ H := by omega
  have hne3 : g + 1 ≠ g := by omega
  have hBH : B ≤ H := by omega
  refine ⟨?_, ⟨A3, l3, c3, ?_, e3, hc3, hm3, ?_⟩, ?_, ?_⟩
  · exact (((b1.setCell (p := ⟨H, k * 2, none⟩) (by show w.heap.size ≤ H; omega) _).setCell (p := ⟨H, k * 2 + 1, none⟩) (by show w.heap.size ≤ H; omega) _).setCell (p := ⟨g, 0, none⟩) hg _).setCell (p := ⟨g, 1, none⟩) hg _
  · exact (((b2.far (p := ⟨H, k * 2, none⟩) hne1 _).far (p := ⟨H, k * 2 + 1, none⟩) hne1 _).set_ 0 (.slice A3 l3.length c3)).set_ 1 (.bool r'.isNone)
  · exact hR.below (((((Below.refl B w3).setCell (p := ⟨H, k * 2, none⟩) hBH _).setCell (p := ⟨H, k * 2 + 1, none⟩) hBH _).setCell (p := ⟨g, 0, none⟩) hB _).setCell (p := ⟨g, 1, none⟩) hB _)
  · exact (((b7.far (p := ⟨H, k * 2, none⟩) hne2 _).far (p := ⟨H, k * 2 + 1, none⟩) hne2 _).far (p := ⟨g, 0, none⟩) hne3 _).far (p := ⟨g, 1, none⟩) hne3 _
  · have h9 := (b8.set_ (k * 2) (.int .i64 x.left)).set_ (k * 2 + 1) (.int .i64 x.right)
    simp only [List.setIfInBounds_toArray] at h9
    have h10 := flatK_put q k hk x
    rw [h10] at h9
    exact (h9.far (p := ⟨g, 0, none⟩) hne1.symm _).far (p := ⟨g, 1, none⟩) hne1.symm _

set_option maxRecDepth 100000 in
set_option maxHeartbeats 3200000 in
theorem readLinks_any (r : Rdr) (v : Value) (most B : Nat) (w : World) (hv : RdV w B r v) (hB : B ≤ w.heap.size) (hL : rlen r ≤ 9223372036854775807) (hm : most ≤ 100000) :
    Calls Tryd.prog 88 #[v, .int .u64 (most : Int), .func (.func 89) #[] #[]] w fun e w' => ∃ v1 v', e = .returned (.tuple #[v1, v']) ∧ OwnK w' w.heap.size v1 (rdList most rdLk r).1 ∧ RdV w' B (rdList most rdLk r).2 v' ∧ Below w.heap.size w w' := by
  obtain ⟨A, l, c, rfl, hl, hc, hmx, hR⟩ := hv
  generalize hff : r.isNone = f
  have h1 := (Below.refl w.heap.size w).alloc (Nat.le_refl _) (.cells #[.slice A l.length c, .bool f] 88)
  have h2 := h1.alloc h1.size (.cells #[.slice none 0 0, .bool false] 88)
  have hX := (Has.new w 88 #[.slice A l.length c, .bool f]).alloc (.cells #[.slice none 0 0, .bool false] 88)
  have hZ := Has.new (w.alloc (.cells #[.slice A l.length c, .bool f] 88)) 88 #[.slice none 0 0, .bool false]
  rw [World.size_alloc] at hZ
  have x0 := hX.cell 0
  have x1 := hX.cell 1
  have HX := Lib.hid hX
  have HZ := Lib.hid hZ
  have HB := Lib.hid h2
  have HS := Lib.hid (unsigned_any r _ B most _ ⟨A, l, c, by rw [hff], hl, hc, hmx, hR.below (h2.mono hB)⟩ (Nat.le_trans hB h2.size) hL)
  have hn := rdU_le most r
  have HL1 := Lib.hid (Nat.le_trans (rdU_len most r) hL)
  unfold rdList
  generalize rdU most r = P at *
  obtain ⟨n, r1⟩ := P
  simp only at hn HS HL1 ⊢
  clear hX hZ h1 h2 hl hff hR hL
  obtain ⟨inf, hif, hif1, hif2, hif3⟩ := infoK_parts
  go_enter Tryd.func88, Tryd.ntmps88
  go_wp2_with fail
  refine (HS.out).mono ?_
  rintro e w1 ⟨v1, rfl, hv1, hb1⟩
  obtain ⟨A1, l1, c1, rfl, hl1', hc1, hm1, hR1⟩ := hv1
  have HE1 := Lib.hid hl1'
  have X1 := HX.out.below hb1
  have Z1 := HZ.out.below hb1
  have HB1 := Lib.hid (HB.out.trans (hb1.mono HB.out.size))
  have hgne : w.heap.size + 1 ≠ w.heap.size := by omega
  have XH := Lib.hid ((X1.set_ 0 (.slice A1 l1.length c1)).set_ 1 (.bool r1.isNone))
  have ZH := Lib.hid ((Z1.far (p := ⟨w.heap.size, 0, none⟩) hgne (.slice A1 l1.length c1)).far (p := ⟨w.heap.size, 1, none⟩) hgne (.bool r1.isNone))
  have BH := Lib.hid ((HB1.out.setCell (p := ⟨w.heap.size, 0, none⟩) (Nat.le_refl _) (.slice A1 l1.length c1)).setCell (p := ⟨w.heap.size, 1, none⟩) (Nat.le_refl _) (.bool r1.isNone))
  have RH := Lib.hid (hR1.below (((Below.refl B w1).setCell (p := ⟨w.heap.size, 0, none⟩) hB (.slice A1 l1.length c1)).setCell (p := ⟨w.heap.size, 1, none⟩) hB (.bool r1.isNone)))
  have xc0 := X1.cell 0
  have xc1 := X1.cell 1
  have xz := fun o => X1.frozen o
  clear x0 x1 X1 Z1 HX HZ HB HS hb1 hR1 HB1 hl1'
  go_upto_region 2 with fail
  clear xc0 xc1 xz
  generalize ((w1.setCell ⟨w.heap.size, 0, none⟩ (.slice A1 l1.length c1)).setCell ⟨w.heap.size, 1, none⟩ (.bool r1.isNone)) = W1 at *
  go_wp2_with (at_make; refine wpList_make_full _ rfl _ _ 62 rfl w.heap.size 61 inf _ 2 Tryd.underlying62 hif hif1 hif2 _ _ _ _ n rfl rfl rfl rfl (by rw [hif3]; omega) (by unfold maxLen; omega) BH.out.size ?_; intro w2 ho2 hg2)
  have hbw : Below W1.heap.size W1 w2 := ⟨hg2.os, hg2.tape, hg2.output, hg2.size, fun j hj => hg2.block j hj (by simp)⟩
  rw [made_links] at ho2
  have hS0 : RdK w w2 w.heap.size W1.heap.size B (List.replicate n zK) r1 := ⟨BH.out.trans (hbw.mono BH.out.size), ⟨A1, l1, c1, XH.out.below hbw, HE1.out, hc1, hm1, RH.out.below (hbw.mono (Nat.le_trans hB BH.out.size))⟩, ZH.out.below hbw, (own_fullK ho2).2⟩
  have hHg : w.heap.size + 1 < W1.heap.size := ZH.out.lt
  obtain ⟨H, hH⟩ : ∃ H, H = W1.heap.size := ⟨_, rfl⟩
  rw [← hH] at hS0 hHg ⊢
  clear hbw ho2 hg2 XH ZH BH RH HE1 hc1 hm1 hH
  have hn5 : n ≤ 100000 := by omega
  have HNOD := Lib.hid (fun (r' : Rdr) (v' : Value) (W : World) (h1 : RdV W B r' v') (h2 : B ≤ W.heap.size) (h3 : rlen r' ≤ 9223372036854775807) => link_any r' v' B W h1 h2 h3)
  have HRL := Lib.hid (fun k => Nat.le_trans (rdMany_len (rd := rdLk) rdLk_len k r1) HL1.out)
  have HSN := Lib.hid (fun k => rdMany_snoc rdLk k r1)
  have HCT := Lib.hid (fun k => rdMany_count rdLk k r1)
  go_loopw [21] (fun vi wr => ∃ k : Nat, vi = .int .i64 (k : Int) ∧ k ≤ n ∧ RdK w wr w.heap.size H B ((rdMany rdLk k r1).1 ++ List.replicate (n - k) zK) (rdMany rdLk k r1).2) (fun vi _ => n - (intOf vi).toNat)
  case atStart => exact ⟨0, rfl, Nat.zero_le _, hS0⟩
  case round =>
    clear hS0
    obtain ⟨k, rfl, hk, hS⟩ := hrel
    by_cases hlt : k < n
    · obtain ⟨A2, l2, c2, b2, b3, b4, b5, b6⟩ := hS.box
      have x0 := b2.cell 0
      have x1 := b2.cell 1
      have hbs := hS.below.size
      have HN1 := Lib.hid (HNOD.out (rdMany rdLk k r1).2 _ wr ⟨A2, l2, c2, rfl, b3, b4, b5, b6⟩ (Nat.le_trans hB hbs) (HRL.out k))
      have hq : ((rdMany rdLk k r1).1 ++ List.replicate (n - k) zK).length = n := by rw [List.length_append, HCT.out, List.length_replicate]; omega
      have HSET : Hid (((rdMany rdLk k r1).1 ++ List.replicate (n - k) zK).set k (rdLk (rdMany rdLk k r1).2).1 = (rdMany rdLk (k + 1) r1).1 ++ List.replicate (n - (k + 1)) zK) := Lib.hid (by
        rw [HSN.out k, List.set_append_right _ _ (by rw [HCT.out]; exact Nat.le_refl _), HCT.out, Nat.sub_self, show n - k = (n - (k + 1)) + 1 by omega, List.replicate_succ, List.set_cons_zero, List.append_assoc]
        rfl)
      have HSND : Hid ((rdLk (rdMany rdLk k r1).2).2 = (rdMany rdLk (k + 1) r1).2) := Lib.hid (by rw [HSN.out k])
      generalize (rdMany rdLk k r1).1 ++ List.replicate (n - k) zK = q at *
      generalize (rdMany rdLk k r1).2 = rk at *
      generalize rdLk rk = D at *
      obtain ⟨⟨Di, Dk⟩, Dr⟩ := D
      simp only at HSET HSND HN1
      have HS1 := Lib.hid hS
      have i0 : (0 : Int) ≤ (k : Int) := by omega
      have i1 : (k : Int) < (n : Int) := by omega
      clear b2 b3 b4 b5 b6 hS
      go_wp2_with fail
      refine (HN1.out).mono ?_
      rintro e w3 ⟨v3, rfl, hv3, hb3⟩
      obtain ⟨A3, l3, c3, rfl, hl3, hc3, hm3, hR3⟩ := hv3
      have HE3 := Lib.hid hl3
      have hS3 := HS1.out.on (Nat.le_trans hB hbs) hb3
      obtain ⟨⟨o0, m0⟩, ⟨o1, m1⟩⟩ := hS3.cells (k := k) (by rw [hq]; exact hlt)
      have mz := fun o => hS3.row.frozen o
      obtain ⟨A4, l4, c4, d2, _, _, _, _⟩ := hS3.box
      have y0 := d2.cell 0
      have y1 := d2.cell 1
      have yz := fun o => d2.frozen o
      have HST := Lib.hid (hS3.step (r' := Dr) (Nat.le_refl _) hHg hB (by rw [hq]; exact hlt) ⟨Di, Dk⟩ hl3 hc3 hm3 hR3)
      clear d2 hS3 hb3 hR3 hl3 HN1 HS1 x0 x1 hq
      go_wp2_with fail
      exact ⟨⟨k + 1, by go_num, hlt, by rw [← HSET.out, ← HSND.out]; exact HST.out⟩, by simp [intOf]; omega⟩
    · obtain rfl : k = n := by omega
      have i1 : ¬ (k : Int) < (k : Int) := by omega
      rw [Nat.sub_self, List.replicate_zero, List.append_nil] at hS
      have HQ := Lib.hid (HCT.out k)
      obtain ⟨q, hq⟩ : ∃ q, q = (rdMany rdLk k r1).1 := ⟨_, rfl⟩
      obtain ⟨rk, hrk⟩ : ∃ rk, rk = (rdMany rdLk k r1).2 := ⟨_, rfl⟩
      rw [← hq, ← hrk] at hS
      rw [← hq] at HQ
      have HQE := Lib.hid hq
      have HRE := Lib.hid hrk
      clear hq hrk
      obtain ⟨A2, l2, c2, b2, b3, b4, b5, b6⟩ := hS.box
      have HO := Lib.hid (full_ownK hS.row (Nat.le_of_lt (Nat.lt_of_succ_lt hHg)) HQ.out (by unfold maxLen; omega))
      have HBB := Lib.hid hS.below
      have HBY := Lib.hid b6
      have HE2 := Lib.hid b3
      have x0 := b2.cell 0
      have x1 := b2.cell 1
      have z0 := hS.res.cell 0
      have z1 := hS.res.cell 1
      have zz := fun o => hS.res.frozen o
      have hne : w.heap.size + 1 ≠ H := by omega
      have HROW := Lib.hid hS.row
      have hQL := HQ.out
      generalize hff : rk.isNone = f2 at *
      have HFF := Lib.hid hff
      clear b2 b3 b6 hS hff HNOD HRL HSN HCT HQ
      go_upto_region 8 with fail
      go_region
      have HBF := Lib.hid ((((HBB.out.setCell (p := ⟨w.heap.size + 1, 0, none⟩) (Nat.le_succ _) (.slice A2 l2.length c2)).setCell (p := ⟨w.heap.size + 1, 1, none⟩) (Nat.le_succ _) (.bool f2)).drew))
      have HYF := Lib.hid (HBY.out.below ((((Below.refl B wr).setCell (p := ⟨w.heap.size + 1, 0, none⟩) (Nat.le_succ_of_le hB) (.slice A2 l2.length c2)).setCell (p := ⟨w.heap.size + 1, 1, none⟩) (Nat.le_succ_of_le hB) (.bool f2)).drew))
      have HRF : Has ((wr.setCell ⟨w.heap.size + 1, 0, none⟩ (.slice A2 l2.length c2)).setCell ⟨w.heap.size + 1, 1, none⟩ (.bool f2)).drew H 61 (flatK q).toArray := (HROW.out.far (p := ⟨w.heap.size + 1, 0, none⟩) hne.symm (.slice A2 l2.length c2)).far (p := ⟨w.heap.size + 1, 1, none⟩) hne.symm (.bool f2)
      have HOF := Lib.hid (full_ownK HRF (Nat.le_of_lt (Nat.lt_of_succ_lt hHg)) hQL (by unfold maxLen; omega))
      clear HRF hQL hne
      go_wp2_with fail
      refine bodyPost_ret (v := .tuple #[.slice (some ⟨H, 0, none⟩) k k, .agg #[.slice A2 l2.length c2, .bool f2]]) (by simp [results, Tryd.results88, go_sem, *]) rfl ⟨_, _, rfl, by rw [← HQE.out]; exact HOF.out, ?_, HBF.out⟩
      rw [← HRE.out]
      exact ⟨A2, l2, c2, by rw [HFF.out], HE2.out, b4, b5, HYF.out⟩
end
section
open Go.RowKit

theorem rdLd_len (r : Rdr) : rlen (rdLd r).2 ≤ rlen r := Nat.le_trans (rdMany_len rdLk_len _ _) (Nat.le_trans (rdU_len _ _) (rdI_len r))
set_option maxRecDepth 100000 in
set_option maxHeartbeats 1600000 in
theorem linked_any (r : Rdr) (v : Value) (B : Nat) (w : World) (hv : RdV w B r v) (hB : B ≤ w.heap.size) (hL : rlen r ≤ 9223372036854775807) :
    Calls Tryd.prog 56 #[v] w fun e w' => ∃ v1 v', e = .returned (.tuple #[.agg #[.int .i64 (rdLd r).1.id, v1], v']) ∧ OwnK w' w.heap.size v1 (rdLd r).1.levels ∧ RdV w' B (rdLd r).2 v' ∧ Below w.heap.size w w' := by
  have hL1 : rlen (rdI r).2 ≤ 9223372036854775807 := Nat.le_trans (rdI_len r) hL
  obtain ⟨A, l, c, rfl, hl, hc, hmx, hR⟩ := hv
  generalize hff : r.isNone = f
  have h1 := (Below.refl w.heap.size w).alloc (Nat.le_refl _) (.cells #[.slice A l.length c, .bool f] 88)
  have h2 := h1.alloc h1.size (.cells #[.int .i64 0, .slice none 0 0] 64)
  have h3 := h2.alloc h2.size (.cells #[.slice none 0 0, .bool false] 88)
  have hX := ((Has.new w 88 #[.slice A l.length c, .bool f]).alloc (.cells #[.int .i64 0, .slice none 0 0] 64)).alloc (.cells #[.slice none 0 0, .bool false] 88)
  have hN := (Has.new (w.alloc (.cells #[.slice A l.length c, .bool f] 88)) 64 #[.int .i64 0, .slice none 0 0]).alloc (.cells #[.slice none 0 0, .bool false] 88)
  have hZ := Has.new ((w.alloc (.cells #[.slice A l.length c, .bool f] 88)).alloc (.cells #[.int .i64 0, .slice none 0 0] 64)) 88 #[.slice none 0 0, .bool false]
  rw [World.size_alloc, World.size_alloc] at hZ
  rw [World.size_alloc] at hN
  have x0 := hX.cell 0
  have x1 := hX.cell 1
  have HX := Lib.hid hX
  have HN := Lib.hid hN
  have HZ := Lib.hid hZ
  have HB := Lib.hid h3
  have HS := Lib.hid (signed_any r _ B _ ⟨A, l, c, by rw [hff], hl, hc, hmx, hR.below (h3.mono hB)⟩ (Nat.le_trans hB h3.size) hL)
  have HT := Lib.hid (fun (v1 : Value) (w1 : World) (h : RdV w1 B (rdI r).2 v1) (hb : B ≤ w1.heap.size) => readLinks_any (rdI r).2 v1 17 B w1 h hb hL1 (by omega))
  have HRD : Hid (rdLd r = (⟨(rdI r).1, (rdList 17 rdLk (rdI r).2).1⟩, (rdList 17 rdLk (rdI r).2).2)) := Lib.hid rfl
  generalize rdLd r = D at *
  obtain ⟨⟨Di, Dk⟩, Dr⟩ := D
  obtain ⟨e1, e2⟩ := Prod.mk.inj HRD.out
  obtain ⟨e3, e4⟩ := Ld.mk.inj e1
  generalize rdI r = P1 at *
  obtain ⟨y1, r1⟩ := P1
  simp only at e3 e4 e2 HS HT
  generalize rdList 17 rdLk r1 = P2 at *
  obtain ⟨y2, r2⟩ := P2
  simp only [Int.cast_ofNat_Int] at e4 e2 HT
  subst e3 e4 e2
  clear HRD e1 hL hL1 hX hN hZ h1 h2 h3 hl hff hR
  go_enter Tryd.func56, Tryd.ntmps56
  go_wp2_with fail
  refine (HS.out).mono ?_
  rintro e w1 ⟨v1, rfl, hv1, hb1⟩
  obtain ⟨A1, l1, c1, rfl, hl1', hc1, hm1, hR1⟩ := hv1
  have HL1 := Lib.hid hl1'
  clear hl1'
  have hgne : w.heap.size + 1 ≠ w.heap.size := by omega
  have hgne2 : w.heap.size + 1 + 1 ≠ w.heap.size := by omega
  have hgne3 : w.heap.size + 1 + 1 ≠ w.heap.size + 1 := by omega
  have X1 := HX.out.below hb1
  have N1 := HN.out.below hb1
  have Z1 := HZ.out.below hb1
  have HB1 := Lib.hid (HB.out.trans (hb1.mono HB.out.size))
  have XH := Lib.hid (((X1.far (p := ⟨w.heap.size + 1, 0, none⟩) hgne.symm (.int .i64 Di)).set_ 0 (.slice A1 l1.length c1)).set_ 1 (.bool r1.isNone))
  have NH := Lib.hid (((N1.set_ 0 (.int .i64 Di)).far (p := ⟨w.heap.size, 0, none⟩) hgne (.slice A1 l1.length c1)).far (p := ⟨w.heap.size, 1, none⟩) hgne (.bool r1.isNone))
  have ZH := Lib.hid (((Z1.far (p := ⟨w.heap.size + 1, 0, none⟩) hgne3 (.int .i64 Di)).far (p := ⟨w.heap.size, 0, none⟩) hgne2 (.slice A1 l1.length c1)).far (p := ⟨w.heap.size, 1, none⟩) hgne2 (.bool r1.isNone))
  have BH := Lib.hid (((HB1.out.setCell (p := ⟨w.heap.size + 1, 0, none⟩) (Nat.le_succ _) (.int .i64 Di)).setCell (p := ⟨w.heap.size, 0, none⟩) (Nat.le_refl _) (.slice A1 l1.length c1)).setCell (p := ⟨w.heap.size, 1, none⟩) (Nat.le_refl _) (.bool r1.isNone))
  have RH := Lib.hid (bys_box hR1 hB 0 0 1 (.int .i64 Di) (.slice A1 l1.length c1) (.bool r1.isNone))
  have n0 := N1.cell 0
  have nz := fun o => N1.frozen o
  have xc0 := X1.cell 0
  have xc1 := X1.cell 1
  have xz := fun o => X1.frozen o
  clear x0 x1 X1 N1 Z1 HX HN HZ HB HS hb1 hR1 HB1
  go_upto_region 2 with fail
  clear n0 nz xc0 xc1 xz
  generalize (((w1.setCell ⟨w.heap.size + 1, 0, none⟩ (.int .i64 Di)).setCell ⟨w.heap.size, 0, none⟩ (.slice A1 l1.length c1)).setCell ⟨w.heap.size, 1, none⟩ (.bool r1.isNone)) = W1 at *
  have x0 := XH.out.cell 0
  have x1 := XH.out.cell 1
  have HW1S := Lib.hid (NH.out.lt)
  have HZS := Lib.hid (ZH.out.lt)
  have HT1 := Lib.hid (HT.out _ W1 ⟨A1, l1, c1, rfl, HL1.out, hc1, hm1, RH.out⟩ (Nat.le_trans hB BH.out.size))
  clear HT RH
  go_wp2_with fail
  refine (HT1.out).mono ?_
  rintro e w3 ⟨v4, v3, rfl, hok, hv3, hb3⟩
  obtain ⟨A4, c4, rfl⟩ := hok.shape
  obtain ⟨A3, l3, c3, rfl, hl3', hc3, hm3, hR3⟩ := hv3
  have HL3 := Lib.hid hl3'
  clear hl3'
  have X1 := XH.out.below hb3
  have N1 := NH.out.below hb3
  have Z1 := ZH.out.below hb3
  have HB1 := Lib.hid (BH.out.trans (hb3.mono BH.out.size))
  have n0 := N1.cell 1
  have nz := fun o => N1.frozen o
  have xc0 := X1.cell 0
  have xc1 := X1.cell 1
  have xz := fun o => X1.frozen o
  clear x0 x1 XH NH ZH BH HT1 hb3 HL1 hc1 hm1
  go_upto_region 3 with fail
  have X3 := (((X1.far (p := ⟨w.heap.size + 1, 1, none⟩) hgne.symm (.slice A4 Dk.length c4)).set_ 0 (.slice A3 l3.length c3)).set_ 1 (.bool Dr.isNone))
  have N3 := (((N1.set_ 1 (.slice A4 Dk.length c4)).far (p := ⟨w.heap.size, 0, none⟩) hgne (.slice A3 l3.length c3)).far (p := ⟨w.heap.size, 1, none⟩) hgne (.bool Dr.isNone))
  have Z3 := (((Z1.far (p := ⟨w.heap.size + 1, 1, none⟩) hgne3 (.slice A4 Dk.length c4)).far (p := ⟨w.heap.size, 0, none⟩) hgne2 (.slice A3 l3.length c3)).far (p := ⟨w.heap.size, 1, none⟩) hgne2 (.bool Dr.isNone))
  have B3 := (((HB1.out.setCell (p := ⟨w.heap.size + 1, 1, none⟩) (Nat.le_succ _) (.slice A4 Dk.length c4)).setCell (p := ⟨w.heap.size, 0, none⟩) (Nat.le_refl _) (.slice A3 l3.length c3)).setCell (p := ⟨w.heap.size, 1, none⟩) (Nat.le_refl _) (.bool Dr.isNone))
  have hW1s : w.heap.size + 1 < W1.heap.size := HW1S.out
  have K3 := hok.keep (w' := ((w3.setCell ⟨w.heap.size + 1, 1, none⟩ (.slice A4 Dk.length c4)).setCell ⟨w.heap.size, 0, none⟩ (.slice A3 l3.length c3)).setCell ⟨w.heap.size, 1, none⟩ (.bool Dr.isNone)) (fun i h1 _ => (Below.heap_setCell _ _ _ i (by show i ≠ w.heap.size; omega)).trans ((Below.heap_setCell _ _ _ i (by show i ≠ w.heap.size; omega)).trans (Below.heap_setCell _ _ _ i (by show i ≠ w.heap.size + 1; omega))))
  have R3 := bys_box hR3 hB 1 0 1 (.slice A4 Dk.length c4) (.slice A3 l3.length c3) (.bool Dr.isNone)
  clear X1 N1 Z1 HB1 hR3 hok n0 nz xc0 xc1 xz
  generalize (((w3.setCell ⟨w.heap.size + 1, 1, none⟩ (.slice A4 Dk.length c4)).setCell ⟨w.heap.size, 0, none⟩ (.slice A3 l3.length c3)).setCell ⟨w.heap.size, 1, none⟩ (.bool Dr.isNone)) = W3 at *
  replace X3 : Has W3 w.heap.size 88 #[.slice A3 l3.length c3, .bool Dr.isNone] := X3
  replace N3 : Has W3 (w.heap.size + 1) 64 #[.int .i64 Di, .slice A4 Dk.length c4] := N3
  have x0 := X3.cell 0
  have x1 := X3.cell 1
  have n0 := N3.cell 0
  have n1 := N3.cell 1
  have nz := fun o => N3.frozen o
  have z0 := Z3.cell 0
  have z1 := Z3.cell 1
  have zz := fun o => Z3.frozen o
  have HB3 := Lib.hid B3
  have HR3 := Lib.hid R3
  have HK3 := Lib.hid K3
  generalize hf3 : Dr.isNone = f3 at *
  have HF := Lib.hid hf3
  clear hf3
  clear X3 N3 Z3 B3 R3 K3
  go_region
  have hg1 : B ≤ w.heap.size + 1 := Nat.le_succ_of_le hB
  have hg2 : B ≤ w.heap.size + 1 + 1 := Nat.le_succ_of_le hg1
  have HBF := Lib.hid (((((HB3.out.setCell (p := ⟨w.heap.size + 1, 0, none⟩) (Nat.le_succ _) (.int .i64 Di)).setCell (p := ⟨w.heap.size + 1, 1, none⟩) (Nat.le_succ _) (.slice A4 Dk.length c4)).setCell (p := ⟨w.heap.size + 1 + 1, 0, none⟩) (Nat.le_succ_of_le (Nat.le_succ _)) (.slice A3 l3.length c3)).setCell (p := ⟨w.heap.size + 1 + 1, 1, none⟩) (Nat.le_succ_of_le (Nat.le_succ _)) (.bool f3)).drew)
  have HRF := Lib.hid (HR3.out.below ((((((Below.refl B W3).setCell (p := ⟨w.heap.size + 1, 0, none⟩) hg1 (.int .i64 Di)).setCell (p := ⟨w.heap.size + 1, 1, none⟩) hg1 (.slice A4 Dk.length c4)).setCell (p := ⟨w.heap.size + 1 + 1, 0, none⟩) hg2 (.slice A3 l3.length c3)).setCell (p := ⟨w.heap.size + 1 + 1, 1, none⟩) hg2 (.bool f3)).drew))
  have hW3s : w.heap.size + 1 + 1 < W1.heap.size := HZS.out
  have HKF := Lib.hid (HK3.out.keep (w' := ((((W3.setCell ⟨w.heap.size + 1, 0, none⟩ (.int .i64 Di)).setCell ⟨w.heap.size + 1, 1, none⟩ (.slice A4 Dk.length c4)).setCell ⟨w.heap.size + 1 + 1, 0, none⟩ (.slice A3 l3.length c3)).setCell ⟨w.heap.size + 1 + 1, 1, none⟩ (.bool f3)).drew) (fun i h1 _ => (Below.heap_setCell _ _ _ i (by show i ≠ w.heap.size + 1 + 1; omega)).trans ((Below.heap_setCell _ _ _ i (by show i ≠ w.heap.size + 1 + 1; omega)).trans ((Below.heap_setCell _ _ _ i (by show i ≠ w.heap.size + 1; omega)).trans (Below.heap_setCell _ _ _ i (by show i ≠ w.heap.size + 1; omega))))))
  clear hW1s hW3s
  go_wp2_with fail
  refine bodyPost_ret (v := .tuple #[.agg #[.int .i64 Di, .slice A4 Dk.length c4], .agg #[.slice A3 l3.length c3, .bool f3]]) (by simp [results, Tryd.results56, go_sem, *]) rfl ⟨_, _, rfl, own_lessK HKF.out (by have := HZS.out; omega), ⟨A3, l3, c3, by rw [HF.out], HL3.out, hc3, hm3, HRF.out⟩, HBF.out⟩
end
section
open Go.RowKit

/-- Where readList of nodes' links is. -/
structure RdP (w wx : World) (g H B : Nat) (q : List (Int × Value)) (xs : List Ld) (r : Rdr) : Prop where
  below : Below w.heap.size w wx
  box : ∃ (A : Option Addr) (l : List UInt8) (c : Nat), Has wx g 88 #[.slice A l.length c, .bool r.isNone] ∧ l = r.getD [] ∧ l.length ≤ c ∧ c ≤ maxLen ∧ Bys wx B A l
  res : Has wx (g + 1) 88 #[.slice none 0 0, .bool false]
  row : Has wx H 64 (flatP q).toArray
  elts : ∀ i (h : i < xs.length), ∃ h2 : i < q.length, q[i].1 = xs[i].id ∧ OwnK wx (H + 1) q[i].2 xs[i].levels
theorem RdP.on {w wa wx : World} {g H B : Nat} {q : List (Int × Value)} {xs : List Ld} {r : Rdr} (h : RdP w wa g H B q xs r) (hB : B ≤ wa.heap.size) (k : Below wa.heap.size wa wx) : RdP w wx g H B q xs r := by
  obtain ⟨b1, ⟨A, l, c, b2, b3, b4, b5, b6⟩, b7, b8, b9⟩ := h
  refine ⟨b1.trans (k.mono b1.size), ⟨A, l, c, b2.below k, b3, b4, b5, b6.below (k.mono hB)⟩, b7.below k, b8.below k, fun i hi => ?_⟩
  obtain ⟨h2, h3, h4⟩ := b9 i hi
  exact ⟨h2, h3, h4.keep fun j _ hj => k.block j hj⟩
theorem RdP.cells {w wx : World} {g H B : Nat} {q : List (Int × Value)} {xs : List Ld} {r : Rdr} (h : RdP w wx g H B q xs r) {k : Nat} (hk : k < q.length) : (∃ o, wx.cell? ⟨H, k * 2, none⟩ = some o) ∧ (∃ o, wx.cell? ⟨H, k * 2 + 1, none⟩ = some o) := by
  have hfa := flatP_at q k hk
  exact ⟨⟨_, by rw [h.row.cell, List.getElem?_toArray]; exact hfa.1⟩, ⟨_, by rw [h.row.cell, List.getElem?_toArray]; exact hfa.2⟩⟩
theorem RdP.step {w w3 : World} {g H B : Nat} {q : List (Int × Value)} {xs : List Ld} {r r' : Rdr} (h : RdP w w3 g H B q xs r) (hg : w.heap.size ≤ g) (hH : g + 1 < H) (hB : B ≤ g) {k : Nat} (hk : k < q.length) (hxs : xs.length = k) (x : Ld) (v : Value) (ho : OwnK w3 (H + 1) v x.levels) {A3 : Option Addr} {l3 : List UInt8} {c3 : Nat} (e3 : l3 = r'.getD []) (hc3 : l3.length ≤ c3) (hm3 : c3 ≤ maxLen) (hR : Bys w3 B A3 l3) :
    RdP w ((((w3.setCell ⟨H, k * 2, none⟩ (.int .i64 x.id)).setCell ⟨H, k * 2 + 1, none⟩ v).setCell ⟨g, 0, none⟩ (.slice A3 l3.length c3)).setCell ⟨g, 1, none⟩ (.bool r'.isNone)) g H B (q.set k (x.id, v)) (xs ++ [x]) r' := by
  obtain ⟨b1, ⟨A, l, c, b2, _⟩, b7, b8, b9⟩ := h
  have hne1 : g ≠ H := by omega
  have hne2 : g + 1 ≠ H := by omega
  have hne3 : g + 1 ≠ g := by omega
  have hBH : B ≤ H := by omega
  have hkeep : ∀ j, H + 1 ≤ j → ((((w3.setCell ⟨H, k * 2, none⟩ (.int .i64 x.id)).setCell ⟨H, k * 2 + 1, none⟩ v).setCell ⟨g, 0, none⟩ (.slice A3 l3.length c3)).setCell ⟨g, 1, none⟩ (.bool r'.isNone)).heap[j]? = w3.heap[j]? := fun j h1 =>
    (Below.heap_setCell _ _ _ j (by show j ≠ g; omega)).trans ((Below.heap_setCell _ _ _ j (by show j ≠ g; omega)).trans ((Below.heap_setCell _ _ _ j (by show j ≠ H; omega)).trans (Below.heap_setCell _ _ _ j (by show j ≠ H; omega))))
  refine ⟨?_, ⟨A3, l3, c3, ?_, e3, hc3, hm3, ?_⟩, ?_, ?_, ?_⟩
  · exact (((b1.setCell (p := ⟨H, k * 2, none⟩) (by show w.heap.size ≤ H; omega) _).setCell (p := ⟨H, k * 2 + 1, none⟩) (by show w.heap.size ≤ H; omega) _).setCell (p := ⟨g, 0, none⟩) hg _).setCell (p := ⟨g, 1, none⟩) hg _
  · exact (((b2.far (p := ⟨H, k * 2, none⟩) hne1 _).far (p := ⟨H, k * 2 + 1, none⟩) hne1 _).set_ 0 (.slice A3 l3.length c3)).set_ 1 (.bool r'.isNone)
  · exact hR.below (((((Below.refl B w3).setCell (p := ⟨H, k * 2, none⟩) hBH _).setCell (p := ⟨H, k * 2 + 1, none⟩) hBH _).setCell (p := ⟨g, 0, none⟩) hB _).setCell (p := ⟨g, 1, none⟩) hB _)
  · exact (((b7.far (p := ⟨H, k * 2, none⟩) hne2 _).far (p := ⟨H, k * 2 + 1, none⟩) hne2 _).far (p := ⟨g, 0, none⟩) hne3 _).far (p := ⟨g, 1, none⟩) hne3 _
  · have h9 := (b8.set_ (k * 2) (.int .i64 x.id)).set_ (k * 2 + 1) v
    simp only [List.setIfInBounds_toArray] at h9
    rw [flatP_put q k hk (x.id, v)] at h9
    exact (h9.far (p := ⟨g, 0, none⟩) hne1.symm _).far (p := ⟨g, 1, none⟩) hne1.symm _
  · intro i hi
    rw [List.length_append, List.length_singleton] at hi
    by_cases hik : i = k
    · subst hik
      refine ⟨by rw [List.length_set]; exact hk, ?_, ?_⟩
      · rw [List.getElem_set_self, List.getElem_append_right (by omega)]
        simp [hxs]
      · rw [List.getElem_set_self, List.getElem_append_right (by omega)]
        simp only [hxs, Nat.sub_self, List.getElem_singleton]
        exact ho.keep fun j h1 _ => hkeep j h1
    · have hik2 : i < xs.length := by omega
      obtain ⟨h2, h3, h4⟩ := b9 i hik2
      refine ⟨by rw [List.length_set]; exact h2, ?_, ?_⟩
      · rw [List.getElem_set_ne (by omega), List.getElem_append_left hik2]
        exact h3
      · rw [List.getElem_set_ne (by omega), List.getElem_append_left hik2]
        exact h4.keep fun j h1 _ => hkeep j h1
/-- At the end the links can be read. -/
theorem RdP.read {w wx : World} {g H B : Nat} {q : List (Int × Value)} {xs : List Ld} {r : Rdr} (h : RdP w wx g H B q xs r) (hm : xs.length ≤ maxLen) : LdsR wx (.slice (some ⟨H, 0, none⟩) xs.length xs.length) xs := by
  refine ⟨_, _, rfl, Nat.le_refl _, hm, fun _ => ⟨H, 0, rfl, h.row.lt, fun i hi => ?_⟩⟩
  obtain ⟨h2, h3, h4⟩ := h.elts i hi
  obtain ⟨A', c', e, h5, h6, h7⟩ := h4.read
  have hfa := flatP_at q i h2
  rw [Nat.zero_add]
  refine ⟨by rw [h.row.cell, List.getElem?_toArray, hfa.1, h3], A', c', by rw [h.row.cell, List.getElem?_toArray, hfa.2, e], h5, h6, h7⟩

theorem RdP.fin {w wx : World} {g H B : Nat} {q : List (Int × Value)} {xs : List Ld} {r : Rdr} (h : RdP w wx g H B q xs r) (hH : g + 1 < H) (u v : Value) (hm : xs.length ≤ maxLen) : LdsR ((wx.setCell ⟨g + 1, 0, none⟩ u).setCell ⟨g + 1, 1, none⟩ v).drew (.slice (some ⟨H, 0, none⟩) xs.length xs.length) xs := by
  refine ⟨_, _, rfl, Nat.le_refl _, hm, fun _ => ?_⟩
  have hrow : Has ((wx.setCell ⟨g + 1, 0, none⟩ u).setCell ⟨g + 1, 1, none⟩ v).drew H 64 (flatP q).toArray := (h.row.far (p := ⟨g + 1, 0, none⟩) (by show H ≠ g + 1; omega) u).far (p := ⟨g + 1, 1, none⟩) (by show H ≠ g + 1; omega) v
  refine ⟨H, 0, rfl, hrow.lt, fun i hi => ?_⟩
  obtain ⟨h2, h3, h4⟩ := h.elts i hi
  have h4' : OwnK ((wx.setCell ⟨g + 1, 0, none⟩ u).setCell ⟨g + 1, 1, none⟩ v).drew (H + 1) q[i].2 xs[i].levels := h4.keep fun j h1 _ => (Below.heap_setCell _ _ _ j (by show j ≠ g + 1; omega)).trans (Below.heap_setCell _ _ _ j (by show j ≠ g + 1; omega))
  obtain ⟨A', c', e, h5, h6, h7⟩ := h4'.read
  have hfa := flatP_at q i h2
  rw [Nat.zero_add]
  refine ⟨by rw [hrow.cell, List.getElem?_toArray, hfa.1, h3], A', c', by rw [hrow.cell, List.getElem?_toArray, hfa.2, e], h5, h6, h7⟩

set_option maxRecDepth 100000 in
set_option maxHeartbeats 3200000 in
theorem readLinkeds_any (r : Rdr) (v : Value) (most B : Nat) (w : World) (hv : RdV w B r v) (hB : B ≤ w.heap.size) (hL : rlen r ≤ 9223372036854775807) (hm : most ≤ 100000) :
    Calls Tryd.prog 87 #[v, .int .u64 (most : Int), .func (.func 56) #[] #[]] w fun e w' => ∃ v1 v', e = .returned (.tuple #[v1, v']) ∧ LdsR w' v1 (rdList most rdLd r).1 ∧ RdV w' B (rdList most rdLd r).2 v' ∧ Below w.heap.size w w' := by
  obtain ⟨A, l, c, rfl, hl, hc, hmx, hR⟩ := hv
  generalize hff : r.isNone = f
  have h1 := (Below.refl w.heap.size w).alloc (Nat.le_refl _) (.cells #[.slice A l.length c, .bool f] 88)
  have h2 := h1.alloc h1.size (.cells #[.slice none 0 0, .bool false] 88)
  have hX := (Has.new w 88 #[.slice A l.length c, .bool f]).alloc (.cells #[.slice none 0 0, .bool false] 88)
  have hZ := Has.new (w.alloc (.cells #[.slice A l.length c, .bool f] 88)) 88 #[.slice none 0 0, .bool false]
  rw [World.size_alloc] at hZ
  have x0 := hX.cell 0
  have x1 := hX.cell 1
  have HX := Lib.hid hX
  have HZ := Lib.hid hZ
  have HB := Lib.hid h2
  have HS := Lib.hid (unsigned_any r _ B most _ ⟨A, l, c, by rw [hff], hl, hc, hmx, hR.below (h2.mono hB)⟩ (Nat.le_trans hB h2.size) hL)
  have hn := rdU_le most r
  have HL1 := Lib.hid (Nat.le_trans (rdU_len most r) hL)
  unfold rdList
  generalize rdU most r = P at *
  obtain ⟨n, r1⟩ := P
  simp only at hn HS HL1 ⊢
  clear hX hZ h1 h2 hl hff hR hL
  obtain ⟨inf, hif, hif1, hif2, hif3⟩ := infoP_parts
  go_enter Tryd.func87, Tryd.ntmps87
  go_wp2_with fail
  refine (HS.out).mono ?_
  rintro e w1 ⟨v1, rfl, hv1, hb1⟩
  obtain ⟨A1, l1, c1, rfl, hl1', hc1, hm1, hR1⟩ := hv1
  have HE1 := Lib.hid hl1'
  have X1 := HX.out.below hb1
  have Z1 := HZ.out.below hb1
  have HB1 := Lib.hid (HB.out.trans (hb1.mono HB.out.size))
  have hgne : w.heap.size + 1 ≠ w.heap.size := by omega
  have XH := Lib.hid ((X1.set_ 0 (.slice A1 l1.length c1)).set_ 1 (.bool r1.isNone))
  have ZH := Lib.hid ((Z1.far (p := ⟨w.heap.size, 0, none⟩) hgne (.slice A1 l1.length c1)).far (p := ⟨w.heap.size, 1, none⟩) hgne (.bool r1.isNone))
  have BH := Lib.hid ((HB1.out.setCell (p := ⟨w.heap.size, 0, none⟩) (Nat.le_refl _) (.slice A1 l1.length c1)).setCell (p := ⟨w.heap.size, 1, none⟩) (Nat.le_refl _) (.bool r1.isNone))
  have RH := Lib.hid (hR1.below (((Below.refl B w1).setCell (p := ⟨w.heap.size, 0, none⟩) hB (.slice A1 l1.length c1)).setCell (p := ⟨w.heap.size, 1, none⟩) hB (.bool r1.isNone)))
  have xc0 := X1.cell 0
  have xc1 := X1.cell 1
  have xz := fun o => X1.frozen o
  clear x0 x1 X1 Z1 HX HZ HB HS hb1 hR1 HB1 hl1'
  go_upto_region 2 with fail
  clear xc0 xc1 xz
  generalize ((w1.setCell ⟨w.heap.size, 0, none⟩ (.slice A1 l1.length c1)).setCell ⟨w.heap.size, 1, none⟩ (.bool r1.isNone)) = W1 at *
  go_wp2_with (at_make; refine wpList_make_full _ rfl _ _ 24 rfl w.heap.size 64 inf _ 2 Tryd.underlying24 hif hif1 hif2 _ _ _ _ n rfl rfl rfl rfl (by rw [hif3]; omega) (by unfold maxLen; omega) BH.out.size ?_; intro w2 ho2 hg2)
  have hbw : Below W1.heap.size W1 w2 := ⟨hg2.os, hg2.tape, hg2.output, hg2.size, fun j hj => hg2.block j hj (by simp)⟩
  rw [made_linked] at ho2
  have hS0 : RdP w w2 w.heap.size W1.heap.size B (List.replicate n zP) [] r1 := ⟨BH.out.trans (hbw.mono BH.out.size), ⟨A1, l1, c1, XH.out.below hbw, HE1.out, hc1, hm1, RH.out.below (hbw.mono (Nat.le_trans hB BH.out.size))⟩, ZH.out.below hbw, (own_fullP ho2).2, fun i hi => absurd hi (Nat.not_lt_zero i)⟩
  have hHg : w.heap.size + 1 < W1.heap.size := ZH.out.lt
  obtain ⟨H, hH⟩ : ∃ H, H = W1.heap.size := ⟨_, rfl⟩
  rw [← hH] at hS0 hHg ⊢
  clear hbw ho2 hg2 XH ZH BH RH HE1 hc1 hm1 hH
  have hn5 : n ≤ 100000 := by omega
  have HNOD := Lib.hid (fun (r' : Rdr) (v' : Value) (W : World) (h1 : RdV W B r' v') (h2 : B ≤ W.heap.size) (h3 : rlen r' ≤ 9223372036854775807) => linked_any r' v' B W h1 h2 h3)
  have HRL := Lib.hid (fun k => Nat.le_trans (rdMany_len (rd := rdLd) rdLd_len k r1) HL1.out)
  have HSN := Lib.hid (fun k => rdMany_snoc rdLd k r1)
  have HCT := Lib.hid (fun k => rdMany_count rdLd k r1)
  go_loopw [21] (fun vi wr => ∃ k : Nat, vi = .int .i64 (k : Int) ∧ k ≤ n ∧ ∃ q, q.length = n ∧ RdP w wr w.heap.size H B q (rdMany rdLd k r1).1 (rdMany rdLd k r1).2) (fun vi _ => n - (intOf vi).toNat)
  case atStart => exact ⟨0, rfl, Nat.zero_le _, _, List.length_replicate, hS0⟩
  case round =>
    clear hS0
    obtain ⟨k, rfl, hk, q, hq, hS⟩ := hrel
    by_cases hlt : k < n
    · obtain ⟨A2, l2, c2, b2, b3, b4, b5, b6⟩ := hS.box
      have x0 := b2.cell 0
      have x1 := b2.cell 1
      have hbs := hS.below.size
      have HN1 := Lib.hid (HNOD.out (rdMany rdLd k r1).2 _ wr ⟨A2, l2, c2, rfl, b3, b4, b5, b6⟩ (Nat.le_trans hB hbs) (HRL.out k))
      have HXS : Hid ((rdMany rdLd (k + 1) r1).1 = (rdMany rdLd k r1).1 ++ [(rdLd (rdMany rdLd k r1).2).1]) := Lib.hid (by rw [HSN.out k])
      have hxs := HCT.out k
      have HSND : Hid ((rdLd (rdMany rdLd k r1).2).2 = (rdMany rdLd (k + 1) r1).2) := Lib.hid (by rw [HSN.out k])
      generalize (rdMany rdLd k r1).1 = xs at *
      generalize (rdMany rdLd k r1).2 = rk at *
      generalize rdLd rk = D at *
      obtain ⟨⟨Di, Dk⟩, Dr⟩ := D
      simp only at HXS HSND HN1
      have HS1 := Lib.hid hS
      have i0 : (0 : Int) ≤ (k : Int) := by omega
      have i1 : (k : Int) < (n : Int) := by omega
      clear b2 b3 b4 b5 b6 hS
      go_wp2_with fail
      refine (HN1.out).mono ?_
      rintro e w3 ⟨v4, v3, rfl, hok, hv3, hb3⟩
      obtain ⟨A5, c5, rfl⟩ := hok.shape
      have hok2 := own_lessK hok (show H + 1 ≤ wr.heap.size from HS1.out.row.lt)
      obtain ⟨A3, l3, c3, rfl, hl3, hc3, hm3, hR3⟩ := hv3
      have HE3 := Lib.hid hl3
      have hS3 := HS1.out.on (Nat.le_trans hB hbs) hb3
      obtain ⟨⟨o0, m0⟩, ⟨o1, m1⟩⟩ := hS3.cells (k := k) (by rw [hq]; exact hlt)
      have mz := fun o => hS3.row.frozen o
      obtain ⟨A4, l4, c4, d2, _, _, _, _⟩ := hS3.box
      have y0 := d2.cell 0
      have y1 := d2.cell 1
      have yz := fun o => d2.frozen o
      have HST := Lib.hid (hS3.step (r' := Dr) (Nat.le_refl _) hHg hB (by rw [hq]; exact hlt) hxs ⟨Di, Dk⟩ _ hok2 hl3 hc3 hm3 hR3)
      have hq2 : (q.set k (Di, .slice A5 Dk.length c5)).length = n := by rw [List.length_set]; exact hq
      clear d2 hS3 hb3 hR3 hl3 HN1 HS1 x0 x1 hq hok hok2
      go_wp2_with fail
      exact ⟨⟨k + 1, by go_num, hlt, _, hq2, by rw [HXS.out, ← HSND.out]; exact HST.out⟩, by simp [intOf]; omega⟩
    · obtain rfl : k = n := by omega
      have i1 : ¬ (k : Int) < (k : Int) := by omega
      have hxl := HCT.out k
      obtain ⟨xs, hxs⟩ : ∃ xs, xs = (rdMany rdLd k r1).1 := ⟨_, rfl⟩
      obtain ⟨rk, hrk⟩ : ∃ rk, rk = (rdMany rdLd k r1).2 := ⟨_, rfl⟩
      rw [← hxs, ← hrk] at hS
      rw [← hxs] at hxl
      have HQE := Lib.hid hxs
      have HRE := Lib.hid hrk
      clear hxs hrk
      obtain ⟨A2, l2, c2, b2, b3, b4, b5, b6⟩ := hS.box
      have HBB := Lib.hid hS.below
      have HBY := Lib.hid b6
      have HE2 := Lib.hid b3
      have x0 := b2.cell 0
      have x1 := b2.cell 1
      have z0 := hS.res.cell 0
      have z1 := hS.res.cell 1
      have zz := fun o => hS.res.frozen o
      have hne : w.heap.size + 1 ≠ H := by omega
      have HSS := Lib.hid hS
      have HXL := Lib.hid hxl
      generalize hff : rk.isNone = f2 at *
      have HFF := Lib.hid hff
      clear b2 b3 b6 hS hff HNOD HRL HSN HCT hxl
      go_upto_region 8 with fail
      go_region
      have HBF := Lib.hid ((((HBB.out.setCell (p := ⟨w.heap.size + 1, 0, none⟩) (Nat.le_succ _) (.slice A2 l2.length c2)).setCell (p := ⟨w.heap.size + 1, 1, none⟩) (Nat.le_succ _) (.bool f2)).drew))
      have HYF := Lib.hid (HBY.out.below ((((Below.refl B wr).setCell (p := ⟨w.heap.size + 1, 0, none⟩) (Nat.le_succ_of_le hB) (.slice A2 l2.length c2)).setCell (p := ⟨w.heap.size + 1, 1, none⟩) (Nat.le_succ_of_le hB) (.bool f2)).drew))
      have HOF := Lib.hid ((HSS.out.fin hHg (.slice A2 l2.length c2) (.bool f2)) (by rw [HXL.out]; unfold maxLen; omega))
      rw [HXL.out] at HOF
      clear hne
      go_wp2_with fail
      refine bodyPost_ret (v := .tuple #[.slice (some ⟨H, 0, none⟩) k k, .agg #[.slice A2 l2.length c2, .bool f2]]) (by simp [results, Tryd.results87, go_sem, *]) rfl ⟨_, _, rfl, by rw [← HQE.out]; exact HOF.out, ?_, HBF.out⟩
      rw [← HRE.out]
      exact ⟨A2, l2, c2, by rw [HFF.out], HE2.out, b4, b5, HYF.out⟩
/-- What decoding answers. -/
def decL (l : List UInt8) : Option (List Ld) := decAll rdLd l
def DecLP (l : List UInt8) (w : World) (e : Ending) (w' : World) : Prop := ∃ v, e = .returned (.tuple #[v, .int .i64 (if (decL l).isSome then 0 else 4)]) ∧ LdsR w' v ((decL l).getD []) ∧ Below w.heap.size w w'
set_option maxRecDepth 100000 in
set_option maxHeartbeats 1600000 in
theorem decodeL_any (A : Option Addr) (l : List UInt8) (c B : Nat) (w : World) (hl : Bys w B A l) (hB : B ≤ w.heap.size) (hn : l.length ≤ 9223372036854775807) (hc : l.length ≤ c) (hm : c ≤ maxLen) :
    Calls Tryd.prog 55 #[.slice A l.length c, .func (.func 56) #[] #[]] w (DecLP l w) := by
  have HR := Lib.hid (readLinkeds_any (some l) (.agg #[.slice A l.length c, .bool false]) 64 B w ⟨A, l, c, rfl, rfl, hc, hm, hl⟩ hB hn (by omega))
  unfold DecLP decL decAll
  generalize rdList 64 rdLd (some l) = D at *
  obtain ⟨xs, r⟩ := D
  simp only [Int.cast_ofNat_Int] at HR
  clear hl hn hc hm
  go_enter Tryd.func55, Tryd.ntmps55
  go_wp2_with fail
  refine (HR.out).mono ?_
  rintro e w1 ⟨v1, v', rfl, ho, hv, hb⟩
  obtain ⟨A2, l2, c2, rfl, he2, _, _, _⟩ := hv
  have k1 := hb.alloc hb.size (.cells #[.slice A2 l2.length c2, .bool r.isNone] 88)
  have hX := Has.new w1 88 #[.slice A2 l2.length c2, .bool r.isNone]
  have x0 := hX.cell 0
  have x1 := hX.cell 1
  have HO := Lib.hid (ho.below ((Below.refl _ _).alloc (Nat.le_refl _) (.cells #[.slice A2 l2.length c2, .bool r.isNone] 88)))
  have HK := Lib.hid k1
  have HE := Lib.hid he2
  clear ho k1 hX hb he2 HR
  cases r with
  | none =>
    simp only [Option.isNone_none] at *
    go_wp2_with fail
    go_ret2
    exact ⟨_, rfl, LdsR.nil _, HK.out⟩
  | some t =>
    simp only [Option.isNone_some] at *
    cases t with
    | nil =>
      obtain rfl := HE.out
      simp only [Option.getD_some, List.length_nil] at *
      go_wp2_with fail
      go_ret2
      exact ⟨v1, rfl, HO.out, HK.out⟩
    | cons a t =>
      obtain rfl := HE.out
      simp only [Option.getD_some] at *
      have hz : (0 : Int) < ((a :: t).length : Int) := by rw [List.length_cons]; omega
      generalize (a :: t).length = m at *
      go_wp2_with fail
      go_ret2
      exact ⟨_, rfl, LdsR.nil _, HK.out⟩
set_option maxRecDepth 100000 in
set_option maxHeartbeats 800000 in
theorem decodeLinks_any (A : Option Addr) (l : List UInt8) (c B : Nat) (w : World) (hl : Bys w B A l) (hB : B ≤ w.heap.size) (hn : l.length ≤ 9223372036854775807) (hc : l.length ≤ c) (hm : c ≤ maxLen) :
    Calls Tryd.prog 21 #[.slice A l.length c] w (DecLP l w) := by
  have H := Lib.hid (decodeL_any A l c B w hl hB hn hc hm)
  unfold DecLP at *
  generalize (if (decL l).isSome then (0 : Int) else 4) = Z at *
  clear hl hn hc hm
  go_enter Tryd.func21, Tryd.ntmps21
  go_wp2_with fail
  refine (H.out).mono ?_
  rintro e w1 ⟨v1, rfl, ho, hb⟩
  have HO := Lib.hid ho
  clear ho
  go_wp2_with fail
  go_ret2
  exact ⟨v1, rfl, HO.out, hb⟩
end
end Go.Proofs.YtmhimkojegkalaaDoor
