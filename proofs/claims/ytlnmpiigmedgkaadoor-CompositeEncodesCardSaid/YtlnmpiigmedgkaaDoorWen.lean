/-
  The walk of CompositeEncodes: from whatever arguments it answers true and only makes memory. Conditions: the first argument reads as a slice of ints, the second as a slice of columns, the others as slices of fields; 'texts' holds eight strings of at most two bytes.
-/
import Derived.Test.YtlnmpiigmedgkaaDoorKrI
namespace Go.Proofs.YtlnmpiigmedgkaaDoor
open Go.RowKit

theorem Fds.stepG {w w' : World} {B g : Nat} {A : Option Addr} {l : List Fd} (h : Fds w B A l) (hB : B ≤ w.heap.size) (hne : l ≠ [] → ∀ b o, A = some ⟨b, o, none⟩ → b ≠ g) (k : TStep w g w') : Fds w' w'.heap.size A l := fun hn => by
  obtain ⟨b, o, e, hb, hc⟩ := h hn
  have hq := hne hn b o e
  have hz := k.keeps.2.2
  exact ⟨b, o, e, by omega, fun i hi => ⟨(k.keeps.1 b _ (by omega) hq).trans (hc i hi).1, (k.keeps.1 b _ (by omega) hq).trans (hc i hi).2.1, (k.keeps.1 b _ (by omega) hq).trans (hc i hi).2.2⟩⟩
theorem Fds.setG {w : World} {B G : Nat} {o' : Nat} {u : Value} {A : Option Addr} {l : List Fd} (h : Fds w B A l) (hne : l ≠ [] → ∀ b o, A = some ⟨b, o, none⟩ → b ≠ G) : Fds (w.setCell ⟨G, o', none⟩ u) B A l := fun hn => by
  obtain ⟨b, o, e, hb, hc⟩ := h hn
  have hq := hne hn b o e
  have hh : ∀ j, (w.setCell ⟨G, o', none⟩ u).cell? ⟨b, j, none⟩ = w.cell? ⟨b, j, none⟩ := fun j => World.cell?_of_block (Below.heap_setCell w ⟨G, o', none⟩ u b hq)
  exact ⟨b, o, e, hb, fun i hi => ⟨(hh _).trans (hc i hi).1, (hh _).trans (hc i hi).2.1, (hh _).trans (hc i hi).2.2⟩⟩
theorem fits_text {f : Fd} {c : Col} (h : f.fits c = true) : f.text.size ≤ 1000 := by
  unfold Fd.fits at h
  split at h
  · simp at h; simp [h.2]
  · split at h
    · simp at h; simp [h.2]
    · split at h
      · simp at h; omega
      · cases h

/-- What a round knows once its lists are made. -/
structure Mid (w wr : World) (g GX : Nat) (xs : List Col) (AL : Option Addr) (l : List Fd) (AM : Option Addr) (m : List Fd) : Prop where
  at_ : At w [] g wr
  tx : Txts wr
  gG : g < GX
  tG : 0 < GX
  lt : GX < wr.heap.size
  cols : Cols wr wr.heap.size (some ⟨GX, 0, none⟩) xs
  thaw : ∀ j, wr.frozen? ⟨GX, j, none⟩ = false
  l1 : 1 ≤ xs.length
  l6 : xs.length ≤ 100
  fl : Fds wr wr.heap.size AL l
  nl : l ≠ [] → ∀ b o, AL = some ⟨b, o, none⟩ → GX < b
  wl : ∀ i (h : i < l.length), l[i].wide
  fm : Fds wr wr.heap.size AM m
  nm : m ≠ [] → ∀ b o, AM = some ⟨b, o, none⟩ → GX < b
  wm : ∀ i (h : i < m.length), m[i].wide
section
variable {w wr W : World} {g GX : Nat} {xs : List Col} {AL AM : Option Addr} {l m : List Fd}
theorem Mid.below (h : Mid w wr g GX xs AL l AM m) (k : Below wr.heap.size wr W) : Mid w W g GX xs AL l AM m where
  at_ := h.at_.below k
  tx := h.tx.below k
  gG := h.gG
  tG := h.tG
  lt := Nat.lt_of_lt_of_le h.lt k.size
  cols := (h.cols.below k).more k.size
  thaw := fun j => (World.frozen?_of_block (k.block GX h.lt)).trans (h.thaw j)
  l1 := h.l1
  l6 := h.l6
  fl := (h.fl.below k).more k.size
  nl := h.nl
  wl := h.wl
  fm := (h.fm.below k).more k.size
  nm := h.nm
  wm := h.wm
theorem Mid.step (h : Mid w wr g GX xs AL l AM m) (k : TStep wr g W) (hg : w.heap.size ≤ g) (hne : 0 ≠ g) : Mid w W g GX xs AL l AM m where
  at_ := h.at_.step k hg (fun _ h => by cases h)
  tx := h.tx.step hne k
  gG := h.gG
  tG := h.tG
  lt := Nat.lt_of_lt_of_le h.lt k.keeps.2.2
  cols := (h.cols.stepG (Nat.le_refl _) (fun b o e => by have := h.gG; injection e with e; injection e with e; omega) k).more k.keeps.2.2
  thaw := fun j => (k.keeps.2.1 GX j h.lt (by have := h.gG; omega)).trans (h.thaw j)
  l1 := h.l1
  l6 := h.l6
  fl := h.fl.stepG (Nat.le_refl _) (fun hn b o e => by have := h.nl hn b o e; have := h.gG; omega) k
  nl := h.nl
  wl := h.wl
  fm := h.fm.stepG (Nat.le_refl _) (fun hn b o e => by have := h.nm hn b o e; have := h.gG; omega) k
  nm := h.nm
  wm := h.wm
theorem Mid.cell0 (h : Mid w wr g GX xs AL l AM m) : ∃ v, wr.cell? ⟨GX, 0, none⟩ = some v := by
  obtain ⟨b, o, e, _, h1, _⟩ := h.cols.at_ (i := 0) (by have := h.l1; omega)
  injection e with e
  injection e with e1 e2
  subst e1 e2
  exact ⟨_, h1⟩
theorem Mid.put (h : Mid w wr g GX xs AL l AM m) (u : Int) (hg : w.heap.size ≤ g) : ∃ xs' : List Col, xs'.length = xs.length ∧ Mid w (wr.setCell ⟨GX, 0, none⟩ (.int .i64 u)) g GX xs' AL l AM m := by
  have h1 := h.l1
  have hz : (wr.setCell ⟨GX, 0, none⟩ (.int .i64 u)).heap.size = wr.heap.size := set_size _ _ _
  obtain ⟨v, hv⟩ := h.cell0
  refine ⟨xs.set 0 ⟨u, (xs[0]'(by omega)).desc⟩, by simp, ?_⟩
  refine ⟨h.at_.setC (by have := h.gG; show w.heap.size ≤ GX; omega) h.gG (fun _ h => by cases h) _, h.tx.keep (Below.heap_setCell wr ⟨GX, 0, none⟩ _ _ (by have := h.tG; show _ ≠ GX; omega)), h.gG, h.tG, by rw [hz]; exact h.lt, ?_, ?_, by simpa using h1, by simpa using h.l6, ?_, h.nl, h.wl, ?_, h.nm, h.wm⟩
  · rw [hz]
    intro _
    obtain ⟨b, o, e, hb, hc⟩ := h.cols (fun e => by subst e; simp at h1)
    injection e with e
    injection e with e1 e2
    subst e1 e2
    refine ⟨GX, 0, rfl, hb, fun i hi => ?_⟩
    have hi' : i < xs.length := by simpa using hi
    have hc' := hc i hi'
    simp only [Nat.zero_add] at hc' ⊢
    by_cases hi0 : i = 0
    · subst hi0
      simp only [List.getElem_set_self]
      exact ⟨cell_same hv, (cell_other (by omega)).trans hc'.2⟩
    · rw [List.getElem_set_ne (Ne.symm hi0)]
      exact ⟨(cell_other (by omega)).trans hc'.1, (cell_other (by omega)).trans hc'.2⟩
  · intro j
    rw [World.frozen?_setCell]
    exact h.thaw j
  · rw [hz]; exact h.fl.setG (fun hn b o e => by have := h.nl hn b o e; omega)
  · rw [hz]; exact h.fm.setG (fun hn b o e => by have := h.nm hn b o e; omega)
theorem Mid.sameA (h : Mid w wr g GX xs AL l AM m) (n c0 c1 c2 : Nat) (hn : xs.length = n) :
    Calls Tryd.prog 21 #[.slice (some ⟨GX, 0, none⟩) n c0, .slice AL l.length c1, .slice AM m.length c2] wr (BoolB true wr) := by
  subst hn
  exact same_any _ AL AM xs l m c0 c1 c2 wr h.cols h.fl h.fm (by have := h.l6; omega) h.wl
theorem Mid.sameB (h : Mid w wr g GX xs AL l AM m) (n c0 c1 c2 : Nat) (hn : xs.length = n) :
    Calls Tryd.prog 21 #[.slice (some ⟨GX, 0, none⟩) n c0, .slice AM m.length c2, .slice AL l.length c1] wr (BoolB true wr) := by
  subst hn
  exact same_any _ AM AL xs m l c0 c2 c1 wr h.cols h.fm h.fl (by have := h.l6; omega) h.wm
end

set_option maxRecDepth 100000 in
set_option maxHeartbeats 6400000 in
theorem encodes_walk (A A1 A2 A3 : Option Addr) (n0 cp d1 d2 d3 : Nat) (s : List Col) (a b : List Fd) (w : World) (hnc : n0 ≤ cp) (hc : cp ≤ maxLen) (hN : Nums w w.heap.size A n0) (hS : Cols w w.heap.size A1 s) (ha : Fds w w.heap.size A2 a) (hb2 : Fds w w.heap.size A3 b) (haw : ∀ i (h : i < a.length), a[i].wide) (hx : Txts w) :
    Calls Tryd.prog 3 #[.slice A n0 cp, .slice A1 s.length d1, .slice A2 a.length d2, .slice A3 b.length d3] w (LawP w) := by
  have SA := Lib.hid (fun (W : World) (k : Below w.heap.size w W) (h : s.length ≤ 100) => same_any A1 A2 A3 s a b d1 d2 d3 W ((hS.below k).more k.size) ((ha.below k).more k.size) ((hb2.below k).more k.size) (by omega) haw)
  clear hS ha hb2 haw
  go_enter Tryd.func3, Tryd.ntmps3
  go_wp2_with fail
  refine (new_any A n0 cp _ hnc hc hN).mono ?_
  rintro e w1 ⟨g, hg1, rfl, hT, hb⟩
  have hA : At w [] g w1 := ⟨(Inv.nil w).below hb, hT⟩
  have hne : 0 ≠ g := by have := hx.lt; omega
  have x1 := hx.below hb
  clear hb hT hx hN hnc hc
  go_wp2_with fail
  go_loopw [10] (fun i wr => ∃ k : Nat, k ≤ 5 ∧ i = .int .i64 (k : Int) ∧ At w [] g wr ∧ Txts wr) (fun i _ => 5 - (intOf i).toNat)
  case atStart => exact ⟨0, by omega, rfl, hA, x1⟩
  case round =>
    clear hA x1
    obtain ⟨k, hk, rfl, hA, x1⟩ := hrel
    by_cases hlt : k < 5
    · clear SA
      go_wp2_with fail
      refine (schema_any g _ hA.2).mono ?_
      rintro e w2 ⟨AS, cX, cs, rfl, hSo, hs1, hs4, hok, hst⟩
      have hgr := hA.2.lt
      have htr := x1.lt
      have hAn := hA.step hst hg1 (fun _ h => by cases h)
      have x2 := x1.step hne hst
      have z2 := hst.2.size
      obtain ⟨GX, capX, eX, hGX, hGl, -, -, hth⟩ := hSo.open_ (by intro e; rw [e] at hs1; simp at hs1)
      injection eX with e1 _ e2
      subst e1 e2
      have hsg : ∀ b o, some (⟨GX, 0, none⟩ : Addr) = some ⟨b, o, none⟩ → b ≠ g := fun b o e => by
        injection e with e
        injection e with e
        omega
      have c2 := hSo.cols2
      clear hst hA x1 hSo
      have i0 : (0 : Int) < (cs.length : Int) := by omega
      have i1 : (cs.length : Int) ≤ 4 := by omega
      have hwl : IntKind.i64.wrap ((cs.length : Int) + 1) = (cs.length : Int) + 1 := IntWalk.i64_in _ (by omega)
      go_wp2_with fail
      refine (next_any g _ _ hAn.2 (by omega)).mono ?_
      rintro e w3 ⟨r, r0, r1, rfl, hst3⟩
      obtain ⟨q, rfl⟩ : ∃ q : Nat, r = (q : Int) := ⟨r.toNat, by omega⟩
      have hq : q ≤ cs.length := by omega
      have hA3 := hAn.step hst3 hg1 (fun _ h => by cases h)
      have x3 := x2.step hne hst3
      have z3 := hst3.2.size
      have c3 := (c2.stepG (Nat.le_refl _) hsg hst3).more (B' := w3.heap.size) z3
      have th3 : ∀ j, w3.frozen? ⟨GX, j, none⟩ = false := fun j => (hst3.keeps.2.1 GX j hGl (by omega)).trans (hth j)
      have F1 := Lib.hid (fields_any (some ⟨GX, 0, none⟩) cs cX q g w3 hq (by omega) c3 hsg hok hA3.2 x3 hne)
      clear hst3 hAn x2 c2 hth r1 hq
      go_wp2_with fail
      refine (F1.out).mono ?_
      rintro e w4 ⟨AL, cL, l, rfl, hLo, hll, hlf, hlw, hst4⟩
      have hA4 := hA3.step hst4 hg1 (fun _ h => by cases h)
      have x4 := x3.step hne hst4
      have z4 := hst4.2.size
      have c4 := (c3.stepG (Nat.le_refl _) hsg hst4).more (B' := w4.heap.size) z4
      have th4 : ∀ j, w4.frozen? ⟨GX, j, none⟩ = false := fun j => (hst4.keeps.2.1 GX j (by omega) (by omega)).trans (th3 j)
      have F2 := Lib.hid (fields_any (some ⟨GX, 0, none⟩) cs cX cs.length g w4 (Nat.le_refl _) (by omega) c4 hsg hok hA4.2 x4 hne)
      have hl100 : l.length ≤ 1000 := by have := fitsR_len hlf; omega
      have HLX := Lib.hid (show ∀ i (h : i < l.length), l[i].text.size ≤ 1000 from fun i h => fits_text (fitsR_at hlf h (by have := fitsR_len hlf; omega)))
      have HLW := Lib.hid hlw
      have fl4 := hLo.fds2
      have nl4 : l ≠ [] → ∀ b o, AL = some ⟨b, o, none⟩ → GX < b := fun hn b o e => by
        obtain ⟨_, _, e9, h9, _⟩ := hLo.open_ hn
        injection e9 with e9 _ _
        rw [e] at e9
        injection e9 with e9
        injection e9 with e9 _
        omega
      have HNL := Lib.hid nl4
      clear hst4 hA3 x3 c3 th3 hll hlf hlw hLo F1 nl4
      go_wp2_with fail
      refine (F2.out).mono ?_
      rintro e w5 ⟨AM, cM, m, rfl, hMo, hml, hmf, hmw, hst5⟩
      have hM : Mid w w5 g GX cs AL l AM m := by
        have z5 := hst5.2.size
        refine ⟨hA4.step hst5 hg1 (fun _ h => by cases h), x4.step hne hst5, by omega, by omega, by omega, (c4.stepG (Nat.le_refl _) hsg hst5).more z5, fun j => (hst5.keeps.2.1 GX j (by omega) (by omega)).trans (th4 j), hs1, by omega, fl4.stepG (Nat.le_refl _) (fun hn b o e => by have := HNL.out hn b o e; omega) hst5, HNL.out, HLW.out, hMo.fds2, fun hn b o e => ?_, hmw⟩
        obtain ⟨_, _, e9, h9, _⟩ := hMo.open_ hn
        injection e9 with e9 _ _
        rw [e] at e9
        injection e9 with e9
        injection e9 with e9 _
        omega
      clear hst5 hA4 x4 c4 th4 hml hmf hmw hMo F2 fl4 hsg hok HNL
      by_cases hk2 : k ≤ 2
      · have t0 : ¬ ((2 : Int) < (k : Int)) := by omega
        go_wp2_with fail
        refine (bool_any g _ _ hM.at_.2 (by omega) (by omega)).mono ?_
        rintro e w6 ⟨q6, rfl, hst6⟩
        have hM6 := hM.step hst6 hg1 hne
        clear hst6
        cases q6
        · go_wp2_with fail
          refine (hM6.sameA _ cX cL cM rfl).mono ?_
          rintro e wA ⟨rfl, hbA⟩
          have hMA := hM6.below hbA
          clear hbA
          go_wp2_with fail
          refine (hMA.sameB _ cX cL cM rfl).mono ?_
          rintro e wB ⟨rfl, hbB⟩
          have hMB := hMA.below hbB
          clear hbB hMA
          go_wp2_with fail
          exact ⟨⟨k + 1, hlt, by go_num, hMB.at_, hMB.tx⟩, by simp [intOf]; omega⟩
        · go_wp2_with fail
          refine (next_any g _ _ hM6.at_.2 (by omega)).mono ?_
          rintro e w7 ⟨p, p0, p1, rfl, hst7⟩
          have hM7 := hM6.step hst7 hg1 hne
          have fz := hM7.thaw 0
          obtain ⟨v0, hv0⟩ := hM7.cell0
          obtain ⟨xs', hx', hM8⟩ := hM7.put (p - 1) hg1
          have HX' := Lib.hid hx'
          have hwr : IntKind.i64.wrap (p - 1) = p - 1 := IntWalk.i64_in _ (by omega)
          clear hst7 hM6 hM7 hx'
          go_wp2_with fail
          refine (hM8.sameA _ cX cL cM HX'.out).mono ?_
          rintro e wA ⟨rfl, hbA⟩
          have hMA := hM8.below hbA
          clear hbA
          go_wp2_with fail
          refine (hMA.sameB _ cX cL cM HX'.out).mono ?_
          rintro e wB ⟨rfl, hbB⟩
          have hMB := hMA.below hbB
          clear hbB hMA
          go_wp2_with fail
          exact ⟨⟨k + 1, hlt, by go_num, hMB.at_, hMB.tx⟩, by simp [intOf]; omega⟩
      · have t0 : (2 : Int) < (k : Int) := by omega
        go_wp2_with fail
        refine (spoil_any AL l cL g w5 hM.fl HLW.out hl100 HLX.out hM.at_.2).mono ?_
        rintro e w9 ⟨AN, cN, nl, rfl, hf9, hn9, hw9, hst9⟩
        have hM0 := hM.step hst9 hg1 hne
        have hM9 : Mid w w9 g GX cs AN nl AM m := ⟨hM0.at_, hM0.tx, hM0.gG, hM0.tG, hM0.lt, hM0.cols, hM0.thaw, hM0.l1, hM0.l6, hf9, fun hn b o e => by have := hn9 hn b o e; have := hM.lt; omega, hw9, hM0.fm, hM0.nm, hM0.wm⟩
        clear hM hM0 hf9 hn9 hw9 hst9 HLX HLW
        go_wp2_with fail
        refine (bool_any g _ _ hM9.at_.2 (by omega) (by omega)).mono ?_
        rintro e w6 ⟨q6, rfl, hst6⟩
        have hM6 := hM9.step hst6 hg1 hne
        clear hst6
        cases q6
        · go_wp2_with fail
          refine (hM6.sameA _ cX cN cM rfl).mono ?_
          rintro e wA ⟨rfl, hbA⟩
          have hMA := hM6.below hbA
          clear hbA
          go_wp2_with fail
          refine (hMA.sameB _ cX cN cM rfl).mono ?_
          rintro e wB ⟨rfl, hbB⟩
          have hMB := hMA.below hbB
          clear hbB hMA
          go_wp2_with fail
          exact ⟨⟨k + 1, hlt, by go_num, hMB.at_, hMB.tx⟩, by simp [intOf]; omega⟩
        · go_wp2_with fail
          refine (next_any g _ _ hM6.at_.2 (by omega)).mono ?_
          rintro e w7 ⟨p, p0, p1, rfl, hst7⟩
          have hM7 := hM6.step hst7 hg1 hne
          have fz := hM7.thaw 0
          obtain ⟨v0, hv0⟩ := hM7.cell0
          obtain ⟨xs', hx', hM8⟩ := hM7.put (p - 1) hg1
          have HX' := Lib.hid hx'
          have hwr : IntKind.i64.wrap (p - 1) = p - 1 := IntWalk.i64_in _ (by omega)
          clear hst7 hM6 hM7 hx'
          go_wp2_with fail
          refine (hM8.sameA _ cX cN cM HX'.out).mono ?_
          rintro e wA ⟨rfl, hbA⟩
          have hMA := hM8.below hbA
          clear hbA
          go_wp2_with fail
          refine (hMA.sameB _ cX cN cM HX'.out).mono ?_
          rintro e wB ⟨rfl, hbB⟩
          have hMB := hMA.below hbB
          clear hbB hMA
          go_wp2_with fail
          exact ⟨⟨k + 1, hlt, by go_num, hMB.at_, hMB.tx⟩, by simp [intOf]; omega⟩
    · have SN := Lib.hid (fun W => sane_any W)
      have hAB := hA.1.1
      by_cases q1 : s.length ≤ 100
      · have t1 : ¬ ((100 : Int) < (s.length : Int)) := by omega
        have SA2 := Lib.hid (SA.out wr hAB q1)
        clear SA
        by_cases q2 : a.length ≤ 100
        · have t2 : ¬ ((100 : Int) < (a.length : Int)) := by omega
          by_cases q3 : b.length ≤ 100
          · have t3 : ¬ ((100 : Int) < (b.length : Int)) := by omega
            go_wp2_with fail
            refine (SA2.out).mono ?_
            rintro e w5 ⟨rfl, hb5⟩
            go_wp2_with fail
            refine (SN.out _).mono ?_
            rintro e w6 ⟨rfl, hbl⟩
            go_wp2_with fail
            go_ret
            exact ⟨rfl, hAB.trans ((hb5.trans (hbl.mono hb5.size)).mono hAB.size)⟩
          · have t3 : (100 : Int) < (b.length : Int) := by omega
            go_wp2_with fail
            refine (SN.out _).mono ?_
            rintro e w6 ⟨rfl, hbl⟩
            go_wp2_with fail
            go_ret
            exact ⟨rfl, (hA.below hbl).1.1⟩
        · have t2 : (100 : Int) < (a.length : Int) := by omega
          go_wp2_with fail
          refine (SN.out _).mono ?_
          rintro e w6 ⟨rfl, hbl⟩
          go_wp2_with fail
          go_ret
          exact ⟨rfl, (hA.below hbl).1.1⟩
      · have t1 : (100 : Int) < (s.length : Int) := by omega
        go_wp2_with fail
        refine (SN.out _).mono ?_
        rintro e w6 ⟨rfl, hbl⟩
        go_wp2_with fail
        go_ret
        exact ⟨rfl, (hA.below hbl).1.1⟩
end Go.Proofs.YtlnmpiigmedgkaaDoor
