/-
  Fields from the tape. Conditions: the tape; 'texts' holds eight strings of at most two bytes, and is not the tape.
-/
import Derived.Test.YtlnmpiigmedgkaaDoorKcT
namespace Go.Proofs.YtlnmpiigmedgkaaDoor
open Go.RowKit

/-- What field gives. -/
def FldP (y : Col) (g : Nat) (w : World) (e : Ending) (w' : World) : Prop := ∃ f : Fd, e = .returned (.agg #[.int .i64 f.kind, .int .i64 f.num, .string f.text]) ∧ f.fits y = true ∧ f.wide ∧ TStep w g w'
theorem fldP_mk {y : Col} {g : Nat} {w w' : World} (f : Fd) (h1 : f.fits y = true) (h2 : f.wide) (h3 : TStep w g w') : FldP y g w (.returned (.agg #[.int .i64 f.kind, .int .i64 f.num, .string f.text])) w' := ⟨f, rfl, h1, h2, h3⟩
theorem Txts.at_ {w1 : World} (h : Txts w1) {r : Int} (r1 : r < 8 ∨ r = 0) : ∃ s : ByteArray, s.size ≤ 2 ∧ w1.cell? ⟨0, r.toNat, none⟩ = some (.string s) := h _ (by omega)

set_option maxRecDepth 100000 in
set_option maxHeartbeats 3200000 in
theorem field_any (y : Col) (g : Nat) (w : World) (ht : Tape w g) (hx : Txts w) (hne : 0 ≠ g) (hy : y.ok = true) :
    Calls Tryd.prog 65 #[.pointer (some ⟨g, 0, none⟩), .agg #[.int .i64 y.kind, .bool y.desc]] w (FldP y g w) := by
  obtain ⟨yk, yd⟩ := y
  have hg := ht.lt
  have hyk : yk = 1 ∨ yk = 2 := by simp [Col.ok] at hy; exact hy
  have hw1 := Lib.hid (fun (f : Fd) (h : f.fits ⟨yk, yd⟩ = true) (h2 : f.wide) (w' : World) (h3 : TStep w g w') => fldP_mk f h h2 h3)
  have sA : TStep w g ((w.alloc (.cells #[.int .i64 yk, .bool yd] 33)).alloc (.cells #[.int .i64 0, .int .i64 0, .string ⟨#[]⟩] 98)) := ((TStep.refl ht).alloc _).alloc _
  have hP0 : Has ((w.alloc (.cells #[.int .i64 yk, .bool yd] 33)).alloc (.cells #[.int .i64 0, .int .i64 0, .string ⟨#[]⟩] 98)) (w.heap.size + 1) 98 #[.int .i64 0, .int .i64 0, .string ⟨#[]⟩] := by
    have h := Has.new (w.alloc (.cells #[.int .i64 yk, .bool yd] 33)) 98 #[.int .i64 0, .int .i64 0, .string ⟨#[]⟩]
    rw [World.size_alloc] at h
    exact h
  have hC0 : Has ((w.alloc (.cells #[.int .i64 yk, .bool yd] 33)).alloc (.cells #[.int .i64 0, .int .i64 0, .string ⟨#[]⟩] 98)) w.heap.size 33 #[.int .i64 yk, .bool yd] := (Has.new w 33 #[.int .i64 yk, .bool yd]).alloc _
  go_enter Tryd.func65, Tryd.ntmps65
  go_wp2_with fail
  refine (bool_any g _ _ sA.1 (by omega) (by omega)).mono ?_
  rintro e w1 ⟨b, rfl, hst⟩
  have s1 := sA.trans hst
  have hP1 : Has w1 (w.heap.size + 1) 98 #[.int .i64 0, .int .i64 0, .string ⟨#[]⟩] := hst.blk hP0 (by omega)
  have hC1 : Has w1 w.heap.size 33 #[.int .i64 yk, .bool yd] := hst.blk hC0 (by omega)
  clear sA hP0 hC0 hst
  have c0 : w1.cell? ⟨w.heap.size, 0, none⟩ = some (.int .i64 yk) := hC1.cell 0
  have c1 : w1.cell? ⟨w.heap.size, 1, none⟩ = some (.bool yd) := hC1.cell 1
  have p0 : w1.cell? ⟨w.heap.size + 1, 0, none⟩ = some (.int .i64 0) := hP1.cell 0
  have p1 : w1.cell? ⟨w.heap.size + 1, 1, none⟩ = some (.int .i64 0) := hP1.cell 1
  have p2 : w1.cell? ⟨w.heap.size + 1, 2, none⟩ = some (.string ⟨#[]⟩) := hP1.cell 2
  have pf : ∀ o, w1.frozen? ⟨w.heap.size + 1, o, none⟩ = false := fun o => hP1.frozen o
  cases b
  · rcases hyk with rfl | rfl
    · clear p0 p1 p2 pf hx
      go_wp2_with fail
      clear c0 c1
      refine (next_any g _ _ s1.1 (by omega)).mono ?_
      rintro e w2 ⟨r, r0, r1, rfl, hst⟩
      have s2 := s1.trans hst
      have hP2 : Has w2 (w.heap.size + 1) 98 #[.int .i64 0, .int .i64 0, .string ⟨#[]⟩] := hst.blk hP1 (by omega)
      clear hst hC1 hP1
      go_wp2_with fail
      refine (next_any g _ _ s2.1 (by omega)).mono ?_
      rintro e w3 ⟨q, q0, q1, rfl, hst⟩
      have s3 := s2.trans hst
      have hP3 : Has w3 (w.heap.size + 1) 98 #[.int .i64 0, .int .i64 0, .string ⟨#[]⟩] := hst.blk hP2 (by omega)
      have h3 := s3.2.size
      have sN := s3.alloc (.cells #[.int .i64 (r - 2), .int .i64 9223372036854775807, .int .i64 (-9223372036854775808), .int .i64 q, .int .i64 0] 3)
      have hPN := hP3.alloc (.cells #[.int .i64 (r - 2), .int .i64 9223372036854775807, .int .i64 (-9223372036854775808), .int .i64 q, .int .i64 0] 3)
      have hV := Has.new w3 3 #[.int .i64 (r - 2), .int .i64 9223372036854775807, .int .i64 (-9223372036854775808), .int .i64 q, .int .i64 0]
      have hpk := Lib.hid (pick_any g w3.heap.size 5 [r - 2, 9223372036854775807, -9223372036854775808, q, 0] _ sN.1 (by simp) (by simp) (by simp) (by omega) (fun i hi => by
        rw [hV.cell]
        have h5 : i = 0 ∨ i = 1 ∨ i = 2 ∨ i = 3 ∨ i = 4 := by simp at hi; omega
        rcases h5 with rfl | rfl | rfl | rfl | rfl <;> rfl))
      clear hst s2 hP2 hP3 s3 hV
      go_wp2_with fail
      refine (hpk.out).mono ?_
      rintro e w4 ⟨v, hv, rfl, hst⟩
      have s4 := sN.trans hst
      have hP4 : Has w4 (w.heap.size + 1) 98 #[.int .i64 0, .int .i64 0, .string ⟨#[]⟩] := hst.blk hPN (by omega)
      have hvb : -9223372036854775808 ≤ v ∧ v ≤ 9223372036854775807 := by
        simp at hv
        rcases hv with rfl | rfl | rfl | rfl | rfl <;> omega
      have p0 : w4.cell? ⟨w.heap.size + 1, 0, none⟩ = some (.int .i64 0) := hP4.cell 0
      have p1 : w4.cell? ⟨w.heap.size + 1, 1, none⟩ = some (.int .i64 0) := hP4.cell 1
      have p2 : w4.cell? ⟨w.heap.size + 1, 2, none⟩ = some (.string ⟨#[]⟩) := hP4.cell 2
      have pf : ∀ o, w4.frozen? ⟨w.heap.size + 1, o, none⟩ = false := fun o => hP4.frozen o
      clear hst hpk hP4 hPN sN hv h3
      go_wp2_with fail
      refine bodyPost_ret (v := .agg #[.int .i64 1, .int .i64 v, .string ⟨#[]⟩]) (by simp [results, Tryd.results65, go_sem, *]) rfl (hw1.out ⟨1, v, ⟨#[]⟩⟩ ?_ ?_ _ (((s4.set (p := ⟨w.heap.size + 1, 0, none⟩) (Nat.le_succ _) hg _).set (p := ⟨w.heap.size + 1, 1, none⟩) (Nat.le_succ _) hg _).set (p := ⟨w.heap.size + 1, 2, none⟩) (Nat.le_succ _) hg _))
      · rfl
      · exact hvb
    · have x1 := hx.step hne s1
      go_wp2_with fail
      refine (next_any g _ _ s1.1 (by omega)).mono ?_
      rintro e w2 ⟨r, r0, r1, rfl, hst⟩
      have s2 := s1.trans hst
      have x2 := x1.step hne hst
      obtain ⟨t, ht2, hcell⟩ := x2.at_ r1
      have hP2 : Has w2 (w.heap.size + 1) 98 #[.int .i64 0, .int .i64 0, .string ⟨#[]⟩] := hst.blk hP1 (by omega)
      clear c0 c1 p0 p1 p2 pf
      have p0 : w2.cell? ⟨w.heap.size + 1, 0, none⟩ = some (.int .i64 0) := hP2.cell 0
      have p1 : w2.cell? ⟨w.heap.size + 1, 1, none⟩ = some (.int .i64 0) := hP2.cell 1
      have p2 : w2.cell? ⟨w.heap.size + 1, 2, none⟩ = some (.string ⟨#[]⟩) := hP2.cell 2
      have pf : ∀ o, w2.frozen? ⟨w.heap.size + 1, o, none⟩ = false := fun o => hP2.frozen o
      have r8 : r < 8 := by omega
      clear hst x1 x2 hC1 hP1 hP2
      go_wp2_with fail
      refine bodyPost_ret (v := .agg #[.int .i64 2, .int .i64 0, .string t]) (by simp [results, Tryd.results65, go_sem, *]) rfl (hw1.out ⟨2, 0, t⟩ ?_ ?_ _ (((s2.set (p := ⟨w.heap.size + 1, 0, none⟩) (Nat.le_succ _) hg _).set (p := ⟨w.heap.size + 1, 1, none⟩) (Nat.le_succ _) hg _).set (p := ⟨w.heap.size + 1, 2, none⟩) (Nat.le_succ _) hg _))
      · simp [Fd.fits]; omega
      · simp [Fd.wide]
  · go_wp2_with fail
    refine bodyPost_ret (v := .agg #[.int .i64 0, .int .i64 0, .string ⟨#[]⟩]) (by simp [results, Tryd.results65, go_sem, *]) rfl (hw1.out ⟨0, 0, ⟨#[]⟩⟩ ?_ ?_ _ (((s1.set (p := ⟨w.heap.size + 1, 0, none⟩) (Nat.le_succ _) hg _).set (p := ⟨w.heap.size + 1, 1, none⟩) (Nat.le_succ _) hg _).set (p := ⟨w.heap.size + 1, 2, none⟩) (Nat.le_succ _) hg _))
    · rfl
    · simp [Fd.wide]

/-- What fields gives. -/
def FldsP (s : List Col) (n : Nat) (g : Nat) (w : World) (e : Ending) (w' : World) : Prop := ∃ A c l, e = .returned (.slice A (l : List Fd).length c) ∧ OwnF w' w.heap.size (.slice A l.length c) l ∧ l.length = n ∧ fitsR s l = true ∧ (∀ i (h : i < l.length), l[i].wide) ∧ TStep w g w'
theorem fitsR_snoc : ∀ (s : List Col) (l : List Fd) (f : Fd) (h : l.length < s.length), fitsR s l = true → f.fits s[l.length] = true → fitsR s (l ++ [f]) = true
  | [], _, _, h, _, _ => by simp at h
  | c :: s, [], f, _, _, hf => by
    show (f.fits c && fitsR s []) = true
    rw [show f.fits c = true from hf]
    cases s <;> rfl
  | c :: s, a :: l, f, h, h1, hf => by
    simp only [fitsR, Bool.and_eq_true] at h1
    show (a.fits c && fitsR s (l ++ [f])) = true
    rw [h1.1, fitsR_snoc s l f (by simpa using h) h1.2 hf]
    rfl
set_option maxRecDepth 100000 in
set_option maxHeartbeats 3200000 in
theorem fields_any (A1 : Option Addr) (s : List Col) (c1 n : Nat) (g : Nat) (w : World) (hn : n ≤ s.length) (hs4 : s.length ≤ 100) (hs : Cols w w.heap.size A1 s) (hsg : ∀ b o, A1 = some ⟨b, o, none⟩ → b ≠ g) (hok : s.all Col.ok = true) (ht : Tape w g) (hx : Txts w) (hne : 0 ≠ g) :
    Calls Tryd.prog 17 #[.pointer (some ⟨g, 0, none⟩), .slice A1 s.length c1, .int .i64 (n : Int)] w (FldsP s n g w) := by
  have hg := ht.lt
  obtain ⟨inf, hif, hif1, hif2, hif3⟩ := infoF_parts
  have hst := TStep.refl ht
  have HOK := Lib.hid hok
  clear ht hok
  go_enter Tryd.func17, Tryd.ntmps17
  go_wp2_with fail
  go_loopw [7, 8] (fun b i wr => ∃ (A : Option Addr) (c k : Nat) (l : List Fd), b = .slice A l.length c ∧ i = .int .i64 (k : Int) ∧ k ≤ n ∧ l.length = k ∧ OwnF wr w.heap.size (.slice A l.length c) l ∧ Hid (fitsR s l = true) ∧ Hid (∀ i (h : i < l.length), l[i].wide) ∧ TStep w g wr) (fun _ i _ => n - (intOf i).toNat)
  case atStart => exact ⟨none, 0, 0, [], rfl, rfl, by omega, rfl, OwnF.nil _ _, Lib.hid (by cases s <;> rfl), Lib.hid (fun i h => by simp at h), hst⟩
  case round =>
    clear hst
    obtain ⟨A, c, k, l, rfl, rfl, hk, hlk, ho, HF, HW, hst⟩ := hrel
    by_cases hlt : k < n
    · have hks : k < s.length := by omega
      obtain ⟨b0, o0, hA0, hz0, d1, d2⟩ := hs.at_ hks
      have hbg := hsg b0 o0 hA0
      have hyk : s[k].ok = true := List.all_eq_true.1 HOK.out _ (List.getElem_mem hks)
      have HFS := Lib.hid (fun f (h : Fd.fits s[k] f = true) => fitsR_snoc s l f (by omega) HF.out (by simpa [hlk] using h))
      subst hA0
      generalize s[k] = y at *
      obtain ⟨yk, yd⟩ := y
      replace d1 := (hst.keeps.1 b0 (o0 + k * 2) hz0 hbg).trans d1
      replace d2 := (hst.keeps.1 b0 (o0 + k * 2 + 1) hz0 hbg).trans d2
      have xr := hx.step hne hst
      have i0 : (0 : Int) ≤ (k : Int) := by omega
      have i1 : (k : Int) < (n : Int) := by omega
      have i2 : (k : Int) < (s.length : Int) := by omega
      have HLK := Lib.hid hlk
      have hl100 : l.length ≤ 100 := by omega
      clear hlk HOK HF hs
      go_wp2_with fail
      refine (field_any ⟨yk, yd⟩ g _ hst.1 xr hne hyk).mono ?_
      rintro e w2 ⟨⟨fk, fn, ft⟩, rfl, hfit, hwide, hst2⟩
      have s2 := hst.trans hst2
      have ho2 := ho.step hg hst2
      have hbs := s2.2.size
      clear hst hst2 ho d1 d2 xr
      go_wp2_with (at_builtin; refine wpList_pushF rfl _ _ 24 rfl w.heap.size inf Tryd.underlying24 hif hif1 hif2 hif3 (.slice A l.length c) l _ ⟨fk, fn, ft⟩ rfl ho2 rfl (by omega) hbs ?_; intro v2 w6 ho6 hb6; obtain ⟨fs2, hfs2⟩ : ∃ fs2, fs2 = l ++ [(⟨fk, fn, ft⟩ : Fd)] := ⟨_, rfl⟩; rw [← hfs2] at ho6; have hfl2 : fs2.length = l.length + 1 := (by rw [hfs2]; simp); have HF2 := Lib.hid hfs2; have HL2 := Lib.hid hfl2; clear hfs2 hfl2; obtain ⟨A3, c3, rfl, -⟩ := ho6.read)
      refine ⟨⟨A3, c3, k + 1, fs2, rfl, by go_num, hlt, by have := HL2.out; have := HLK.out; omega, ho6, Lib.hid (by rw [HF2.out]; exact HFS.out _ hfit), Lib.hid ?_, s2.over hg hb6⟩, by simp [intOf]; omega⟩
      have hf2 := HF2.out
      subst hf2
      intro i hi
      by_cases hil : i < l.length
      · rw [List.getElem_append_left hil]; exact HW.out i hil
      · have : i = l.length := by simp at hi; omega
        subst this
        simpa using hwide
    · have hkn : k = n := by omega
      go_wp2_with fail
      go_ret
      exact ⟨A, c, l, rfl, ho, by omega, HF.out, HW.out, hst⟩
end Go.Proofs.YtlnmpiigmedgkaaDoor
