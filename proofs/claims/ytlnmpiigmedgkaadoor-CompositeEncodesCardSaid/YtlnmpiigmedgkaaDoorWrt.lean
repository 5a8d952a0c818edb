/-
  The walk of CompositeRoundTrip: from whatever numbers it answers true and only makes memory. Conditions: the argument reads as a slice of ints; 'texts' holds eight strings of at most two bytes.
-/
import Derived.Test.YtlnmpiigmedgkaaDoorKcV
import Derived.Test.YtlnmpiigmedgkaaDoorKcJ
namespace Go.Proofs.YtlnmpiigmedgkaaDoor
open Go.RowKit

theorem OwnC.cols2 {w : World} {base n cap : Nat} {A : Option Addr} {l : List Col} (h : OwnC w base (.slice A n cap) l) : Cols w w.heap.size A l := by
  obtain ⟨_, _, er, -, hc⟩ := h.read
  injection er with e1 _ _
  rw [e1]; exact hc
theorem OwnF.fds2 {w : World} {base n cap : Nat} {A : Option Addr} {l : List Fd} (h : OwnF w base (.slice A n cap) l) : Fds w w.heap.size A l := by
  obtain ⟨_, _, er, hc⟩ := h.read
  injection er with e1 _ _
  rw [e1]; exact hc
theorem schOk_of {s : List Col} (h1 : 1 ≤ s.length) (h4 : s.length ≤ 4) (h : s.all Col.ok = true) : schOk s = true := by
  unfold schOk
  rw [h, Bool.and_true, Bool.and_eq_true, decide_eq_true_eq, decide_eq_true_eq]
  omega
theorem enc_short {s : List Col} {l : List Fd} (hs : schOk s = true) (hf : fitsR s l = true) (h : (encR s l).length ≤ 64) : encV s l = (⟨(encR s l).toArray⟩, 0) := by
  unfold encV fitsL
  rw [hs, hf, Bool.and_true, if_pos rfl, if_pos h]
theorem enc_long {s : List Col} {l : List Fd} (hs : schOk s = true) (hf : fitsR s l = true) (h : ¬ (encR s l).length ≤ 64) : encV s l = (⟨#[]⟩, 3) := by
  unfold encV fitsL
  rw [hs, hf, Bool.and_true, if_pos rfl, if_neg h]
theorem decV_enc {s : List Col} {l : List Fd} (hs : schOk s = true) (hl : l.length = s.length) (hf : fitsR s l = true) (hw : ∀ f ∈ l, f.wide) (h : (encR s l).length ≤ 64) : decV s ⟨(encR s l).toArray⟩ = (l, 0) := by
  unfold decV
  rw [if_pos hs, if_pos (show (⟨(encR s l).toArray⟩ : ByteArray).size ≤ 64 from h)]
  have e : (⟨(encR s l).toArray⟩ : ByteArray).data.toList = encR s l := rfl
  rw [e, decR_enc s l hl hf hw]
theorem Cols.stepG {w w' : World} {B g : Nat} {A : Option Addr} {s : List Col} (h : Cols w B A s) (hB : B ≤ w.heap.size) (hne : ∀ b o, A = some ⟨b, o, none⟩ → b ≠ g) (k : TStep w g w') : Cols w' B A s := fun hn => by
  obtain ⟨b, o, e, hb, hc⟩ := h hn
  exact ⟨b, o, e, hb, fun i hi => ⟨(k.keeps.1 b _ (by omega) (hne b o e)).trans (hc i hi).1, (k.keeps.1 b _ (by omega) (hne b o e)).trans (hc i hi).2⟩⟩
/-- What is decoded is the encoding of what is given back. -/
theorem dec_two {s : List Col} (hs : schOk s = true) (y : ByteArray) : decV s y = ([], 4) ∨ ∃ n, decV s y = (n, 0) ∧ encV s n = (y, 0) ∧ (∀ i (h : i < n.length), n[i].wide) := by
  unfold decV
  rw [if_pos hs]
  by_cases h : y.size ≤ 64
  · rw [if_pos h]
    cases hd : decR s y.data.toList with
    | none => exact .inl rfl
    | some n =>
      obtain ⟨h1, h2, h3, -⟩ := decR_inv s _ _ hd
      refine .inr ⟨n, rfl, ?_, fun i hi => h2 _ (List.getElem_mem hi)⟩
      rw [enc_short hs h1 (by rw [h3]; exact h), h3]
  · rw [if_neg h]
    exact .inl rfl

set_option maxRecDepth 100000 in
set_option maxHeartbeats 6400000 in
theorem roundTrip_walk (A : Option Addr) (n0 cp : Nat) (w : World) (hnc : n0 ≤ cp) (hc : cp ≤ maxLen) (hN : Nums w w.heap.size A n0) (hx : Txts w) :
    Calls Tryd.prog 6 #[.slice A n0 cp] w (LawP w) := by
  go_enter Tryd.func6, Tryd.ntmps6
  go_wp2_with fail
  refine (new_any A n0 cp _ hnc hc hN).mono ?_
  rintro e w1 ⟨g, hg, rfl, ht1, hb1⟩
  have hne : 0 ≠ g := by have := hx.lt; omega
  have x1 := hx.below hb1
  clear hx
  go_wp2_with fail
  refine (schema_any g _ ht1).mono ?_
  rintro e w2 ⟨AS, cS, cs, rfl, hS, hs1, hs4, hok, hst2⟩
  have hg1 := ht1.lt
  have x2 := x1.step hne hst2
  have z1 := hb1.size
  have z2 := hst2.2.size
  have hsg : ∀ b o, AS = some ⟨b, o, none⟩ → b ≠ g := fun b o e => by
    obtain ⟨_, _, e9, h9, _⟩ := hS.open_ (by intro e; rw [e] at hs1; simp at hs1)
    injection e9 with e9 _ _
    rw [e] at e9
    injection e9 with e9
    injection e9 with e9 _
    omega
  have f1 := Lib.hid (fields_any AS cs cS cs.length g w2 (Nat.le_refl _) (by omega) hS.cols2 hsg hok hst2.1 x2 hne)
  have HOK := Lib.hid (schOk_of hs1 hs4 hok)
  clear hok hsg
  go_wp2_with fail
  refine (f1.out).mono ?_
  rintro e w3 ⟨AA, cA, a, rfl, hA, hal, haf, haw, hst3⟩
  have z3 := hst3.2.size
  have hS3 := hS.keep (w' := w3) (fun i h1 hi => hst3.2.block i hi (fun e => by have := Option.some.inj e; omega))
  have hst := (hst2.trans hst3)
  have hbW : Below w.heap.size w w3 := ⟨hst.2.os.trans hb1.os, hst.2.tape.trans hb1.tape, hst.2.output.trans hb1.output, by omega, fun i hi => (hst.2.block i (by omega) (fun e => by have := Option.some.inj e; omega)).trans (hb1.block i hi)⟩
  have hSr := hS3.cols2
  have hAr := hA.fds2
  have hgl : g < w3.heap.size := by omega
  have hSg : ∀ b o, AS = some ⟨b, o, none⟩ → b ≠ g := fun b o e => by
    obtain ⟨_, _, e9, h9, _⟩ := hS3.open_ (by intro e; rw [e] at hs1; simp at hs1)
    injection e9 with e9 _ _
    rw [e] at e9
    injection e9 with e9
    injection e9 with e9 _
    omega
  have T3 := hst.1
  clear f1 hst2 hst3 hst x1 x2 hS hb1 ht1 hN
  have E1 := encode_any AS AA cs a cS cA w3 hSr hAr (by omega) haw
  rw [hal] at E1
  have hawm : ∀ f ∈ a, f.wide := fun f hf => by
    obtain ⟨i, hi, rfl⟩ := List.mem_iff_getElem.1 hf
    exact haw i hi
  by_cases h64 : (encR cs a).length ≤ 64
  · rw [enc_short HOK.out haf h64] at E1
    have D1 := Lib.hid (fun (W : World) (k : Below w3.heap.size w3 W) => (by
      have h := decode_any AS cs cS ⟨(encR cs a).toArray⟩ W ((hSr.below k).more k.size) (by omega)
      rw [decV_enc HOK.out hal haf hawm h64] at h
      exact h : Calls Tryd.prog 25 #[.slice AS cs.length cS, .string ⟨(encR cs a).toArray⟩] W (DecP (a, 0) W)))
    have hxs : (⟨(encR cs a).toArray⟩ : ByteArray).size ≤ 1000000 := Nat.le_trans h64 (by decide)
    generalize (⟨(encR cs a).toArray⟩ : ByteArray) = x at *
    have E := Lib.hid E1
    clear E1 h64 haf hawm haw hA hS3
    go_wp2_with fail
    refine (E.out).mono ?_
    rintro e w4 ⟨rfl, hb4⟩
    clear E
    go_wp2_with fail
    refine (D1.out _ hb4).mono ?_
    rintro e w5 ⟨AM, cM, rfl, hM, hb5⟩
    have hb5' := hb4.trans (hb5.mono hb4.size)
    have S1 := same_lists AA AM a a cA cM w5 ((hAr.below hb5').more hb5'.size) hM (by omega)
    rw [sameL_self, hal] at S1
    have S := Lib.hid S1
    clear S1 D1 hM
    simp only [hal]
    go_wp2_with fail
    refine (S.out).mono ?_
    rintro e w6 ⟨rfl, hb6⟩
    have hb6' := hb5'.trans (hb6.mono hb5'.size)
    have T6 := T3.below hb6'
    clear S hb4 hb5 hb5' hb6
    go_wp2_with fail
    refine (damage_any x g w6 T6 hxs).mono ?_
    rintro e w7 ⟨y, rfl, hst7⟩
    have z7 := hst7.2.size
    have z6 := hb6'.size
    have hC7 := ((hSr.below hb6').stepG (by omega) hSg hst7).more (B' := w7.heap.size) (by omega)
    have hb7 : Below w.heap.size w w7 := by
      have k := hbW.trans (hb6'.mono hbW.size)
      exact ⟨hst7.2.os.trans k.os, hst7.2.tape.trans k.tape, hst7.2.output.trans k.output, by omega, fun i hi => (hst7.2.block i (by omega) (fun e => by have := Option.some.inj e; omega)).trans (k.block i hi)⟩
    have hD := decode_any AS cs cS y w7 hC7 (by omega)
    have hEn := fun (n : List Fd) (hw : ∀ i (h : i < n.length), n[i].wide) (W : World) (AN : Option Addr) (cN : Nat) (k : Below w7.heap.size w7 W) (hF : Fds W W.heap.size AN n) => encode_any AS AN cs n cS cN W ((hC7.below k).more k.size) hF (by omega) hw
    clear hAr hSr hgl hSg T3 T6 hst7 hb6' hbW
    rcases dec_two HOK.out y with hy | ⟨n, hy, hen, hwn⟩
    · rw [hy] at hD
      have D := Lib.hid hD
      clear hD hEn hy
      go_wp2_with fail
      refine (D.out).mono ?_
      rintro e w8 ⟨AN, cN, rfl, -, hb8⟩
      clear D
      go_wp2_with fail
      refine (sane_any _).mono ?_
      rintro e w9 ⟨rfl, hb9⟩
      go_wp2_with fail
      go_ret
      exact ⟨rfl, hb7.trans ((hb8.trans (hb9.mono hb8.size)).mono hb7.size)⟩
    · rw [hy] at hD
      have D := Lib.hid hD
      have HE := Lib.hid hEn
      have HY := Lib.hid hen
      have HW := Lib.hid hwn
      clear hD hEn hy hen hwn
      go_wp2_with fail
      refine (D.out).mono ?_
      rintro e w8 ⟨AN, cN, rfl, hF, hb8⟩
      have hE := HE.out n HW.out w8 AN cN hb8 hF
      rw [HY.out] at hE
      simp only at hE ⊢
      have E9 := Lib.hid hE
      clear D HE hE HY HW hF
      go_wp2_with fail
      refine (E9.out).mono ?_
      rintro e w9 ⟨rfl, hb9⟩
      clear E9
      go_wp2_with fail
      refine (sane_any _).mono ?_
      rintro e w10 ⟨rfl, hb10⟩
      have hb9' := hb8.trans (hb9.mono hb8.size)
      go_wp2_with fail
      go_ret
      exact ⟨rfl, hb7.trans ((hb9'.trans (hb10.mono hb9'.size)).mono hb7.size)⟩
  · rw [enc_long HOK.out haf h64] at E1
    have E := Lib.hid E1
    clear E1 h64
    go_wp2_with fail
    refine (E.out).mono ?_
    rintro e w4 ⟨rfl, hb4⟩
    go_wp2_with fail
    refine (sane_any _).mono ?_
    rintro e w5 ⟨rfl, hb5⟩
    go_wp2_with fail
    go_ret
    exact ⟨rfl, hbW.trans ((hb4.trans (hb5.mono hb4.size)).mono hbW.size)⟩
end Go.Proofs.YtlnmpiigmedgkaaDoor
