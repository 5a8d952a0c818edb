/-
  The walk of CompositePrefixes: from whatever numbers it answers true and only makes memory. Conditions: the first argument reads as a slice of ints; 'texts' holds eight strings of at most two bytes.
-/
import Derived.Test.YtlnmpiigmedgkaaDoorKcQ
import Derived.Test.YtlnmpiigmedgkaaDoorWor
namespace Go.Proofs.YtlnmpiigmedgkaaDoor
open Go.RowKit

/-- A schema and two lists of its length, each of which fits, in a world. -/
def Two2 (w w0 : World) (AS : Option Addr) (cs : List Col) (GA : Nat) (a : List Fd) (AB : Option Addr) (b : List Fd) : Prop :=
  Below w0.heap.size w0 w ∧ Cols w w.heap.size AS cs ∧ Fds w w.heap.size (some ⟨GA, 0, none⟩) a ∧ Fds w w.heap.size AB b ∧ fitsR cs a = true ∧ fitsR cs b = true ∧ (∀ i (h : i < a.length), a[i].wide) ∧ (∀ i (h : i < b.length), b[i].wide)
theorem fitsR_mix2 : ∀ (s : List Col) (a b : List Fd) (m : Nat), fitsR s a = true → fitsR s b = true → m ≤ a.length → fitsR s (a.take m ++ b.drop m) = true
  | s, a, b, 0, _, h, _ => by simpa using h
  | s, [], b, m + 1, _, _, h => by simp at h
  | [], _ :: _, _, _ + 1, h, _, _ => by cases h
  | c :: s, f :: x, [], m + 1, h1, _, h => by
    simp only [fitsR, Bool.and_eq_true] at h1
    have := fitsR_mix2 s x [] m h1.2 (by cases s <;> rfl) (by simpa using h)
    show (f.fits c && fitsR s (x.take m ++ [])) = true
    rw [h1.1]
    simpa using this
  | c :: s, f :: x, g :: y, m + 1, h1, h2, h => by
    simp only [fitsR, Bool.and_eq_true] at h1 h2
    show (f.fits c && fitsR s (x.take m ++ y.drop m)) = true
    rw [h1.1, fitsR_mix2 s x y m h1.2 h2.2 (by simpa using h)]
    rfl
theorem two2_app {w w0 w' : World} {AS : Option Addr} {cs : List Col} {GA : Nat} {a : List Fd} {AB : Option Addr} {b : List Fd} (h : Two2 w w0 AS cs GA a AB b) (k : Below w.heap.size w w') {A3 : Option Addr} (m : Nat)
    (hr : Fds w' w'.heap.size A3 ([] ++ a.take m ++ b.drop m)) (hm : m ≤ a.length) : Two2 w' w0 AS cs GA a A3 ([] ++ a.take m ++ b.drop m) := by
  obtain ⟨h1, h2, h3, h4, h5, h6, h7, h8⟩ := h
  rw [List.nil_append] at hr ⊢
  refine ⟨h1.trans (k.mono h1.size), (h2.below k).more k.size, (h3.below k).more k.size, hr, h5, fitsR_mix2 cs a b m h5 h6 hm, h7, fun i hi => ?_⟩
  have hl : (a.take m).length = m := by simp; omega
  by_cases hia : i < m
  · rw [List.getElem_append_left (by omega), List.getElem_take]; exact h7 i (by omega)
  · rw [List.getElem_append_right (by omega), List.getElem_drop]
    exact h8 _ _
theorem fitsR_take : ∀ (s : List Col) (a : List Fd) (m : Nat), fitsR s a = true → fitsR s (a.take m) = true
  | s, a, 0, _ => by cases s <;> rfl
  | s, [], m + 1, _ => by cases s <;> rfl
  | [], _ :: _, _ + 1, h => by cases h
  | c :: s, f :: x, m + 1, h => by
    simp only [fitsR, Bool.and_eq_true] at h
    show (f.fits c && fitsR s (x.take m)) = true
    rw [h.1, fitsR_take s x m h.2]; rfl

set_option maxRecDepth 100000 in
set_option maxHeartbeats 6400000 in
theorem cprefixes_walk (A : Option Addr) (n0 cp : Nat) (n : Int) (w : World) (hnc : n0 ≤ cp) (hc : cp ≤ maxLen) (hN : Nums w w.heap.size A n0) (hx : Txts w) :
    Calls Tryd.prog 7 #[.slice A n0 cp, .int .i64 n] w (LawP w) := by
  obtain ⟨inf, hif, hif1, hif2, hif3⟩ := infoF_parts
  go_enter Tryd.func7, Tryd.ntmps7
  go_wp2_with fail
  refine (new_any A n0 cp _ hnc hc hN).mono ?_
  rintro e w1 ⟨g, hg, rfl, ht1, hb1⟩
  have hne : 0 ≠ g := by have := hx.lt; omega
  have x1 := hx.below hb1
  clear hx
  go_wp2_with fail
  refine (schema_any g _ ht1).mono ?_
  rintro e w2 ⟨AS, cS, cs, rfl, hS, hs1, hs4, hok, hst2⟩
  have hg1 := ht1.lt
  have x2 := x1.step hne hst2
  have z1 := hb1.size
  have z2 := hst2.2.size
  have hsg : ∀ b o, AS = some ⟨b, o, none⟩ → b ≠ g := fun b o e => by
    obtain ⟨_, _, e9, h9, _⟩ := hS.open_ (by intro e; rw [e] at hs1; simp at hs1)
    injection e9 with e9 _ _
    rw [e] at e9
    injection e9 with e9
    injection e9 with e9 _
    omega
  have HSG := Lib.hid hsg
  have HOK := Lib.hid hok
  clear hok hsg hN
  have F1 := Lib.hid (fields_any AS cs cS cs.length g w2 (Nat.le_refl _) (by omega) hS.cols2 HSG.out HOK.out hst2.1 x2 hne)
  go_wp2_with fail
  refine (F1.out).mono ?_
  rintro e w4 ⟨AA, cA, a, rfl, hA, hal, haf, haw, hst4⟩
  clear F1
  have x4 := x2.step hne hst4
  have z4 := hst4.2.size
  have c4 := hS.cols2.stepG (Nat.le_refl _) HSG.out hst4
  have HAL := Lib.hid hal
  have hac : cs.length ≤ a.length := by omega
  have hac2 : a.length ≤ cs.length := by omega
  have HAF := Lib.hid haf
  have HAW := Lib.hid haw
  clear hal haf haw
  have F2 := Lib.hid (fields_any AS cs cS cs.length g w4 (Nat.le_refl _) (by omega) (c4.more (by omega)) HSG.out HOK.out hst4.1 x4 hne)
  go_wp2_with fail
  refine (F2.out).mono ?_
  rintro e w6 ⟨AB, cB, b, rfl, hB, hbl, hbf, hbw, hst6⟩
  clear F2
  have z6 := hst6.2.size
  have c6 := c4.stepG (by omega) HSG.out hst6
  have a6 := hA.step (g := g) (by omega) hst6
  have HBL := Lib.hid hbl
  have hbc : cs.length ≤ b.length := by omega
  have hbc2 : b.length ≤ cs.length := by omega
  have HBF := Lib.hid hbf
  have HBW := Lib.hid hbw
  clear hbl hbf hbw
  go_wp2_with fail
  refine (mod_any n ((cs.length : Int) + 1) w6 (by omega) (by omega)).mono ?_
  rintro e w' ⟨he, rfl⟩
  have m0 := Int.emod_nonneg n (b := (cs.length : Int) + 1) (by omega)
  have m1 := Int.emod_lt_of_pos n (b := (cs.length : Int) + 1) (by omega)
  obtain ⟨m, hm⟩ := Int.eq_ofNat_of_zero_le m0
  rw [hm] at he m1
  subst he
  have hmc : m ≤ cs.length := by omega
  clear m0 m1 hm
  go_wp2_with fail
  refine (bool_any g _ _ hst6.1 (by omega) (by omega)).mono ?_
  rintro e w7 ⟨q, rfl, hst7⟩
  have z7 := hst7.2.size
  have c7 := (c6.stepG (by omega) HSG.out hst7).more (B' := w7.heap.size) (by omega)
  have a7o := a6.step (g := g) (by omega) hst7
  have b7o := hB.step (g := g) (by omega) hst7
  have stA := ((hst2.trans hst4).trans hst6).trans hst7
  have hbW : Below w.heap.size w w7 := ⟨stA.2.os.trans hb1.os, stA.2.tape.trans hb1.tape, stA.2.output.trans hb1.output, by omega, fun i hi => (stA.2.block i (by omega) (fun e => by have := Option.some.inj e; omega)).trans (hb1.block i hi)⟩
  obtain ⟨GA, capA, hvA, -, -, hcapA, -, hrA⟩ := a7o.open_ (by intro e; rw [e] at hac; have h0 : cs.length ≤ 0 := hac; omega)
  obtain ⟨GB, capB, hvB, -, -, hcapB, -, hrB⟩ := b7o.open_ (by intro e; rw [e] at hbc; have h0 : cs.length ≤ 0 := hbc; omega)
  injection hvA with e1 _ e2
  subst e1 e2
  injection hvB with e1 _ e2
  subst e1 e2
  have hT : Two2 w7 w AS cs GA a (some ⟨GB, 0, none⟩) b := ⟨hbW, c7, hrA, hrB, HAF.out, HBF.out, HAW.out, HBW.out⟩
  have HSC := Lib.hid (schOk_of hs1 hs4 HOK.out)
  clear stA hst2 hst4 hst6 hst7 x1 x2 x4 c4 c6 a6 hA hB hb1 HSG HOK z1 z2 z4 z6 z7 ht1 hS a7o b7o
  have i1 : (0 : Int) ≤ (m : Int) := by omega
  have i2 : (m : Int) ≤ (a.length : Int) := by omega
  have i3 : (m : Int) ≤ (cA : Int) := by omega
  have i4 : (m : Int) ≤ (b.length : Int) := by omega
  have i5 : (b.length : Int) ≤ (cB : Int) := by omega
  have i6 : (a.length : Int) ≤ (cA : Int) := by omega
  have i7 : (m : Int) ≤ (cB : Int) := by omega
  have hm3 : m ≤ a.length := by omega
  go_upto_if 34 with fail
  go_cut [8] (fun s8 wx => ∃ (A9 : Option Addr) (c9 : Nat) (b9 : List Fd), s8 = .slice A9 b9.length c9 ∧ b9.length ≤ 1000 ∧ b9.length ≤ c9 ∧ Hid (Two2 wx w AS cs GA a A9 b9 ∧ b9.length = cs.length))
  case first =>
    cases q
    · go_wp2_with fail
      go_meet
      exact ⟨_, cB, b, rfl, by omega, by omega, Lib.hid ⟨hT, HBL.out⟩⟩
    · have HT := Lib.hid hT
      by_cases hcn : cB = m
      · have hdr : Fds w7 w7.heap.size (some ⟨GB, 0, none⟩) (b.drop m) := by
          rw [List.drop_eq_nil_of_le (by omega)]
          exact Fds.nil _
        subst hcn
        go_wp2_with fail
        have hbe := ((Below.refl w7.heap.size w7).alloc (Nat.le_refl _) (.cells #[] 98)).drew
        have hEm : OwnF (w7.alloc (.cells #[] 98)).drew w7.heap.size (.slice (some ⟨w7.heap.size, 0, none⟩) 0 0) [] := OwnF.empty w7
        have ha9 := (hrA.take cB).below hbe
        have q1 : 0 + cB ≤ 1000000 := by omega
        have q2 : w7.heap.size ≤ (World.drew (World.alloc w7 (.cells #[] 98))).heap.size := hbe.size
        have q3 : ([] ++ a.take cB).length + 0 ≤ 1000000 := by simp; omega
        have HD := Lib.hid hdr
        have QL := Lib.hid (show (b.drop cB).length = 0 by simp; try omega)
        have QM := Lib.hid (show (a.take cB).length = cB by simp; omega)
        go_region_held3 (fun w' => Below w7.heap.size w7 w') (first | with_reducible exact hb10 | with_reducible exact hb9 | with_reducible exact hbe | with_reducible exact (Below.refl _ _).drew | with_reducible assumption) (first | (refine step_pushFs (w := World.drew (World.alloc w7 (.cells #[] 98))) (o := ⟨some 39, _, _, _, _, _⟩) rfl (.tmp 35) (.tmp 38) 24 (by rfl) w7.heap.size inf Tryd.underlying24 hif hif1 hif2 hif3 (.slice (some ⟨w7.heap.size, 0, none⟩) 0 0) [] (by simp [Act.eval]) hEm w7.heap.size (some ⟨GA, 0, none⟩) (a.take cB) cB cA QM.out (by simp [Act.eval]) ha9 q1 q2 ?_; intro v1 wa ho1 hba; have hb9 := hbe.trans hba) | (refine step_pushFs (w := wa) (o := ⟨some 43, _, _, _, _, _⟩) rfl (.tmp 39) (.tmp 42) 24 (by rfl) w7.heap.size inf Tryd.underlying24 hif hif1 hif2 hif3 v1 ([] ++ a.take cB) (by simp [Act.eval]) ho1 w7.heap.size (some ⟨GB, 0, none⟩) (b.drop cB) 0 0 QL.out (by simp [Act.eval]) (HD.out.below hb9) q3 hb9.size ?_; intro v2 wb ho2 hbb; have hb10 := hb9.trans hbb))
        all_goals
          obtain ⟨G3, c3, rfl, -, -, hc3, -, hr3⟩ := ho2.open_ (by intro e; have h9 := congrArg List.length e; rw [List.length_append, List.length_append, List.length_take, List.length_drop] at h9; simp only [List.length_nil] at h9; omega)
          obtain ⟨b9, hb9e⟩ : ∃ b9, b9 = [] ++ a.take cB ++ b.drop cB := ⟨_, rfl⟩
          rw [← hb9e] at ho2 hr3 hc3 ⊢
          have hl9 : b9.length ≤ 1000 := by rw [hb9e]; simp; omega
          have HT9 : Hid (Two2 wb w AS cs GA a (some ⟨G3, 0, none⟩) b9 ∧ b9.length = cs.length) := Lib.hid (by
            refine ⟨?_, ?_⟩
            · subst hb9e; exact two2_app HT.out hb10 cB hr3 hm3
            · rw [hb9e]; simp; omega)
          clear hb9e
          go_wp2_with fail
          go_meet
          exact ⟨some ⟨G3, 0, none⟩, c3, b9, rfl, hl9, hc3, HT9⟩
      · have hdr := hrB.cut m
        go_wp2_with fail
        have hbe := ((Below.refl w7.heap.size w7).alloc (Nat.le_refl _) (.cells #[] 98)).drew
        have hEm : OwnF (w7.alloc (.cells #[] 98)).drew w7.heap.size (.slice (some ⟨w7.heap.size, 0, none⟩) 0 0) [] := OwnF.empty w7
        have ha9 := (hrA.take m).below hbe
        have q1 : 0 + m ≤ 1000000 := by omega
        have q2 : w7.heap.size ≤ (World.drew (World.alloc w7 (.cells #[] 98))).heap.size := hbe.size
        have q3 : ([] ++ a.take m).length + (b.length - m) ≤ 1000000 := by simp; omega
        have HD := Lib.hid hdr
        have QL := Lib.hid (show (b.drop m).length = (b.length - m) by simp; try omega)
        have QM := Lib.hid (show (a.take m).length = m by simp; omega)
        go_region_held3 (fun w' => Below w7.heap.size w7 w') (first | with_reducible exact hb10 | with_reducible exact hb9 | with_reducible exact hbe | with_reducible exact (Below.refl _ _).drew | with_reducible assumption) (first | (refine step_pushFs (w := World.drew (World.alloc w7 (.cells #[] 98))) (o := ⟨some 39, _, _, _, _, _⟩) rfl (.tmp 35) (.tmp 38) 24 (by rfl) w7.heap.size inf Tryd.underlying24 hif hif1 hif2 hif3 (.slice (some ⟨w7.heap.size, 0, none⟩) 0 0) [] (by simp [Act.eval]) hEm w7.heap.size (some ⟨GA, 0, none⟩) (a.take m) m cA QM.out (by simp [Act.eval]) ha9 q1 q2 ?_; intro v1 wa ho1 hba; have hb9 := hbe.trans hba) | (refine step_pushFs (w := wa) (o := ⟨some 43, _, _, _, _, _⟩) rfl (.tmp 39) (.tmp 42) 24 (by rfl) w7.heap.size inf Tryd.underlying24 hif hif1 hif2 hif3 v1 ([] ++ a.take m) (by simp [Act.eval]) ho1 w7.heap.size (some ⟨GB, m * 3, none⟩) (b.drop m) (b.length - m) (cB - m) QL.out (by simp [Act.eval]) (HD.out.below hb9) q3 hb9.size ?_; intro v2 wb ho2 hbb; have hb10 := hb9.trans hbb))
        all_goals
          obtain ⟨G3, c3, rfl, -, -, hc3, -, hr3⟩ := ho2.open_ (by intro e; have h9 := congrArg List.length e; rw [List.length_append, List.length_append, List.length_take, List.length_drop] at h9; simp only [List.length_nil] at h9; omega)
          obtain ⟨b9, hb9e⟩ : ∃ b9, b9 = [] ++ a.take m ++ b.drop m := ⟨_, rfl⟩
          rw [← hb9e] at ho2 hr3 hc3 ⊢
          have hl9 : b9.length ≤ 1000 := by rw [hb9e]; simp; omega
          have HT9 : Hid (Two2 wb w AS cs GA a (some ⟨G3, 0, none⟩) b9 ∧ b9.length = cs.length) := Lib.hid (by
            refine ⟨?_, ?_⟩
            · subst hb9e; exact two2_app HT.out hb10 m hr3 hm3
            · rw [hb9e]; simp; omega)
          clear hb9e
          go_wp2_with fail
          go_meet
          exact ⟨some ⟨G3, 0, none⟩, c3, b9, rfl, hl9, hc3, HT9⟩
  case rest =>
    obtain ⟨A9, c9, b9, rfl, hl9, hc9, HT9⟩ := hcut
    obtain ⟨⟨hB9, hC, hA9, hBb, haf, hbf, haw, hbw⟩, hb9l⟩ := HT9.out
    have hsc := HSC.out
    have hla : (a.take m).length = m := by simp; omega
    have hlb : (b9.take m).length = m := by simp; omega
    have E1 := encode_any AS A9 cs b9 cS c9 wc hC hBb (by omega) hbw
    have P1 := fun (W : World) (k : Below wc.heap.size wc W) => prefix_any AS (some ⟨GA, 0, none⟩) cs (a.take m) cS cA W ((hC.below k).more k.size) (((hA9.take m).below k).more k.size) (by omega) (fun i hi => by rw [List.getElem_take]; exact haw i (by simp at hi; omega))
    have S1 := fun (W : World) (k : Below wc.heap.size wc W) => same_lists (some ⟨GA, 0, none⟩) A9 (a.take m) (b9.take m) cA c9 W (((hA9.take m).below k).more k.size) (((hBb.take m).below k).more k.size) (by omega)
    rw [hla] at P1 S1
    rw [hlb] at S1
    have hwa : ∀ f ∈ a.take m, f.wide := fun f hf => by
      obtain ⟨i, hi, rfl⟩ := List.mem_iff_getElem.1 hf
      rw [List.getElem_take]
      exact haw i (by simp at hi; omega)
    have hwb : ∀ f ∈ b9, f.wide := fun f hf => by
      obtain ⟨i, hi, rfl⟩ := List.mem_iff_getElem.1 hf
      exact hbw i hi
    have hpre := encR_pre cs (a.take m) b9 (fitsR_take cs a m haf) hbf hwa hwb (by omega)
    rw [hla] at hpre
    by_cases hb64 : (encR cs b9).length ≤ 64
    · by_cases ha64 : (encR cs (a.take m)).length ≤ 64
      · rw [enc_short hsc hbf hb64] at E1
        have hpv : preV cs (a.take m) = (Rg.pre ⟨(encR cs (a.take m)).toArray⟩, 0) := by
          unfold preV
          rw [enc_short hsc (fitsR_take cs a m haf) ha64]
          rfl
        rw [hpv] at P1
        have hvp : vk (⟨(encR cs (a.take m)).toArray⟩ : ByteArray) = true := by unfold vk; exact decide_eq_true ha64
        have hvx : vk (⟨(encR cs b9).toArray⟩ : ByteArray) = true := by unfold vk; exact decide_eq_true hb64
        have hhas := pre_has (p := ⟨(encR cs (a.take m)).toArray⟩) (x := ⟨(encR cs b9).toArray⟩) hvp
        rw [hvx, Bool.true_and] at hhas
        have hsame : sameL (a.take m) (b9.take m) = (Rg.pre ⟨(encR cs (a.take m)).toArray⟩).has ⟨(encR cs b9).toArray⟩ := by
          rw [hhas, Bool.eq_iff_iff, sameL_iff, decide_eq_true_iff]
          exact hpre.symm
        rw [hsame] at S1
        have K1 := fun (W : World) => has_key (Rg.pre ⟨(encR cs (a.take m)).toArray⟩) ⟨(encR cs b9).toArray⟩ W
        generalize (Rg.pre ⟨(encR cs (a.take m)).toArray⟩).has ⟨(encR cs b9).toArray⟩ = β at *
        generalize Rg.pre ⟨(encR cs (a.take m)).toArray⟩ = r at *
        generalize (⟨(encR cs b9).toArray⟩ : ByteArray) = x at *
        obtain ⟨⟨rk1, rt1⟩, ⟨rk2, rt2⟩⟩ := r
        have HE := Lib.hid E1
        have HP := Lib.hid P1
        have HS := Lib.hid S1
        have HK := Lib.hid K1
        have hbb : (β == β) = true := by simp
        have j1 : (m : Int) ≤ (b9.length : Int) := by omega
        have j2 : (0 : Int) ≤ (m : Int) := by omega
        have j3 : (m : Int) ≤ (cA : Int) := by omega
        have HL9 := Lib.hid hb9l
        have j4 : (m : Int) ≤ (c9 : Int) := by omega
        have j5 : (b9.length : Int) ≤ (c9 : Int) := by omega
        clear E1 P1 S1 K1 HT9 hC hA9 hBb haf hbf haw hbw hwa hwb hsc ha64 hb64 HAF HBF HAW HBW HSC hsame hhas hpre hpv hvp hvx hla hlb hb9l HAL HBL
        go_wp2_with fail
        refine (HE.out).mono ?_
        rintro e w8 ⟨rfl, hb8⟩
        clear HE
        go_wp2_with fail
        refine (HP.out _ hb8).mono ?_
        rintro e w9 ⟨rfl, hb9⟩
        have hb9' := hb8.trans (hb9.mono hb8.size)
        clear HP
        have hN := Has.new w9 51 #[.string rk1, .bool rt1, .string rk2, .bool rt2]
        have hb10 := hb9'.alloc hb9'.size (.cells #[.string rk1, .bool rt1, .string rk2, .bool rt2] 51)
        go_wp2_with fail
        generalize w9.alloc (.cells #[.string rk1, .bool rt1, .string rk2, .bool rt2] 51) = W0 at hN hb10 ⊢
        generalize w9.heap.size = D at *
        have hd0 := (Below.refl W0.heap.size W0).drew
        have hd1 := Below.refl W0.heap.size W0
        have rB := fun (w' : World) (h : Below W0.heap.size W0 w') => (Has.below hN h).cell
        clear hb8 hb9 hb9' hN
        go_region_held3 (fun w' => Below W0.heap.size W0 w')
          (first | with_reducible exact hS3 | with_reducible exact hS2 | with_reducible exact hS1 | with_reducible assumption)
          (first | (go_at_call 32; refine (HK.out _).mono ?_; rintro e w11 ⟨rfl, hb11⟩; have hS1 := Below.trans (show Below W0.heap.size W0 _ by assumption) (hb11.mono (Below.size (show Below W0.heap.size W0 _ by assumption))))
                 | (go_at_call 27; refine (HS.out _ (hb10.trans (Below.mono (show Below W0.heap.size W0 _ by assumption) hb10.size))).mono ?_; rintro e w12 ⟨rfl, hb12⟩; have hS2 := Below.trans (show Below W0.heap.size W0 _ by assumption) (hb12.mono (Below.size (show Below W0.heap.size W0 _ by assumption))))
                 | (go_at_call 22; refine (sane_any _).mono ?_; rintro e w13 ⟨rfl, hb13⟩; have hS3 := Below.trans (show Below W0.heap.size W0 _ by assumption) (hb13.mono (Below.size (show Below W0.heap.size W0 _ by assumption)))))
        all_goals
          go_wp2
          go_ret
          exact ⟨rfl, hB9.trans ((hb10.trans (hS3.mono hb10.size)).mono hB9.size)⟩
      · have hpv : preV cs (a.take m) = (Rg.zero, 3) := by
          unfold preV
          rw [enc_long hsc (fitsR_take cs a m haf) ha64]
          rfl
        rw [hpv] at P1
        rw [enc_short hsc hbf hb64] at E1
        generalize (⟨(encR cs b9).toArray⟩ : ByteArray) = x at *
        have HE := Lib.hid E1
        have HP := Lib.hid P1
        have j1 : (m : Int) ≤ (b9.length : Int) := by omega
        have j2 : (0 : Int) ≤ (m : Int) := by omega
        have j3 : (m : Int) ≤ (cA : Int) := by omega
        clear E1 P1 S1 HT9 hC hA9 hBb haf hbf haw hbw hwa hwb hsc ha64 hb64 HAF HBF HAW HBW HSC hpre hpv hla hlb hb9l HAL HBL
        go_wp2_with fail
        refine (HE.out).mono ?_
        rintro e w8 ⟨rfl, hb8⟩
        clear HE
        go_wp2_with fail
        refine (HP.out _ hb8).mono ?_
        rintro e w9 ⟨rfl, hb9⟩
        have hb9' := hb8.trans (hb9.mono hb8.size)
        have hb10 := hb9'.alloc hb9'.size (.cells #[.string ByteArray.empty, .bool false, .string ByteArray.empty, .bool false] 51)
        clear HP
        go_wp2_with fail
        refine (sane_any _).mono ?_
        rintro e w10 ⟨rfl, hb11⟩
        go_wp2_with fail
        go_ret
        exact ⟨rfl, hB9.trans ((hb10.trans (hb11.mono hb10.size)).mono hB9.size)⟩
    · rw [enc_long hsc hbf hb64] at E1
      have HE := Lib.hid E1
      have HP := Lib.hid P1
      generalize preV cs (a.take m) = V at *
      obtain ⟨⟨⟨k1, t1⟩, ⟨k2, t2⟩⟩, f⟩ := V
      have j1 : (m : Int) ≤ (b9.length : Int) := by omega
      have j2 : (0 : Int) ≤ (m : Int) := by omega
      have j3 : (m : Int) ≤ (cA : Int) := by omega
      clear E1 P1 S1 HT9 hC hA9 hBb haf hbf haw hbw hwa hwb hsc hb64 HAF HBF HAW HBW HSC hpre hla hlb hb9l HAL HBL
      go_wp2_with fail
      refine (HE.out).mono ?_
      rintro e w8 ⟨rfl, hb8⟩
      clear HE
      go_wp2_with fail
      refine (HP.out _ hb8).mono ?_
      rintro e w9 ⟨rfl, hb9⟩
      have hb9' := hb8.trans (hb9.mono hb8.size)
      have hb10 := hb9'.alloc hb9'.size (.cells #[.string k1, .bool t1, .string k2, .bool t2] 51)
      clear HP
      go_wp2_with fail
      refine (sane_any _).mono ?_
      rintro e w10 ⟨rfl, hb11⟩
      go_wp2_with fail
      go_ret
      exact ⟨rfl, hB9.trans ((hb10.trans (hb11.mono hb10.size)).mono hB9.size)⟩
end Go.Proofs.YtlnmpiigmedgkaaDoor
