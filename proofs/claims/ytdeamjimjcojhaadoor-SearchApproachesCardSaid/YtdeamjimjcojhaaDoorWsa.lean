/-
  The walk of SearchApproaches: from whatever numbers it answers true and only makes memory. Conditions: the arguments can be read; 'letters' and the table of trailing zeros are as their initialisers lay them.
-/
import Derived.Test.YtdeamjimjcojhaaDoorLuN
import Derived.Test.YtdeamjimjcojhaaDoorLnC
import Derived.Test.YtdeamjimjcojhaaDoorLgJ
import Derived.Test.YtdeamjimjcojhaaDoorKhU
import Derived.Test.YtdeamjimjcojhaaDoorLdX
import Derived.Test.YtdeamjimjcojhaaDoorKqJ
import Derived.Deep.DeepCutAuto
import Derived.Deep.CutBlock
import Derived.Deep.RegionHeld3
import Derived.BigRegion
import Derived.BigQuiet
namespace Go.Proofs.YtdeamjimjcojhaaDoor
open Go.RowKit


/-- Hops one after another from x on, at levels that never increase. -/
def Chn (l : List Nd) (q : ByteArray) (r : Bool) : Nd → Int → List Hp → Prop
  | _, _, [] => True
  | x, lv, h :: t => ∃ y ∈ l, h.src = x.id ∧ h.dst = y.id ∧ 0 ≤ h.lvl ∧ h.lvl ≤ lv ∧ ((far r x y = true ∧ kl q y.key = !r) ∨ (t = [] ∧ r = false ∧ h.lvl = 0 ∧ kl q y.key = false ∧ kl y.key x.key = true)) ∧ Chn l q r y h.lvl t
section
variable {l : List Nd} {k : List Ld} {q : ByteArray} {r : Bool}
theorem chn_rt : ∀ (x : Nd) (L : Nat) (S : List Hp) (lv : Int), 0 ≤ lv → (L : Int) - 1 ≤ lv → (∀ lv : Int, 0 ≤ lv → Chn l q r (rtW l k q r x L).2 lv S) → Chn l q r x lv ((rtW l k q r x L).1 ++ S) :=
  rt_ind (P := fun x L => ∀ (S : List Hp) (lv : Int), 0 ≤ lv → (L : Int) - 1 ≤ lv → (∀ lv : Int, 0 ≤ lv → Chn l q r (rtW l k q r x L).2 lv S) → Chn l q r x lv ((rtW l k q r x L).1 ++ S))
    (fun x S lv h0 _ hS => by
      rw [rt_zero] at hS ⊢
      exact hS lv h0)
    (fun x t e i S lv h0 h1 hS => by
      rw [rt_down e] at hS ⊢
      exact i S lv h0 (by omega) hS)
    (fun x t y e i S lv h0 h1 hS => by
      rw [rt_hop e] at hS ⊢
      obtain ⟨hy, _, _, hf, hk⟩ := nxO_some e
      exact ⟨y, hy, rfl, rfl, by simp only; omega, by simp only; omega, .inl ⟨hf, hk⟩, i S (t : Int) (by omega) (by omega) hS⟩)
theorem chn_len : ∀ (H : List Hp) (x : Nd) (lv : Int), Chn l q r x lv H → H.length ≤ dsV r l x
  | [], _, _, _ => Nat.zero_le _
  | h :: t, x, lv, hc => by
    obtain ⟨y, hy, _, _, _, _, hd, ht⟩ := hc
    have hf : far r x y = true := by
      rcases hd with ⟨h1, _⟩ | ⟨_, h2, _, _, h5⟩
      · exact h1
      · subst h2; exact h5
    have h1 := chn_len t y _ ht
    have h2 : dsV r l y < dsV r l x := flt_lt (fun z _ hz => far_trans hf hz) ⟨y, hy, hf, far_irrefl _ _⟩
    simp only [List.length_cons]
    omega
theorem chn_rte {x : Nd} (hx : x ∈ l) : Chn l q (!kl q x.key) x 16 (rteW l k q x) ∧ (rteW l k q x).length < l.length := by
  have h : Chn l q (!kl q x.key) x 16 (rteW l k q x) := by
    unfold rteW
    refine chn_rt x 17 _ 16 (by omega) (by omega) fun lv hlv => ?_
    have hs := rt_side (l := l) (k := k) (q := q) (r := !kl q x.key) x 17 (by simp)
    generalize (rtW l k q (!kl q x.key) x 17).2 = z at *
    unfold lstO
    split
    · rename_i h1
      obtain ⟨h2, h3, h4⟩ := h1
      refine ⟨_, (fnd_in h3).1, rfl, rfl, by simp, hlv, .inr ⟨rfl, h2, rfl, h4, ?_⟩, trivial⟩
      rw [h2] at hs
      cases hk : kl (fndV l (atV k z.id 0).left).key z.key with
      | true => rfl
      | false =>
        have := kl_ntrans h4 hk
        rw [this] at hs
        cases hs
    · trivial
  refine ⟨h, ?_⟩
  have h1 := chn_len _ _ _ h
  have h2 : dsV (!kl q x.key) l x < (l.filter fun _ => true).length := flt_lt (fun _ _ _ => rfl) ⟨x, hx, rfl, far_irrefl _ _⟩
  rw [List.filter_eq_self.2 (fun _ _ => rfl)] at h2
  omega
end
theorem geq_neg (a b : ByteArray) : (!Op.bytesLess a.toList b.toList) = !kl a b := rfl
theorem TStep.tape {a b : World} {g : Nat} (h : TStep a g b) : Tape b g := h.1
theorem TStep.drew' {a b : World} {g : Nat} (h : TStep a g b) : TStep a g b.drew := h.below (Below.refl _ _).drew
theorem leq_kl (a b : ByteArray) : (Op.bytesLess a.toList b.toList || a.toList == b.toList) = !kl b a := by rw [← gtr_kl a b, Bool.not_not]
theorem set3s {w : World} {X : Nat} {t : TypeId} {a0 a1 a2 : Value} (h : Has w X t #[a0, a1, a2]) (b0 b1 b2 : Value) : Has (((w.setCell ⟨X, 0, none⟩ b0).setCell ⟨X, 1, none⟩ b1).setCell ⟨X, 2, none⟩ b2) X t #[b0, b1, b2] :=
  ((h.set_ 0 b0).set_ 1 b1).set_ 2 b2
set_option maxRecDepth 100000 in
set_option maxHeartbeats 6400000 in
theorem approaches_walk (A : Option Addr) (n0 cp : Nat) (w : World) (hL : Lets w) (hT : Deb w) (hnc : n0 ≤ cp) (hc : cp ≤ maxLen) (hN : Nums w w.heap.size A n0) :
    Calls Tryd.prog 6 #[.slice A n0 cp] w (LawP w) := by
  have HSA := Lib.hid (fun (W : World) (j : Below w.heap.size w W) => sane8_any W (hT.below j))
  go_enter Tryd.func6, Tryd.ntmps6
  go_wp2_with fail
  refine (new_any A n0 cp _ hnc hc hN).mono ?_
  rintro e w1 ⟨g, hg1, rfl, hTp, hb1⟩
  have hne2 : 0 ≠ g := by have := hL.lt; omega
  have l1 := hL.below hb1
  clear hN hnc hc hL hT
  go_wp2_with fail
  refine (some_any 8 g w1 (by omega) (by omega) hTp l1 hne2).mono ?_
  rintro e w2 ⟨A2, c2, l, rfl, ho, hl0, hl8, hchk, hst⟩
  have hB2 : Below w.heap.size w w2 := hb1.grown hst.2 hb1.size (fun j e => by have := Option.some.inj e; omega)
  have hg2 : g < w1.heap.size := hTp.lt
  obtain ⟨G, c, er, hGb, hGl, hcap, hcap2, hnd⟩ := ho.open_ hl0
  injection er with e1 _ e2
  subst e1 e2
  have hA2 : ∀ b o, (some ⟨G, 0, none⟩ : Option Addr) = some ⟨b, o, none⟩ → b ≠ g := fun b o e => by injection e with e; injection e with e1 _; omega
  have hwide : ∀ x ∈ l, x.wide := wide_of hchk
  have HL2 := Lib.hid (l1.step hne2 hst)
  have HB2 := Lib.hid hB2
  have HST := Lib.hid hst
  have HND := Lib.hid hnd
  have hln1 : 1 ≤ l.length := List.length_pos_iff.2 hl0
  obtain ⟨n, hn⟩ : ∃ n, n = l.length := ⟨_, rfl⟩
  have HN := Lib.hid hn
  have hln : l.length ≤ 64 := (chkV_zero.1 hchk).1
  have HTL := Lib.hid (fun (W : World) (m : Nat) (hm : m ≤ 16) (ht : Tape W g) (hn : Nds W W.heap.size (some ⟨G, 0, none⟩) l) => tlinks_any (some ⟨G, 0, none⟩) l c2 (m : Int) 6 g W ht hn (by omega) hA2 hwide (by omega) (by omega))
  have HRT := Lib.hid (fun (W : World) (hn : Nds W W.heap.size (some ⟨G, 0, none⟩) l) (k : List Ld) (A5 : Option Addr) (c5 : Nat) (h5 : Lds W W.heap.size A5 k) (hI : ∀ x ∈ k, -9223372036854775808 ≤ x.id ∧ x.id ≤ 9223372036854775807) (hkn : k.length ≤ maxLen) (hw : ∀ (i : Int) (t : Nat), I64 (atV k i (t : Int)).left ∧ I64 (atV k i (t : Int)).right) (id : Int) (hid : I64 id) (q : ByteArray) => routeK_any (some ⟨G, 0, none⟩) A5 l k c2 c5 id q W hn h5 hI hkn (fun x hx => (hwide x hx).2) hid hw)
  have HFD := Lib.hid (fun (W : World) (hn : Nds W W.heap.size (some ⟨G, 0, none⟩) l) (x : Nd) (hx : x ∈ l) => (by
    have h1 := find_any (some ⟨G, 0, none⟩) l c2 x.id W hn (by omega)
    unfold FndP at h1
    rw [fnd_self (chkV_zero.1 hchk).2.2 hx, decide_eq_true (plc_mem hx)] at h1
    exact h1 : Calls Tryd.prog 33 #[.slice (some ⟨G, 0, none⟩) l.length c2, .int .i64 x.id] W fun e w' => e = .returned (.tuple #[x.val, .bool true]) ∧ Below W.heap.size W w'))
  have HCH := Lib.hid (fun (k : List Ld) (q : ByteArray) (x : Nd) (hx : x ∈ l) (hv : vk q = true) => (by
    have e1 := rteE_ok (l := l) (id := x.id) hchk hv (plc_mem hx)
    have h2 := chn_rte (l := l) (k := k) (q := q) hx
    refine ⟨e1, ?_⟩
    rw [rteR_ok e1, fnd_self (chkV_zero.1 hchk).2.2 hx]
    exact h2 : rteE l x.id q = 0 ∧ Chn l q (!kl q x.key) x 16 (rteR l k x.id q) ∧ (rteR l k x.id q).length < l.length))
  have HWI := Lib.hid (fun (x : Nd) (hx : x ∈ l) => (hwide x hx).1)
  rw [← hn] at hl8 hln1 hcap HTL HRT HFD HCH ⊢
  clear hn l1 hTp hb1 ho hst hB2 hnd hwide hl0 hchk hcap2 hGb hGl hln
  go_wp2_with fail
  refine (next_any g 4 w2 HST.out.1 (by omega)).mono ?_
  rintro e w4 ⟨r, r0, r1, rfl, hst4⟩
  obtain ⟨m, rfl⟩ : ∃ m : Nat, r = (m : Int) := ⟨r.toNat, by omega⟩
  have hm16 : m ≤ 16 := by omega
  have HND4 := Lib.hid (nds_step HND.out hA2 hst4)
  have HLK := Lib.hid (HTL.out w4 m hm16 hst4.1 HND4.out)
  have HB4 := Lib.hid (HB2.out.grown hst4.2 HB2.out.size (fun j e => by have := Option.some.inj e; omega))
  have HL4 := Lib.hid (HL2.out.step hne2 hst4)
  have HG4 := Lib.hid (show g < w4.heap.size from by have := hst4.2.size; have := HST.out.2.size; omega)
  clear r0 r1 hst4 HND HB2 HL2 HST HTL hg2
  go_wp2_with fail
  refine (HLK.out).mono ?_
  rintro e w5 ⟨v5, n5, rfl, hn5, ho5, hst5⟩
  obtain ⟨ks, hrd5, hks, hw5⟩ := ho5.toRd
  obtain ⟨A5, c5, hv5, _⟩ := hrd5.read
  have HND5 := Lib.hid (nds_step HND4.out hA2 hst5)
  have HB5 := Lib.hid (HB4.out.grown hst5.2 HB4.out.size (fun j e => by have := Option.some.inj e; omega))
  have HL5 := Lib.hid (HL4.out.step hne2 hst5)
  have hTP5 := hst5.1
  have hG5 : g < w5.heap.size := by have := hst5.2.size; have := HG4.out; omega
  have HKL : Hid (ks.length ≤ maxLen) := Lib.hid (by rw [hks]; unfold maxLen; omega)
  have HW5 : Hid (∀ x ∈ ks, I64 x.id ∧ ∀ y ∈ x.levels, LkW y) := Lib.hid fun x hx => ⟨(hw5 x hx).1, (hw5 x hx).2.2⟩
  have HR5 : Hid (∀ W, TStep w5 g W → Lds W W.heap.size A5 ks) := Lib.hid fun W k => by
    obtain ⟨A6, c6, e6, h6⟩ := (hrd5.keep (KpA.step HG4.out k) (Nat.le_refl _)).read
    rw [hv5] at e6
    injection e6 with e7
    rw [e7]
    exact h6
  have HRX := Lib.hid (fun (W : World) (k : TStep w5 g W) (id : Int) (hid : I64 id) (q : ByteArray) => HRT.out W (nds_step HND5.out hA2 k) ks A5 c5 (HR5.out W k) (fun x hx => (HW5.out x hx).1) HKL.out (fun i t => atV_wide8 (fun x hx y hy => (HW5.out x hx).2 y hy) i (t : Int)) id hid q)
  have HCHK := Lib.hid (HCH.out ks)
  have HCL : Hid (∀ (j : Nat) (hj : j < n), ∃ x ∈ l, ∀ W, TStep w5 g W → W.cell? ⟨G, j * 3, none⟩ = some (.int .i64 x.id)) := Lib.hid fun j hj => by
    have j2 : j < l.length := by rw [← HN.out]; exact hj
    refine ⟨l[j], List.getElem_mem j2, fun W k => ?_⟩
    obtain ⟨b, o, e, hb, f1, -, -⟩ := (nds_step HND5.out hA2 k).at_ j2
    injection e with e
    injection e with e1 e2 _
    subst e1 e2
    rw [Nat.zero_add] at f1
    exact f1
  have HLT : Hid (∀ W, TStep w5 g W → Lets W) := Lib.hid fun W k => HL5.out.step hne2 k
  have HBF : Hid (∀ W, TStep w5 g W → Below w.heap.size w W) := Lib.hid fun W k => HB5.out.grown k.2 HB5.out.size (fun j e => by have := Option.some.inj e; omega)
  obtain ⟨kn, hkk⟩ : ∃ kn, kn = ks.length := ⟨_, rfl⟩
  rw [← hkk] at hv5 HRX
  subst hv5
  have hS5 := TStep.refl hTP5
  clear hTP5 hst5 ho5 hrd5 hks hw5 HND4 HB4 HL4 HLK HRT HG4 HR5 HW5 HKL HCH hkk hn5
  go_upto_region 4 with fail
  go_cut [6, 7] (fun s6 s7 wx => ∃ (x : Nd) (key : ByteArray), s6 = .int .i64 x.id ∧ s7 = .string key ∧ x ∈ l ∧ vk key = true ∧ TStep w5 g wx)
  case first =>
    go_region_held3 (fun W => TStep w5 g W)
      (first | with_reducible exact hS1 | with_reducible exact hS5.drew' | with_reducible assumption)
      (first | (go_at_call 12; refine (next_any g n _ (TStep.tape (show TStep w5 g _ by assumption)) (by omega)).mono ?_; rintro e w6 ⟨r6, s6, t6, rfl, hst⟩; have hS1 := TStep.trans (show TStep w5 g _ by assumption) hst; obtain ⟨j6, hjr6, hjn6⟩ : ∃ j : Nat, r6 = (j : Int) ∧ j < n := ⟨r6.toNat, by omega, by omega⟩; subst hjr6; have k60 : (0 : Int) ≤ (j6 : Int) := (by omega); have k61 : (j6 : Int) < (n : Int) := (by omega); obtain ⟨⟨xi6, xk6, xw6⟩, hxl6, hcell⟩ := HCL.out j6 hjn6; clear hst s6 t6) | (go_at_call 31; refine (key_any g _ (TStep.tape (show TStep w5 g _ by assumption)) (HLT.out _ (by assumption)) hne2).mono ?_; rintro e w8 ⟨key, hkey, rfl, hst⟩; have hS1 := TStep.trans (show TStep w5 g _ by assumption) hst; clear hst))
    all_goals
      go_wp2_with fail
      go_meet
      exact ⟨⟨xi6, xk6, xw6⟩, key, rfl, rfl, hxl6, (by simp only [vk, decide_eq_true_eq]; exact hkey), by first | with_reducible assumption | with_reducible exact TStep.drew' ‹_›⟩
  case rest =>
    obtain ⟨x, q, rfl, rfl, hx, hv, hts⟩ := hcut
    obtain ⟨e1, hch, hlen⟩ := HCHK.out q x hx hv
    have HR1 := Lib.hid (HRX.out wc hts x.id (HWI.out x hx) q)
    rw [e1] at HR1
    have HFX := Lib.hid (fun (W : World) (k : TStep w5 g W) => HFD.out W (nds_step HND5.out hA2 k) x hx)
    have HFY := Lib.hid (fun (W : World) (k : TStep w5 g W) (y : Nd) (hy : y ∈ l) => HFD.out W (nds_step HND5.out hA2 k) y hy)
    generalize rteR l ks x.id q = H at *
    obtain ⟨r, hr⟩ : ∃ r, r = !kl q x.key := ⟨_, rfl⟩
    rw [← hr] at hch
    have HR0 := Lib.hid hr
    obtain ⟨N, hNN⟩ : ∃ N, N = H.length := ⟨_, rfl⟩
    have HNN := Lib.hid hNN
    have hlen2 : N < n := by rw [hNN]; exact hlen
    have HC0 := Lib.hid hch
    have HTS := Lib.hid hts
    have HN64 : Hid (l.length ≤ 64) := Lib.hid (by have := HN.out; omega)
    obtain ⟨xi, xk, xw⟩ := x
    simp only at HR0 HR1 HFX
    clear HRX HCHK HWI HFD HCL HLT HL5 hch hlen e1 hx hv hts hr hS5
    go_wp2_with fail
    refine (HR1.out).mono ?_
    rintro e w6 ⟨v6, rfl, ho6, hb6⟩
    obtain ⟨A6, c6, hv6, hr6⟩ := ho6.read
    rw [← hNN] at hv6
    subst hv6
    have HT6 := Lib.hid (HTS.out.below hb6)
    have HR6 := Lib.hid hr6
    clear ho6 hb6 hr6 HR1 HTS hNN
    go_wp2_with fail
    refine (HFX.out w6 HT6.out).mono ?_
    rintro e w7 ⟨rfl, hb7⟩
    have hbX := (Below.refl w7.heap.size w7).alloc (Nat.le_refl _) (.cells #[.int .i64 xi, .string xk, .int .u32 (xw : Int)] 51)
    have HX8 := Lib.hid (Has.new w7 51 #[.int .i64 xi, .string xk, .int .u32 (xw : Int)])
    have HT7 := Lib.hid (HT6.out.below hb7)
    have HR7 := Lib.hid ((HR6.out.below hb7).more hb7.size)
    have HB8 := Lib.hid hbX
    have x1 := HX8.out.cell 1
    obtain ⟨X, hX⟩ : ∃ X, X = w7.heap.size := ⟨_, rfl⟩
    have HXE := Lib.hid hX
    rw [← hX] at HX8
    have hsq : (!(Op.bytesLess q.toList xk.toList)) = r := by rw [HR0.out]; rfl
    have hgn : ¬ (n : Int) ≤ (N : Int) := by omega
    have hgm : ¬ n ≤ N := by omega
    have hgq : decide (n ≤ N) = false := decide_eq_false hgm
    clear hb7 hbX HT6 HR6 HFX
    go_wp2_with fail
    rw [← hX]
    clear hX x1
    go_loopw [13, 14] (fun vl vi wr => ∃ (i : Nat) (lv : Int) (x : Nd), vi = .int .i64 (i : Int) ∧ vl = .int .i64 lv ∧ i ≤ N ∧ Has wr X 51 #[.int .i64 x.id, .string x.key, .int .u32 (x.word : Int)] ∧ Below w7.heap.size w7 wr ∧ Hid (Chn l q r x lv (H.drop i))) (fun _ vi _ => N - (intOf vi).toNat)
    case atStart => exact ⟨0, 16, ⟨xi, xk, xw⟩, rfl, rfl, by omega, HX8.out, HB8.out, Lib.hid (by rw [List.drop_zero]; exact HC0.out)⟩
    case round =>
      clear HX8 HB8 HC0
      obtain ⟨i, lv, x, rfl, rfl, hi, hX, hB, HC⟩ := hrel
      by_cases hlt : i < N
      · have i2 : i < H.length := by rw [← HNN.out]; exact hlt
        have HCi := HC.out
        rw [List.drop_eq_getElem_cons i2] at HCi
        obtain ⟨y, hy, hsr, hds, hl0, hlv, hdj, htl⟩ := HCi
        have htl2 : H.drop (i + 1) = [] → i + 1 = N := fun e => by
          have := congrArg List.length e
          rw [List.length_drop, List.length_nil] at this
          rw [HNN.out]; omega
        obtain ⟨b, o, eA, hbl, hcc⟩ := HR7.out (by intro e; rw [e] at i2; simp at i2)
        subst eA
        have f0 : wr.cell? ⟨b, o + i * 3, none⟩ = some (.int .i64 H[i].src) := (hB.cell (p := ⟨b, o + i * 3, none⟩) hbl).trans (hcc i i2 0 (by omega))
        have f1 : wr.cell? ⟨b, o + i * 3 + 1, none⟩ = some (.int .i64 H[i].dst) := (hB.cell (p := ⟨b, o + i * 3 + 1, none⟩) hbl).trans (by have := hcc i i2 1 (by omega); rw [← Nat.add_assoc] at this; exact this)
        have f2 : wr.cell? ⟨b, o + i * 3 + 2, none⟩ = some (.int .i64 H[i].lvl) := (hB.cell (p := ⟨b, o + i * 3 + 2, none⟩) hbl).trans (by have := hcc i i2 2 (by omega); rw [← Nat.add_assoc] at this; exact this)
        rw [hsr] at f0
        rw [hds] at f1
        have HTL := Lib.hid htl
        have HDJ : Hid ((far r x y = true ∧ kl q y.key = !r) ∨ (i + 1 = N ∧ r = false ∧ H[i].lvl = 0 ∧ kl q y.key = false ∧ kl y.key x.key = true)) := Lib.hid (hdj.imp id fun ⟨a1, a2⟩ => ⟨htl2 a1, a2⟩)
        generalize H[i].lvl = hl at *
        obtain ⟨xi, xk, xw⟩ := x
        have HF := Lib.hid (HFY.out wr (HT7.out.below hB) y hy)
        obtain ⟨yi, yk, yw⟩ := y
        simp only at f0 f1 hX HF HDJ
        have x0 := hX.cell 0
        have hbl2 : b < wr.heap.size := Nat.lt_of_lt_of_le hbl hB.size
        have i0 : (0 : Int) ≤ (i : Int) := by omega
        have i1 : (i : Int) < (N : Int) := by omega
        have HXr := Lib.hid hX
        have HBr := Lib.hid hB
        clear hX hB HC htl hdj htl2 hsr hds hcc hy i2
        go_wp2_with fail
        refine (HF.out).mono ?_
        rintro e w8 ⟨rfl, hb8⟩
        have hbY := (Below.refl w8.heap.size w8).alloc (Nat.le_refl _) (.cells #[.int .i64 yi, .string yk, .int .u32 (yw : Int)] 51)
        have hk8 := hb8.trans (hbY.mono hb8.size)
        have hX9 := HXr.out.below hk8
        have hY9 := Has.new w8 51 #[.int .i64 yi, .string yk, .int .u32 (yw : Int)]
        replace f0 := (hk8.cell (p := ⟨b, o + i * 3, none⟩) hbl2).trans f0
        replace f2 := (hk8.cell (p := ⟨b, o + i * 3 + 2, none⟩) hbl2).trans f2
        have hB9 := HBr.out.trans (hk8.mono HBr.out.size)
        have hXY : X < w8.heap.size := Nat.lt_of_lt_of_le HXr.out.lt hb8.size
        have hbY8 : b < w8.heap.size := Nat.lt_of_lt_of_le hbl2 hb8.size
        obtain ⟨W9, hW9⟩ : ∃ W : World, W = w8.alloc (.cells #[.int .i64 yi, .string yk, .int .u32 (yw : Int)] 51) := ⟨_, rfl⟩
        obtain ⟨Y, hYe⟩ : ∃ Y, Y = w8.heap.size := ⟨_, rfl⟩
        have hbX2 : b < X := by rw [HXE.out]; exact hbl
        rw [← hYe] at hY9 hXY hbY8
        rw [← hW9] at hX9 hY9 f0 f2 hB9
        have HX9 := Lib.hid hX9
        have HY9 := Lib.hid hY9
        have HB9 := Lib.hid hB9
        have x0 : W9.drew.cell? ⟨X, 0, none⟩ = some (.int .i64 xi) := hX9.cell 0
        have g0 : W9.drew.cell? ⟨b, o + i * 3, none⟩ = some (.int .i64 xi) := f0
        have g2 : W9.drew.cell? ⟨b, o + i * 3 + 2, none⟩ = some (.int .i64 hl) := f2
        have hq1 : decide (lv < hl) = false := by simp; omega
        have hq2 : decide (hl < 0) = false := by simp; omega
        have hq3 : (xi != xi) = false := by simp
        clear hb8 hbY hk8 hX9 hY9 HXr HBr HF hB9
        go_upto_region 15 with fail
        rw [← hW9, ← hYe]
        clear hW9 hYe
        go_region_held3 (fun W => W.cell? ⟨X, 0, none⟩ = some (.int .i64 xi) ∧ W.cell? ⟨b, o + i * 3, none⟩ = some (.int .i64 xi) ∧ W.cell? ⟨b, o + i * 3 + 2, none⟩ = some (.int .i64 hl)) (with_reducible exact ⟨x0, g0, g2⟩) (fail)
        have hX9 : Has W9.drew X 51 #[.int .i64 xi, .string xk, .int .u32 (xw : Int)] := HX9.out
        have hY9 : Has W9.drew Y 51 #[.int .i64 yi, .string yk, .int .u32 (yw : Int)] := HY9.out
        have hB9 : Below w7.heap.size w7 W9.drew := HB9.out.drew
        clear f0 f1 f2 HX9 HY9 HB9 x0 g0 hq1 hq2 hq3 HFY
        generalize W9.drew = WD at *
        have x1 := hX9.cell 1
        have y1 := hY9.cell 1
        have HX9 := Lib.hid hX9
        have HY9 := Lib.hid hY9
        have HB9 := Lib.hid hB9
        clear hX9 hY9 hB9
        go_upto_region 17 with fail
        go_cut [17] (fun s17 wx => ∃ bb : Bool, s17 = .bool bb ∧ WD = wx ∧ (i + 1 = N → hl = 0 → kl q yk = false → kl yk xk = true → bb = true))
        case first =>
          clear HX9 HY9 HB9 HDJ HTL
          by_cases h1 : i + 1 = N
          · have n1 : ((i : Int) == (N : Int) - 1) = true := by simp; omega
            by_cases h2 : hl = 0
            · have n2 : (hl == 0) = true := by simp [h2]
              rcases Bool.eq_false_or_eq_true (kl q yk) with h3 | h3
              · have n3 : (Op.bytesLess yk.toList q.toList || yk.toList == q.toList) = false := by rw [leq_kl, h3]; rfl
                go_wp2_with fail
                go_meet
                exact ⟨_, rfl, rfl, fun _ _ e _ => by rw [h3] at e; cases e⟩
              · have n3 : (Op.bytesLess yk.toList q.toList || yk.toList == q.toList) = true := by rw [leq_kl, h3]; rfl
                rcases Bool.eq_false_or_eq_true (kl yk xk) with h4 | h4
                · have n4 : Op.bytesLess yk.toList xk.toList = true := h4
                  go_wp2_with fail
                  go_meet
                  exact ⟨_, rfl, rfl, fun _ _ _ _ => rfl⟩
                · have n4 : Op.bytesLess yk.toList xk.toList = false := h4
                  go_wp2_with fail
                  go_meet
                  exact ⟨_, rfl, rfl, fun _ _ _ e => by rw [h4] at e; cases e⟩
            · have n2 : (hl == 0) = false := by simp [h2]
              go_wp2_with fail
              go_meet
              exact ⟨_, rfl, rfl, fun _ e _ _ => absurd e h2⟩
          · have n1 : ((i : Int) == (N : Int) - 1) = false := by simp; omega
            go_wp2_with fail
            go_meet
            exact ⟨_, rfl, rfl, fun e _ _ _ => absurd e h1⟩
        case rest =>
        obtain ⟨bb, rfl, rfl, hbb⟩ := hcut
        have HBV := Lib.hid hbb
        clear hbb
        go_upto_region 18 with fail
        go_cut [173] (fun s wx => s = .bool false ∧ WD = wx)
        case first =>
          rcases HDJ.out with ⟨hf, hk⟩ | ⟨hi1, hr, hh, hk, hy⟩
          · clear HX9 HY9 HB9 HDJ HTL
            cases r
            · have p1 : Op.bytesLess yk.toList xk.toList = true := hf
              have p2 : (Op.bytesLess yk.toList q.toList || yk.toList == q.toList) = false := by rw [leq_kl, hk]; rfl
              go_wp2_with fail
              go_meet
              exact ⟨rfl, rfl⟩
            · have p1 : (Op.bytesLess yk.toList xk.toList || yk.toList == xk.toList) = false := by rw [leq_kl, show kl xk yk = true from hf]; rfl
              have p2 : (Op.bytesLess yk.toList q.toList || yk.toList == q.toList) = true := by rw [leq_kl, hk]; rfl
              go_wp2_with fail
              go_meet
              exact ⟨rfl, rfl⟩
          · obtain rfl := HBV.out hi1 hh hk hy
            clear HX9 HY9 HB9 HDJ HTL
            subst hr
            have p1 : Op.bytesLess yk.toList xk.toList = true := hy
            have p2 : (Op.bytesLess yk.toList q.toList || yk.toList == q.toList) = true := by rw [leq_kl, hk]; rfl
            go_wp2_with fail
            go_meet
            exact ⟨rfl, rfl⟩
        case rest =>
        obtain ⟨rfl, rfl⟩ := hcut
        have x0 := HX9.out.cell 0
        have x2 := HX9.out.cell 2
        have y0 := HY9.out.cell 0
        have y2 := HY9.out.cell 2
        have zf := fun o => HX9.out.frozen o
        have hn1 : ¬ X = Y := by omega
        have hn2 : ¬ b = X := by omega
        have hn3 : ¬ X = b := by omega
        have hn4 : ¬ Y = X := by omega
        clear HDJ HBV
        go_upto_region 20 with fail
        go_region
        go_wp2_with fail
        have hwX : w7.heap.size ≤ X := by rw [HXE.out]; exact Nat.le_refl _
        have hBF := ((HB9.out.setCell (p := ⟨X, 0, none⟩) hwX (.int .i64 yi)).setCell (p := ⟨X, 1, none⟩) hwX (.string yk)).setCell (p := ⟨X, 2, none⟩) hwX (.int .u32 (yw : Int))
        exact ⟨⟨i + 1, hl, ⟨yi, yk, yw⟩, by go_num, rfl, by omega, set3s HX9.out _ _ _, hBF.drew, HTL⟩, by simp [intOf]; try omega⟩
      · have hge : ¬ (i : Int) < (N : Int) := by omega
        have hBB := HBF.out _ (HT7.out.below hB)
        have HS := Lib.hid (HSA.out _ hBB)
        have HBS := Lib.hid hBB
        clear hBB hX hB HC
        go_wp2_with fail
        refine (HS.out).mono ?_
        rintro e wb ⟨rfl, hbb⟩
        have HBB := Lib.hid (HBS.out.trans (hbb.mono HBS.out.size))
        clear hbb
        go_wp2_with fail
        go_ret
        exact ⟨rfl, HBB.out⟩
end Go.Proofs.YtdeamjimjcojhaaDoor
