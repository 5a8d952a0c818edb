/-
  The walk of SearchAgrees: from whatever numbers it answers true and only makes memory. Conditions: the arguments can be read; 'letters' and the table of trailing zeros are as their initialisers lay them.
-/
import Derived.Test.YtdeamjimjcojhaaDoorLuN
import Derived.Test.YtdeamjimjcojhaaDoorLnC
import Derived.Test.YtdeamjimjcojhaaDoorLgJ
import Derived.Test.YtdeamjimjcojhaaDoorKhU
import Derived.Test.YtdeamjimjcojhaaDoorLdX
import Derived.Deep.DeepCutAuto
import Derived.Deep.CutBlock
import Derived.Deep.RegionHeld3
import Derived.BigRegion
namespace Go.Proofs.YtdeamjimjcojhaaDoor
open Go.RowKit


theorem agrees_of {l : List Nd} (hc : chkV l = 0) {m : Nat} (hm : m ≤ 16) {x y : Nd} (hx : x ∈ l) (hy : y ∈ l) {q : ByteArray} (hv : vk q = true) :
    rteE l x.id q = 0 ∧ rteE l y.id q = 0 ∧ rteE l x.id y.key = 0 ∧ endV x.id (rteR l (bldV l (m + 1)) x.id q) = endV y.id (rteR l (bldV l (m + 1)) y.id q) ∧ endV x.id (rteR l (bldV l (m + 1)) x.id y.key) = y.id := by
  have hk : vk y.key = true := by
    have := List.all_eq_true.1 (chkV_zero.1 hc).2.1 y hy
    simp [Nd.ok] at this
    exact this.1.2
  have e1 := rteE_ok (l := l) (id := x.id) hc hv (plc_mem hx)
  have e2 := rteE_ok (l := l) (id := y.id) hc hv (plc_mem hy)
  have e3 := rteE_ok (l := l) (id := x.id) hc hk (plc_mem hx)
  refine ⟨e1, e2, e3, ?_, ?_⟩
  · rw [rteR_ok e1, rteR_ok e2, fnd_self (chkV_zero.1 hc).2.2 hx, fnd_self (chkV_zero.1 hc).2.2 hy, bld_owner hc hx hm, bld_owner hc hy hm]
  · rw [rteR_ok e3, fnd_self (chkV_zero.1 hc).2.2 hx, bld_owner hc hx hm, own_key hc hy]
theorem rteR_small (l : List Nd) (k : List Ld) (id : Int) (q : ByteArray) : (rteR l k id q).length ≤ l.length + 1 := by
  unfold rteR
  split
  · unfold rteW
    have h1 := rt_len (l := l) (k := k) (q := q) (r := !kl q (fndV l id).key) (fndV l id) 17
    have h2 := ds_le (!kl q (fndV l id).key) l (fndV l id)
    have h3 : ∀ z, (lstO l k q (!kl q (fndV l id).key) z).length ≤ 1 := fun z => by unfold lstO; split <;> simp
    have h4 := h3 (rtW l k q (!kl q (fndV l id).key) (fndV l id) 17).2
    rw [List.length_append]
    omega
  · simp
theorem TStep.drew' {a b : World} {g : Nat} (h : TStep a g b) : TStep a g b.drew := h.below (Below.refl _ _).drew
theorem TStep.tape {a b : World} {g : Nat} (h : TStep a g b) : Tape b g := h.1
theorem two_cells (W : World) (A B : Array Value) (t t' : Nat) (o : Nat) : ((W.alloc (.cells A t)).alloc (.cells B t')).cell? ⟨W.heap.size, o, none⟩ = A[o]? ∧ ((W.alloc (.cells A t)).alloc (.cells B t')).cell? ⟨W.heap.size + 1, o, none⟩ = B[o]? := by
  have e : (W.alloc (.cells A t)).heap.size = W.heap.size + 1 := by simp
  refine ⟨((Has.new W t A).below ((Below.refl _ _).alloc (Nat.le_refl _) _)).cell o, ?_⟩
  rw [← e]
  exact (Has.new _ t' B).cell o
theorem keep_two {W w8 : World} {g : Nat} {A B : Array Value} {t t' : Nat} (kc : ∀ (b o : Nat), b < ((W.alloc (.cells A t)).alloc (.cells B t')).heap.size → b ≠ g → w8.cell? ⟨b, o, none⟩ = ((W.alloc (.cells A t)).alloc (.cells B t')).cell? ⟨b, o, none⟩) (h0 : ¬ W.heap.size = g) (h1 : ¬ W.heap.size + 1 = g) (o : Nat) : w8.cell? ⟨W.heap.size, o, none⟩ = A[o]? ∧ w8.cell? ⟨W.heap.size + 1, o, none⟩ = B[o]? := by
  obtain ⟨a, b⟩ := two_cells W A B t t' o
  exact ⟨(kc _ o (by simp; omega) h0).trans a, (kc _ o (by simp) h1).trans b⟩
theorem keep_one {W w8 : World} {g : Nat} {A : Array Value} {t : Nat} (kc : ∀ (b o : Nat), b < (W.alloc (.cells A t)).heap.size → b ≠ g → w8.cell? ⟨b, o, none⟩ = (W.alloc (.cells A t)).cell? ⟨b, o, none⟩) (h0 : ¬ W.heap.size = g) (o : Nat) : w8.cell? ⟨W.heap.size, o, none⟩ = A[o]? :=
  (kc _ o (by simp) h0).trans ((Has.new W t A).cell o)
theorem keep_on0 {W w8 : World} {g j o : Nat} {e : Option Value} (kc : ∀ (b o : Nat), b < W.heap.size → b ≠ g → w8.cell? ⟨b, o, none⟩ = W.cell? ⟨b, o, none⟩) (hj : j < W.heap.size) (h0 : ¬ j = g) (z : W.cell? ⟨j, o, none⟩ = e) : w8.cell? ⟨j, o, none⟩ = e := (kc _ o hj h0).trans z
theorem keep_on1 {W w8 : World} {g j o : Nat} {e : Option Value} {X : Obj} (kc : ∀ (b o : Nat), b < (W.alloc X).heap.size → b ≠ g → w8.cell? ⟨b, o, none⟩ = (W.alloc X).cell? ⟨b, o, none⟩) (hj : j < W.heap.size) (h0 : ¬ j = g) (z : W.cell? ⟨j, o, none⟩ = e) : w8.cell? ⟨j, o, none⟩ = e :=
  (kc _ o (by simp; omega) h0).trans ((((Below.refl _ _).alloc (Nat.le_refl _) _).cell (p := ⟨j, o, none⟩) hj).trans z)
theorem keep_on2 {W w8 : World} {g j o : Nat} {e : Option Value} {X Y : Obj} (kc : ∀ (b o : Nat), b < ((W.alloc X).alloc Y).heap.size → b ≠ g → w8.cell? ⟨b, o, none⟩ = ((W.alloc X).alloc Y).cell? ⟨b, o, none⟩) (hj : j < W.heap.size) (h0 : ¬ j = g) (z : W.cell? ⟨j, o, none⟩ = e) : w8.cell? ⟨j, o, none⟩ = e :=
  keep_on1 kc (by simp; omega) h0 ((((Below.refl _ _).alloc (Nat.le_refl _) _).cell (p := ⟨j, o, none⟩) hj).trans z)
set_option maxRecDepth 100000 in
set_option maxHeartbeats 25600000 in
theorem agrees_walk (A : Option Addr) (n0 cp : Nat) (w : World) (hL : Lets w) (hT : Deb w) (hnc : n0 ≤ cp) (hc : cp ≤ maxLen) (hN : Nums w w.heap.size A n0) :
    Calls Tryd.prog 7 #[.slice A n0 cp] w (LawP w) := by
  have HSA := Lib.hid (fun (W : World) (j : Below w.heap.size w W) => sane8_any W (hT.below j))
  go_enter Tryd.func7, Tryd.ntmps7
  go_wp2_with fail
  refine (new_any A n0 cp _ hnc hc hN).mono ?_
  rintro e w1 ⟨g, hg1, rfl, hTp, hb1⟩
  have hne2 : 0 ≠ g := by have := hL.lt; omega
  have l1 := hL.below hb1
  clear hN hnc hc hL hT
  go_wp2_with fail
  refine (some_any 9 g w1 (by omega) (by omega) hTp l1 hne2).mono ?_
  rintro e w2 ⟨A2, c2, l, rfl, ho, hl0, hl8, hchk, hst⟩
  have hB2 : Below w.heap.size w w2 := hb1.grown hst.2 hb1.size (fun j e => by have := Option.some.inj e; omega)
  have hg2 : g < w1.heap.size := hTp.lt
  obtain ⟨G, c, er, hGb, hGl, hcap, hcap2, hnd⟩ := ho.open_ hl0
  injection er with e1 _ e2
  subst e1 e2
  have hGg : G ≠ g := by omega
  have hA2 : ∀ b o, (some ⟨G, 0, none⟩ : Option Addr) = some ⟨b, o, none⟩ → b ≠ g := fun b o e => by injection e with e; injection e with e1 _; omega
  have hwide : ∀ x ∈ l, x.wide := wide_of hchk
  have HL2 := Lib.hid (l1.step hne2 hst)
  have HB2 := Lib.hid hB2
  have HST := Lib.hid hst
  have HND := Lib.hid hnd
  have hln1 : 1 ≤ l.length := List.length_pos_iff.2 hl0
  obtain ⟨n, hn⟩ : ∃ n, n = l.length := ⟨_, rfl⟩
  have HN := Lib.hid hn
  have HAG := Lib.hid (fun (m : Nat) (hm : m ≤ 16) (x y : Nd) (hx : x ∈ l) (hy : y ∈ l) (q : ByteArray) (hv : vk q = true) => agrees_of hchk hm hx hy hv)
  have HBL := Lib.hid (fun (W : World) (hn : Nds W W.heap.size (some ⟨G, 0, none⟩) l) (m : Nat) (hm : m ≤ 16) => build_ok (some ⟨G, 0, none⟩) l c2 m W hn hchk hm)
  have HBW := Lib.hid (fun (m : Nat) => bld_wide hchk (n := m + 1))
  have HRT := Lib.hid (fun (W : World) (hn : Nds W W.heap.size (some ⟨G, 0, none⟩) l) (k : List Ld) (A5 : Option Addr) (c5 : Nat) (h5 : Lds W W.heap.size A5 k) (hI : ∀ x ∈ k, -9223372036854775808 ≤ x.id ∧ x.id ≤ 9223372036854775807) (hkn : k.length ≤ maxLen) (hw : ∀ (i : Int) (t : Nat), I64 (atV k i (t : Int)).left ∧ I64 (atV k i (t : Int)).right) (id : Int) (hid : I64 id) (q : ByteArray) => routeK_any (some ⟨G, 0, none⟩) A5 l k c2 c5 id q W hn h5 hI hkn (fun x hx => (hwide x hx).2) hid hw)
  have HWI := Lib.hid (fun (x : Nd) (hx : x ∈ l) => (hwide x hx).1)
  have HBE := Lib.hid (fun (m : Nat) => bld_len l m)
  have HBV := Lib.hid (fun (m : Nat) (hm : m ≤ 16) (x : Ld) (hx : x ∈ bldV l (m + 1)) => (by rw [bld_lev l _ x hx]; unfold maxLen; omega : x.levels.length ≤ maxLen))
  rw [← hn] at hl8 hln1 hcap HBL HRT HBE ⊢
  clear hn l1 hTp hb1 ho hst hB2 hnd hwide hl0 hchk hcap2 hGb hGl
  go_wp2_with fail
  refine (next_any g 4 w2 HST.out.1 (by omega)).mono ?_
  rintro e w4 ⟨r, r0, r1, rfl, hst4⟩
  obtain ⟨m, rfl⟩ : ∃ m : Nat, r = (m : Int) := ⟨r.toNat, by omega⟩
  have hm16 : m ≤ 16 := by omega
  have HST4 := Lib.hid hst4
  have HND4 := Lib.hid (nds_step HND.out hA2 hst4)
  have HB4 := Lib.hid (HB2.out.grown hst4.2 HB2.out.size (fun j e => by have := Option.some.inj e; omega))
  have HL4 := Lib.hid (HL2.out.step hne2 hst4)
  have HG4 := Lib.hid (show g < w4.heap.size from by have := hst4.2.size; have := HST.out.2.size; omega)
  have HBX := Lib.hid (HBL.out w4 HND4.out m hm16)
  have HAGM := Lib.hid (HAG.out m hm16)
  have HBWM := Lib.hid (HBW.out m)
  have HBVM := Lib.hid (HBV.out m hm16)
  have HBLM : Hid ((bldV l (m + 1)).length = n) := Lib.hid (HBE.out (m + 1))
  unfold BldOk at HBX
  generalize bldV l (m + 1) = BV at *
  clear r0 r1 hst4 HND HB2 HL2 HST HBL HAG HBW HBV HBE hg2
  go_wp2_with fail
  refine (HBX.out).mono ?_
  rintro e w5 ⟨g5, H5, hg5, he, hD5, hb5⟩
  rw [HBLM.out] at he
  subst he
  have hgg : g < g5 := by have := HG4.out; omega
  have hTP5 := HST4.out.1.below hb5
  have HND5 := Lib.hid ((HND4.out.below hb5).more hb5.size)
  have HB5 := Lib.hid (HB4.out.trans (hb5.mono HB4.out.size))
  have HL5 := Lib.hid (HL4.out.below hb5)
  have HD5 := Lib.hid hD5
  have hG5 : g < w5.heap.size := by have := hb5.size; have := HG4.out; omega
  have hgG : G < w5.heap.size := by
    obtain ⟨b, o, e, hb, _⟩ := HND5.out.at_ (i := 0) (by have := HN.out; omega)
    injection e with e
    injection e with e1 _
    omega
  have HRX := Lib.hid (fun (W : World) (k : TStep w5 g W) (id : Int) (hid : I64 id) (q : ByteArray) => HRT.out W (nds_step HND5.out hA2 k) BV (some ⟨g5, 0, none⟩) n ((HD5.out.step k hgg).read HBVM.out) HBWM.out.1 (by rw [HBLM.out]; unfold maxLen; omega) HBWM.out.2 id hid q)
  rw [HBLM.out] at HRX
  have HCL : Hid (∀ (j : Nat) (hj : j < n), ∃ x ∈ l, ∀ W, TStep w5 g W → W.cell? ⟨G, j * 3, none⟩ = some (.int .i64 x.id) ∧ W.cell? ⟨G, j * 3 + 1, none⟩ = some (.string x.key) ∧ W.cell? ⟨G, j * 3 + 2, none⟩ = some (.int .u32 (x.word : Int))) := Lib.hid fun j hj => by
    have j2 : j < l.length := by rw [← HN.out]; exact hj
    refine ⟨l[j], List.getElem_mem j2, fun W k => ?_⟩
    obtain ⟨b, o, e, hb, f1, f2, f3⟩ := (nds_step HND5.out hA2 k).at_ j2
    injection e with e
    injection e with e1 e2 _
    subst e1 e2
    rw [Nat.zero_add] at f1 f2 f3
    exact ⟨f1, f2, f3⟩
  have HLT : Hid (∀ W, TStep w5 g W → Lets W) := Lib.hid fun W k => HL5.out.step hne2 k
  have HBF : Hid (∀ W, TStep w5 g W → Below w.heap.size w W) := Lib.hid fun W k => HB5.out.grown k.2 HB5.out.size (fun j e => by have := Option.some.inj e; omega)
  clear hb5 hD5 hg5 HST4 HND4 HB4 HL4 HBX HRT HG4
  have hS5 := TStep.refl hTP5
  clear hTP5
  go_upto_region 4 with fail
  go_cut [7, 8, 9] (fun s7 s8 s9 wx => ∃ (X Y : Nat) (x y : Nd) (key : ByteArray), s7 = .pointer (some ⟨X, 0, none⟩) ∧ s8 = .pointer (some ⟨Y, 0, none⟩) ∧ s9 = .string key ∧ x ∈ l ∧ y ∈ l ∧ vk key = true ∧ TStep w5 g wx ∧ Hid (X < wx.heap.size ∧ Y < wx.heap.size ∧ wx.cell? ⟨X, 0, none⟩ = some (.int .i64 x.id) ∧ wx.cell? ⟨Y, 0, none⟩ = some (.int .i64 y.id) ∧ wx.cell? ⟨Y, 1, none⟩ = some (.string y.key)))
  case first =>
    have hn50 : ¬ w5.heap.size = g := (by omega)
    have hn51 : ¬ w5.heap.size + 1 = g := (by omega)
    go_region_held3 (fun W => TStep w5 g W)
      (first | with_reducible exact hS1 | with_reducible exact hS5.drew' | (repeat' (first | with_reducible assumption | with_reducible refine TStep.drew' ?_ | with_reducible refine TStep.alloc ?_ _ | with_reducible refine TStep.set ?_ (by first | (simp; done) | (simp; omega)) hG5 _)))
      (first | (go_at_call 12; have _u7 := hn60; refine (next_any g n _ (TStep.tape (show TStep w5 g _ by assumption)) (by omega)).mono ?_; rintro e w7 ⟨r7, s7, t7, rfl, hst⟩; have hS1 := TStep.trans (show TStep w5 g _ by assumption) hst; obtain ⟨j7, hjr7, hjn7⟩ : ∃ j : Nat, r7 = (j : Int) ∧ j < n := ⟨r7.toNat, by omega, by omega⟩; subst hjr7; have k70 : (0 : Int) ≤ (j7 : Int) := (by omega); have k71 : (j7 : Int) < (n : Int) := (by omega); obtain ⟨⟨xi7, xk7, xw7⟩, hxl7, hcell⟩ := HCL.out j7 hjn7; have hc70 := fun W k => (hcell W k).1; have hc71 := fun W k => (hcell W k).2.1; have hc72 := fun W k => (hcell W k).2.2; clear hcell; obtain ⟨kc7, kf7, ks7⟩ := TStep.keeps hst; (try simp only [World.size_alloc] at ks7); have hgl7 := (TStep.tape hS1).lt; have hb70 := hS1.2.size; have hn70 : ¬ w7.heap.size = g := (by omega); have hn71 : ¬ w7.heap.size + 1 = g := (by omega); (try (have hv75 : w5.heap.size < w7.heap.size := (by first | (simp at ks7; omega) | omega); have hw75 := Nat.ne_of_lt hv75; have hx75 := Nat.ne_of_gt hv75)); (try (have hp75 : w5.heap.size + 1 < w7.heap.size := (by first | (simp at ks7; omega) | omega); have hq75 := Nat.ne_of_lt hp75; have hr75 := Nat.ne_of_gt hp75)); (try (have hv76 : w6.heap.size < w7.heap.size := (by first | (simp at ks7; omega) | omega); have hw76 := Nat.ne_of_lt hv76; have hx76 := Nat.ne_of_gt hv76)); (try (have hp76 : w6.heap.size + 1 < w7.heap.size := (by first | (simp at ks7; omega) | omega); have hq76 := Nat.ne_of_lt hp76; have hr76 := Nat.ne_of_gt hp76)); clear hst s7 t7 hgl7) | (go_at_call 12; refine (next_any g n _ (TStep.tape (show TStep w5 g _ by assumption)) (by omega)).mono ?_; rintro e w6 ⟨r6, s6, t6, rfl, hst⟩; have hS1 := TStep.trans (show TStep w5 g _ by assumption) hst; obtain ⟨j6, hjr6, hjn6⟩ : ∃ j : Nat, r6 = (j : Int) ∧ j < n := ⟨r6.toNat, by omega, by omega⟩; subst hjr6; have k60 : (0 : Int) ≤ (j6 : Int) := (by omega); have k61 : (j6 : Int) < (n : Int) := (by omega); obtain ⟨⟨xi6, xk6, xw6⟩, hxl6, hcell⟩ := HCL.out j6 hjn6; have hc60 := fun W k => (hcell W k).1; have hc61 := fun W k => (hcell W k).2.1; have hc62 := fun W k => (hcell W k).2.2; clear hcell; obtain ⟨kc6, kf6, ks6⟩ := TStep.keeps hst; (try simp only [World.size_alloc] at ks6); have hgl6 := (TStep.tape hS1).lt; have hb60 := hS1.2.size; have hn60 : ¬ w6.heap.size = g := (by omega); have hn61 : ¬ w6.heap.size + 1 = g := (by omega); (try (have hv65 : w5.heap.size < w6.heap.size := (by first | (simp at ks6; omega) | omega); have hw65 := Nat.ne_of_lt hv65; have hx65 := Nat.ne_of_gt hv65)); (try (have hp65 : w5.heap.size + 1 < w6.heap.size := (by first | (simp at ks6; omega) | omega); have hq65 := Nat.ne_of_lt hp65; have hr65 := Nat.ne_of_gt hp65)); clear hst s6 t6 hgl6) | (go_at_call 31; refine (key_any g _ (TStep.tape (show TStep w5 g _ by assumption)) (HLT.out _ (by assumption)) hne2).mono ?_; rintro e w8 ⟨key, hkey, rfl, hst⟩; have hS1 := TStep.trans (show TStep w5 g _ by assumption) hst; obtain ⟨kc8, kf8, ks8⟩ := TStep.keeps hst; (try simp only [World.size_alloc] at ks8); have hgl8 := (TStep.tape hS1).lt; have hb80 := hS1.2.size; have hn80 : ¬ w8.heap.size = g := (by omega); have hn81 : ¬ w8.heap.size + 1 = g := (by omega); (try (have hv85 : w5.heap.size < w8.heap.size := (by first | (simp at ks8; omega) | omega); have hw85 := Nat.ne_of_lt hv85; have hx85 := Nat.ne_of_gt hv85)); (try (have hp85 : w5.heap.size + 1 < w8.heap.size := (by first | (simp at ks8; omega) | omega); have hq85 := Nat.ne_of_lt hp85; have hr85 := Nat.ne_of_gt hp85)); (try (have hv86 : w6.heap.size < w8.heap.size := (by first | (simp at ks8; omega) | omega); have hw86 := Nat.ne_of_lt hv86; have hx86 := Nat.ne_of_gt hv86)); (try (have hp86 : w6.heap.size + 1 < w8.heap.size := (by first | (simp at ks8; omega) | omega); have hq86 := Nat.ne_of_lt hp86; have hr86 := Nat.ne_of_gt hp86)); (try (have hv87 : w7.heap.size < w8.heap.size := (by first | (simp at ks8; omega) | omega); have hw87 := Nat.ne_of_lt hv87; have hx87 := Nat.ne_of_gt hv87)); (try (have hp87 : w7.heap.size + 1 < w8.heap.size := (by first | (simp at ks8; omega) | omega); have hq87 := Nat.ne_of_lt hp87; have hr87 := Nat.ne_of_gt hp87)); clear hst hgl8))
    all_goals
      (try (have z650 := keep_one kc6 hn50 0; have z651 := keep_one kc6 hn50 1; simp only [List.getElem?_toArray, List.getElem?_cons_zero, List.getElem?_cons_succ] at z650 z651))
      (try (have z750 := keep_one kc7 hn50 0; have z751 := keep_one kc7 hn50 1; simp only [List.getElem?_toArray, List.getElem?_cons_zero, List.getElem?_cons_succ] at z750 z751))
      (try (have z850 := keep_one kc8 hn50 0; have z851 := keep_one kc8 hn50 1; simp only [List.getElem?_toArray, List.getElem?_cons_zero, List.getElem?_cons_succ] at z850 z851))
      (try (have z760 := keep_one kc7 hn60 0; have z761 := keep_one kc7 hn60 1; simp only [List.getElem?_toArray, List.getElem?_cons_zero, List.getElem?_cons_succ] at z760 z761))
      (try (have z860 := keep_one kc8 hn60 0; have z861 := keep_one kc8 hn60 1; simp only [List.getElem?_toArray, List.getElem?_cons_zero, List.getElem?_cons_succ] at z860 z861))
      (try (have z680 := keep_one kc6 hn80 0; have z681 := keep_one kc6 hn80 1; simp only [List.getElem?_toArray, List.getElem?_cons_zero, List.getElem?_cons_succ] at z680 z681))
      (try (have z780 := keep_one kc7 hn80 0; have z781 := keep_one kc7 hn80 1; simp only [List.getElem?_toArray, List.getElem?_cons_zero, List.getElem?_cons_succ] at z780 z781))
      (try (have z870 := keep_one kc8 hn70 0; have z871 := keep_one kc8 hn70 1; simp only [List.getElem?_toArray, List.getElem?_cons_zero, List.getElem?_cons_succ] at z870 z871))
      (try (have z650 := keep_on0 kc6 hv85 hn50 z850; have z651 := keep_on0 kc6 hv85 hn50 z851))
      (try (have z650 := keep_on1 kc6 hv85 hn50 z850; have z651 := keep_on1 kc6 hv85 hn50 z851))
      (try (have z650 := keep_on2 kc6 hv85 hn50 z850; have z651 := keep_on2 kc6 hv85 hn50 z851))
      (try (have z670 := keep_on0 kc6 hv87 hn70 z870; have z671 := keep_on0 kc6 hv87 hn70 z871))
      (try (have z670 := keep_on1 kc6 hv87 hn70 z870; have z671 := keep_on1 kc6 hv87 hn70 z871))
      (try (have z670 := keep_on2 kc6 hv87 hn70 z870; have z671 := keep_on2 kc6 hv87 hn70 z871))
      (try (have z750 := keep_on0 kc7 hv65 hn50 z650; have z751 := keep_on0 kc7 hv65 hn50 z651))
      (try (have z750 := keep_on1 kc7 hv65 hn50 z650; have z751 := keep_on1 kc7 hv65 hn50 z651))
      (try (have z750 := keep_on2 kc7 hv65 hn50 z650; have z751 := keep_on2 kc7 hv65 hn50 z651))
      (try (have z780 := keep_on0 kc7 hv68 hn80 z680; have z781 := keep_on0 kc7 hv68 hn80 z681))
      (try (have z780 := keep_on1 kc7 hv68 hn80 z680; have z781 := keep_on1 kc7 hv68 hn80 z681))
      (try (have z780 := keep_on2 kc7 hv68 hn80 z680; have z781 := keep_on2 kc7 hv68 hn80 z681))
      (try (have z850 := keep_on0 kc8 hv65 hn50 z650; have z851 := keep_on0 kc8 hv65 hn50 z651))
      (try (have z850 := keep_on1 kc8 hv65 hn50 z650; have z851 := keep_on1 kc8 hv65 hn50 z651))
      (try (have z850 := keep_on2 kc8 hv65 hn50 z650; have z851 := keep_on2 kc8 hv65 hn50 z651))
      (try (have z870 := keep_on0 kc8 hv67 hn70 z670; have z871 := keep_on0 kc8 hv67 hn70 z671))
      (try (have z870 := keep_on1 kc8 hv67 hn70 z670; have z871 := keep_on1 kc8 hv67 hn70 z671))
      (try (have z870 := keep_on2 kc8 hv67 hn70 z670; have z871 := keep_on2 kc8 hv67 hn70 z671))
      (try (have z750 := keep_on0 kc7 hv85 hn50 z850; have z751 := keep_on0 kc7 hv85 hn50 z851))
      (try (have z750 := keep_on1 kc7 hv85 hn50 z850; have z751 := keep_on1 kc7 hv85 hn50 z851))
      (try (have z750 := keep_on2 kc7 hv85 hn50 z850; have z751 := keep_on2 kc7 hv85 hn50 z851))
      (try (have z760 := keep_on0 kc7 hv86 hn60 z860; have z761 := keep_on0 kc7 hv86 hn60 z861))
      (try (have z760 := keep_on1 kc7 hv86 hn60 z860; have z761 := keep_on1 kc7 hv86 hn60 z861))
      (try (have z760 := keep_on2 kc7 hv86 hn60 z860; have z761 := keep_on2 kc7 hv86 hn60 z861))
      (try (have z850 := keep_on0 kc8 hv75 hn50 z750; have z851 := keep_on0 kc8 hv75 hn50 z751))
      (try (have z850 := keep_on1 kc8 hv75 hn50 z750; have z851 := keep_on1 kc8 hv75 hn50 z751))
      (try (have z850 := keep_on2 kc8 hv75 hn50 z750; have z851 := keep_on2 kc8 hv75 hn50 z751))
      (try (have z860 := keep_on0 kc8 hv76 hn60 z760; have z861 := keep_on0 kc8 hv76 hn60 z761))
      (try (have z860 := keep_on1 kc8 hv76 hn60 z760; have z861 := keep_on1 kc8 hv76 hn60 z761))
      (try (have z860 := keep_on2 kc8 hv76 hn60 z760; have z861 := keep_on2 kc8 hv76 hn60 z761))
      (try (have zy := keep_two kc6 hn50 hn51 0; have zz := keep_two kc6 hn50 hn51 1; obtain ⟨za, zb⟩ := zy; obtain ⟨zc, zd⟩ := zz; simp only [List.getElem?_toArray, List.getElem?_cons_zero, List.getElem?_cons_succ] at za zb zc zd))
      (try (have zy := keep_two kc7 hn50 hn51 0; have zz := keep_two kc7 hn50 hn51 1; obtain ⟨za, zb⟩ := zy; obtain ⟨zc, zd⟩ := zz; simp only [List.getElem?_toArray, List.getElem?_cons_zero, List.getElem?_cons_succ] at za zb zc zd))
      (try (have zy := keep_two kc8 hn50 hn51 0; have zz := keep_two kc8 hn50 hn51 1; obtain ⟨za, zb⟩ := zy; obtain ⟨zc, zd⟩ := zz; simp only [List.getElem?_toArray, List.getElem?_cons_zero, List.getElem?_cons_succ] at za zb zc zd))
      (try (have zy := keep_two kc7 hn60 hn61 0; have zz := keep_two kc7 hn60 hn61 1; obtain ⟨za, zb⟩ := zy; obtain ⟨zc, zd⟩ := zz; simp only [List.getElem?_toArray, List.getElem?_cons_zero, List.getElem?_cons_succ] at za zb zc zd))
      (try (have zy := keep_two kc8 hn60 hn61 0; have zz := keep_two kc8 hn60 hn61 1; obtain ⟨za, zb⟩ := zy; obtain ⟨zc, zd⟩ := zz; simp only [List.getElem?_toArray, List.getElem?_cons_zero, List.getElem?_cons_succ] at za zb zc zd))
      (try (have zy := keep_two kc6 hn80 hn81 0; have zz := keep_two kc6 hn80 hn81 1; obtain ⟨za, zb⟩ := zy; obtain ⟨zc, zd⟩ := zz; simp only [List.getElem?_toArray, List.getElem?_cons_zero, List.getElem?_cons_succ] at za zb zc zd))
      (try (have zy := keep_two kc7 hn80 hn81 0; have zz := keep_two kc7 hn80 hn81 1; obtain ⟨za, zb⟩ := zy; obtain ⟨zc, zd⟩ := zz; simp only [List.getElem?_toArray, List.getElem?_cons_zero, List.getElem?_cons_succ] at za zb zc zd))
      (try (have zy := keep_two kc8 hn70 hn71 0; have zz := keep_two kc8 hn70 hn71 1; obtain ⟨za, zb⟩ := zy; obtain ⟨zc, zd⟩ := zz; simp only [List.getElem?_toArray, List.getElem?_cons_zero, List.getElem?_cons_succ] at za zb zc zd))
      go_wp2_with fail
      go_meet
      refine ⟨_, _, ⟨xi6, xk6, xw6⟩, ⟨xi7, xk7, xw7⟩, key, rfl, rfl, rfl, hxl6, hxl7, (by simp only [vk, decide_eq_true_eq]; exact hkey), ?_, Lib.hid ⟨?_, ?_, ?_, ?_, ?_⟩⟩
      · repeat' (first | with_reducible assumption | with_reducible refine TStep.drew' ?_ | with_reducible refine TStep.alloc ?_ _ | with_reducible refine TStep.set ?_ (by first | (simp; done) | (simp; omega)) hG5 _)
      · first | (simp; done) | (simp; omega) | omega
      · first | (simp; done) | (simp; omega) | omega
      · first | (go_simp; done) | (simp; omega)
      · first | (go_simp; done) | (simp; omega)
      · first | (go_simp; done) | (simp; omega)
  case rest =>
    obtain ⟨X, Y, x, y, key, rfl, rfl, rfl, hx, hy, hv, hts, HC⟩ := hcut
    obtain ⟨e1, e2, e3, e4, e5⟩ := HAGM.out x y hx hy key hv
    have hxi := HWI.out x hx
    have hyi := HWI.out y hy
    obtain ⟨hXl, hYl, hx0, hy0, hy1⟩ := HC.out
    have H1 := Lib.hid (HRX.out wc hts x.id hxi key)
    have H2 := Lib.hid (fun (W : World) (k : TStep w5 g W) => HRX.out W k y.id hyi key)
    have H3 := Lib.hid (fun (W : World) (k : TStep w5 g W) => HRX.out W k x.id hxi y.key)
    rw [e1] at H1
    rw [e2] at H2
    rw [e3] at H3
    have HRL := Lib.hid (fun (id : Int) (q : ByteArray) => rteR_small l BV id q)
    have HL1 := Lib.hid (HRL.out x.id key)
    have HL2 := Lib.hid (HRL.out y.id key)
    have HL3 := Lib.hid (HRL.out x.id y.key)
    have HN64 : Hid (l.length ≤ 64) := Lib.hid (by have := HN.out; omega)
    generalize rteR l BV x.id key = R1 at *
    generalize rteR l BV y.id key = R2 at *
    generalize rteR l BV x.id y.key = R3 at *
    obtain ⟨xi, xk, xw⟩ := x
    obtain ⟨yi, yk, yw⟩ := y
    simp only at H1 H2 H3 hx0 hy0 hy1 e4 e5
    have HTS := Lib.hid hts
    clear HC HAGM hxi hyi e1 e2 e3 hx hy hv HCL HLT HRX HWI HRL HBVM HBWM HBLM HD5 HL5 HND5 hts
    go_wp2_with fail
    refine (H1.out).mono ?_
    rintro e w6 ⟨v6, rfl, ho6, hb6⟩
    obtain ⟨A6, c6, hv6, hr6⟩ := ho6.read
    subst hv6
    have HT6 := Lib.hid (HTS.out.below hb6)
    have HR6 := Lib.hid hr6
    replace hx0 := (hb6.cell (p := ⟨X, 0, none⟩) hXl).trans hx0
    replace hy0 := (hb6.cell (p := ⟨Y, 0, none⟩) hYl).trans hy0
    replace hy1 := (hb6.cell (p := ⟨Y, 1, none⟩) hYl).trans hy1
    have hXl6 := Nat.lt_of_lt_of_le hXl hb6.size
    have hYl6 := Nat.lt_of_lt_of_le hYl hb6.size
    clear ho6 hb6 hr6 H1 HTS hXl hYl
    go_wp2_with fail
    refine (H2.out w6 HT6.out).mono ?_
    rintro e w7 ⟨v7, rfl, ho7, hb7⟩
    obtain ⟨A7, c7, hv7, hr7⟩ := ho7.read
    subst hv7
    have HT7 := Lib.hid (HT6.out.below hb7)
    have HR7 := Lib.hid hr7
    have HQ6 := Lib.hid ((HR6.out.below hb7).more hb7.size)
    replace hx0 := (hb7.cell (p := ⟨X, 0, none⟩) hXl6).trans hx0
    replace hy0 := (hb7.cell (p := ⟨Y, 0, none⟩) hYl6).trans hy0
    replace hy1 := (hb7.cell (p := ⟨Y, 1, none⟩) hYl6).trans hy1
    have hXl7 := Nat.lt_of_lt_of_le hXl6 hb7.size
    have hYl7 := Nat.lt_of_lt_of_le hYl6 hb7.size
    clear ho7 hb7 hr7 H2 HT6 HR6 hXl6 hYl6
    go_wp2_with fail
    refine (H3.out w7 HT7.out).mono ?_
    rintro e w8 ⟨v8, rfl, ho8, hb8⟩
    obtain ⟨A8, c8, hv8, hr8⟩ := ho8.read
    subst hv8
    have HT8 := Lib.hid (HT7.out.below hb8)
    have hp8 : Hps w8.drew w8.drew.heap.size A8 R3 := hr8
    have hp7 : Hps w8.drew w8.drew.heap.size A7 R2 := (HR7.out.below hb8).more hb8.size
    have hp6 : Hps w8.drew w8.drew.heap.size A6 R1 := (HQ6.out.below hb8).more hb8.size
    have hx0' : w8.drew.cell? ⟨X, 0, none⟩ = some (.int .i64 xi) := (hb8.cell (p := ⟨X, 0, none⟩) hXl7).trans hx0
    have hy0' : w8.drew.cell? ⟨Y, 0, none⟩ = some (.int .i64 yi) := (hb8.cell (p := ⟨Y, 0, none⟩) hYl7).trans hy0
    have hXl8 : X < w8.drew.heap.size := Nat.lt_of_lt_of_le hXl7 hb8.size
    have hYl8 : Y < w8.drew.heap.size := Nat.lt_of_lt_of_le hYl7 hb8.size
    have hBS := HBF.out _ HT8.out.drew'
    have HS := Lib.hid (HSA.out _ hBS)
    have HBS := Lib.hid hBS
    have hm1 : R1.length ≤ maxLen := by have := HL1.out; have := HN64.out; unfold maxLen; omega
    have hm2 : R2.length ≤ maxLen := by have := HL2.out; have := HN64.out; unfold maxLen; omega
    have hm3 : R3.length ≤ maxLen := by have := HL3.out; have := HN64.out; unfold maxLen; omega
    clear ho8 hb8 hr8 H3 HT7 HR7 HQ6 hXl7 hYl7 hx0 hy0 hy1 hBS
    go_wp2_with fail
    go_region_held3 (fun W => W.cell? ⟨X, 0, none⟩ = some (.int .i64 xi) ∧ W.cell? ⟨Y, 0, none⟩ = some (.int .i64 yi)) (first | with_reducible exact hxb | with_reducible exact ⟨hx0', hy0'⟩) (first | (go_at_call 20; refine (endH_any _ _ _ _ _ (by with_reducible assumption) (by with_reducible assumption)).mono ?_; rintro e wa ⟨rfl, rfl⟩) | (go_at_call 22; refine (HS.out).mono ?_; rintro e wb ⟨rfl, hbb⟩; have hxb : wb.cell? ⟨X, 0, none⟩ = some (.int .i64 xi) ∧ wb.cell? ⟨Y, 0, none⟩ = some (.int .i64 yi) := ⟨(hbb.cell (p := ⟨X, 0, none⟩) hXl8).trans hx0', (hbb.cell (p := ⟨Y, 0, none⟩) hYl8).trans hy0'⟩))
    have HBB := Lib.hid (HBS.out.trans (hbb.mono HBS.out.size))
    clear hbb hxb
    go_wp2_with fail
    go_ret
    exact ⟨rfl, HBB.out⟩
end Go.Proofs.YtdeamjimjcojhaaDoor
