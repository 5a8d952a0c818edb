/-
  The walk of LockfreeSerial: from whatever numbers it answers true and only makes memory. Conditions: the argument can be read; 'letters' is as its initialiser lays it.
-/
import Derived.Test.YtmhbloefmknikaaDoorOcA
import Derived.Test.YtmhbloefmknikaaDoorOdA
namespace Go.Proofs.YtmhbloefmknikaaDoor
open Go.RowKit Go.Maps
namespace Lf
open Lk
theorem sta_ser {l : Ls} (h : Led l) (hb : busV l = 0) {kd c : Int} (hk : 1 ≤ kd ∧ kd ≤ 3) (hc : 2 ≤ c) : (c < (l.cs.length : Int) → staE l 0 kd c = if kd = 1 ∧ (l.at_ c.toNat).lock = 1 then 5 else 0) ∧ (¬ c < (l.cs.length : Int) → staE l 0 kd c = 6) := by
  have hm := h.1.m1
  have hr := rest_ph h.1 hb 0
  unfold staE
  rw [vldB_yes h.1, if_neg (by decide), if_neg (by omega)]
  constructor
  · intro q
    rw [if_neg (by omega), if_neg (by omega), if_neg (by show ¬ ((l.pr 0).phase ≠ 0 ∧ (l.pr 0).phase ≠ 18); omega)]
  · intro q
    rw [if_pos (by omega)]
theorem trv_len (l : Ls) : ∀ f seen a, (trv l f seen a).length ≤ f
  | 0, _, _ => Nat.le_refl _
  | f + 1, seen, a => by
    have h := trv_len l f (a :: seen) (l.at_ a).right.toNat
    rw [trv]
    split
    · exact Nat.zero_le _
    · split
      · rw [List.length_cons]; omega
      · omega
theorem memV_len (l : Ls) : (memV l).length ≤ l.cs.length := trv_len l _ _ _
/-- The row of used cells lies apart from what else is read. -/
def Apt (v : Value) (B G1 G2 : Nat) (ids : List Int) (A : Option Addr) : Prop := ∀ j, v.ownBlock = some j → j ≠ B ∧ j ≠ G1 ∧ j ≠ G2 ∧ (ids ≠ [] → ∀ a : Addr, A = some a → a.block ≠ j)
theorem hol_grown {w w' : World} {row : Option Nat} {B lo : Nat} {l : Ls} {n m G1 G2 d1 d2 : Nat} (k : HoL w B lo l n m G1 G2 d1 d2) (v : Vlf l) (hg : w.grownBy w' row) (hd : ∀ j, row = some j → j ≠ B ∧ j ≠ G1 ∧ j ≠ G2) : HoL w' B lo l n m G1 G2 d1 d2 := by
  have hgl := k.gltF v
  have hb : ∀ i, i < w.heap.size → (i = B ∨ i = G1 ∨ i = G2) → w'.heap[i]? = w.heap[i]? := fun i hi hx => hg.block i hi (fun e => by have := hd i e.symm; omega)
  have e := hb B k.lt (.inl rfl)
  refine ⟨(World.cell?_of_block (a := ⟨B, 0, none⟩) e).trans k.x0, (World.cell?_of_block (a := ⟨B, 1, none⟩) e).trans k.x1, fun o => (World.frozen?_of_block (a := ⟨B, o, none⟩) e).trans (k.fz o), k.n1, k.n2, k.lB, ⟨fun hc => ?_, fun hc => ?_⟩, k.hn, k.hm⟩
  · obtain ⟨b, o, q1, q2, q3, q4⟩ := k.rd.cs hc
    injection q1 with q1
    injection q1 with q5 q6
    subst q5
    exact ⟨_, o, by rw [q6], q2, Nat.lt_of_lt_of_le q3 hg.size, fun i hi j u hu => (World.cell?_of_block (hb _ hgl.1 (.inr (.inl rfl)))).trans (q4 i hi j u hu)⟩
  · obtain ⟨b, o, q1, q2, q3, q4⟩ := k.rd.ps hc
    injection q1 with q1
    injection q1 with q5 q6
    subst q5
    exact ⟨_, o, by rw [q6], q2, Nat.lt_of_lt_of_le q3 hg.size, fun i hi j u hu => (World.cell?_of_block (hb _ hgl.2 (.inr (.inr rfl)))).trans (q4 i hi j u hu)⟩
theorem rdr_grown {α : Type} {enc : α → List Value} {k lo : Nat} {w w' : World} {A : Option Addr} {l : List α} {row : Option Nat} (h : RdR enc k w lo A l) (hg : w.grownBy w' row) (hd : l ≠ [] → ∀ j, row = some j → ∀ a : Addr, A = some a → a.block ≠ j) : RdR enc k w' lo A l := fun hc => by
  obtain ⟨b, o, q1, q2, q3, q4⟩ := h hc
  exact ⟨b, o, q1, q2, Nat.lt_of_lt_of_le q3 hg.size, fun i hi j u hu => (World.cell?_of_block (hg.block b q3 (fun e => hd hc b e.symm _ q1 rfl))).trans (q4 i hi j u hu)⟩
/-- The row of used cells as it is known. -/
def Usd (w : World) (U0 : Nat) (v : Value) (U : List Nat) : Prop := OwnR nrow 1 3 w U0 v (nat2 U)
theorem usd_read {w : World} {U0 : Nat} {A : Option Addr} {n c : Nat} {U : List Nat} (h : Usd w U0 (.slice A n c) U) : (nat2 U).length = n ∧ RdR nrow 1 w U0 A (nat2 U) := by
  obtain ⟨A', c', e, _, _, hr⟩ := OwnR.read h (fun _ => rfl)
  injection e with e1 e2 e3
  subst e1
  exact ⟨e2.symm, hr⟩
theorem usd_set2 {w : World} {U0 B : Nat} {v : Value} {U : List Nat} (h : Usd w U0 v U) (hB : B < U0) (x y : Value) : Usd ((w.setCell ⟨B, 0, none⟩ x).setCell ⟨B, 1, none⟩ y) U0 v U :=
  have k2 := ((But.refl (X := B) (a := w)).set (p := ⟨B, 0, none⟩) rfl x).set (p := ⟨B, 1, none⟩) rfl y
  OwnR.keep h fun i _ h2 => k2.block i h2 (by omega)
theorem apt_new {w : World} {v : Value} {U0 : Nat} {U : List Nat} {B G1 G2 K1 K2 : Nat} {ids : List Int} {A : Option Addr} (h : Apt v B G1 G2 ids A) (hu : Usd w U0 v U) (h1 : w.heap.size ≤ K1) (h2 : w.heap.size ≤ K2) : Apt v B K1 K2 ids A := fun j hj => by
  have a := h j hj
  have b := (OwnR.lt hu j hj).2
  exact ⟨a.1, by omega, by omega, a.2.2.2⟩
theorem apt_ids {w : World} {v : Value} {U0 lo : Nat} {U : List Nat} {B G1 G2 : Nat} {ids ids' : List Int} {A A' : Option Addr} (h : Apt v B G1 G2 ids A) (hu : Usd w U0 v U) {w' : World} (hr : RdR nrow 1 w' lo A' ids') (hlo : w.heap.size ≤ lo) : Apt v B G1 G2 ids' A' := fun j hj => by
  have a := h j hj
  have b := (OwnR.lt hu j hj).2
  refine ⟨a.1, a.2.1, a.2.2.1, fun hc x hx => ?_⟩
  obtain ⟨y, o, q1, q2, q3, q4⟩ := hr hc
  rw [hx] at q1
  injection q1 with q1
  subst q1
  show y ≠ j
  omega
/-- Which cells are in use. -/
def UsL (l : Ls) (U : List Nat) : Prop := ∀ i, 2 ≤ i → i < l.cs.length → ((l.at_ i).lock = 1 ↔ i ∈ U)
/-- What drawn numbers leave. -/
def DrR (R : World → Prop) (n : Nat) (s1 s2 : Value) (wx : World) : Prop := ∃ kd c : Nat, s1 = .int .i64 (kd : Int) ∧ s2 = .int .i64 (c : Int) ∧ 1 ≤ kd ∧ kd ≤ 3 ∧ 2 ≤ c ∧ c ≤ n ∧ R wx
def SeR (w1 : World) (B lo g : Nat) (l : Ls) (n m G1 G2 d1 d2 : Nat) (A : Option Addr) (ids : List Int) (U0 : Nat) (vU : Value) (U : List Nat) (wx : World) : Prop := HoL wx B lo l n m G1 G2 d1 d2 ∧ TStep w1 g wx ∧ B + 1 ≤ wx.heap.size ∧ RdR nrow 1 wx (B + 1) A ids ∧ Usd wx U0 vU U ∧ U0 ≤ wx.heap.size
set_option maxRecDepth 100000 in
set_option maxHeartbeats 20000000 in
theorem serial_walk (A : Option Addr) (n0 cp : Nat) (w : World) (hL : Lets w) (hnc : n0 ≤ cp) (hc : cp ≤ maxLen) (hN : Nums w w.heap.size A n0) :
    Calls Tryd.prog 9 #[.slice A n0 cp] w (LawP w) := by
  go_enter Tryd.func9, Tryd.ntmps9
  go_wp2_with fail
  refine (Go.Proofs.YtmhbloefmknikaaDoor.new_any A n0 cp _ hnc hc hN).mono ?_
  rintro e w1 ⟨g, hg1, rfl, hTp, hb1⟩
  have hne2 : 0 ≠ g := by have := hL.lt; omega
  have l1 := hL.below hb1
  have hgw := hTp.lt
  have HB1 := Lib.hid hb1
  clear hN hnc hc hL hb1
  go_wp2_with fail
  refine (made_any g w1 hTp l1 hne2 hgw).mono ?_
  rintro e w2 ⟨l0, n, m, J1, J2, c1, c2, rfl, hfr, hrd, hst⟩
  have hm4 : 2 ≤ m ∧ m ≤ 4 := ⟨hfr.m2, hfr.m4⟩
  have hn8 : 2 ≤ n ∧ n ≤ 8 := ⟨by rw [← hfr.hn]; exact hfr.led.1.n2, hfr.n8⟩
  have HFR := Lib.hid hfr
  have HLA := Lib.hid (HoL.newF (d1 := c1) (d2 := c2) (t := 28) (n := n) (m := m) (RdL.low hrd (Nat.le_refl _)) hfr.led.1 hst.2.size hfr.hn hfr.hm)
  have HTA := Lib.hid (hst.below ((Below.refl w2.heap.size w2).alloc (Nat.le_refl _) (.cells #[.slice (some ⟨J1, 0, none⟩) n c1, .slice (some ⟨J2, 0, none⟩) m c2] 28)))
  have hsz : (w2.alloc (.cells #[.slice (some ⟨J1, 0, none⟩) n c1, .slice (some ⟨J2, 0, none⟩) m c2] 28)).heap.size = w2.heap.size + 1 := World.size_alloc _ _
  have hs2 := hst.2.size
  clear hfr hrd hst hTp l1
  go_upto_region 3 with fail
  generalize w2.alloc (.cells #[.slice (some ⟨J1, 0, none⟩) n c1, .slice (some ⟨J2, 0, none⟩) m c2] 28) = W at *
  obtain ⟨B, hB⟩ : ∃ B, B = w2.heap.size := ⟨_, rfl⟩
  rw [← hB] at HLA hsz hs2 ⊢
  clear hB
  have y0 := HLA.out.x0
  have y1 := HLA.out.x1
  go_wp2_with fail
  refine (Members_any (some ⟨J1, 0, none⟩) ⟨J2, 0, none⟩ l0 n m c1 c2 W HLA.out.hn HLA.out.hm (HLA.out.rd.low (Nat.zero_le _)) (by omega) (by omega) (by omega)).mono ?_
  rw [vldB_yes HFR.out.led.1, if_pos rfl]
  rintro e w3 ⟨A3, k3, e3, rfl, hk3, -, -, hr3, hb3⟩
  have HL3 := Lib.hid (HLA.out.below hb3)
  have HT3 := Lib.hid (HTA.out.below hb3)
  have hs3 : B + 1 ≤ w3.heap.size := by have := hb3.size; omega
  have HR3 := Lib.hid (RdR.low hr3 (Nat.le_of_eq hsz.symm))
  have HK3 := Lib.hid hk3
  have hk8 : k3 ≤ 8 := by have h1 := memV_len l0; have h2 := HFR.out.hn; rw [← hk3, nat2_len]; omega
  have HBU : Hid (busV l0 = 0) := Lib.hid (bz_zero.2 fun p _ => by
    show act (toPr (l0.pr p)) = false
    rw [HFR.out.pr]; rfl)
  have HLD0 := Lib.hid HFR.out.led
  have HUL0 : Hid (UsL l0 (memV l0)) := Lib.hid (fun i h2 hi => new_lock HFR.out.led HFR.out.pr HFR.out.gn i h2 hi)
  have HR3b := Lib.hid hr3
  clear hk3 hr3 hb3 y0 y1 HLA HTA HFR hsz
  obtain ⟨U0, hU0⟩ : ∃ U0, U0 = w3.heap.size := ⟨_, rfl⟩
  have HU0 := Lib.hid hU0
  have hgU0 : g < U0 := by omega
  have hBU : B < U0 := by omega
  clear hU0
  go_wp2_with (at_builtin; refine wpList_copyR RowT.nu rfl (.tmp 32) (.tmp 33) rfl w3 (B + 1) A3 (nat2 (memV l0)) k3 e3 HK3.out HR3.out (by omega) (by simp [Act.eval]) (by simp [Act.eval]) ?_; intro vU w4 ho4 hb4; obtain ⟨AU0, nU0, cU0, hvU⟩ := own_sh ho4; subst hvU; have HO4 := Lib.hid ho4; have HB4 := Lib.hid hb4; clear ho4 hb4)
  have HL4 := Lib.hid (HL3.out.below HB4.out)
  have HT4 := Lib.hid (HT3.out.below HB4.out)
  have HR4 := Lib.hid (RdR.below HR3.out HB4.out)
  have hs4 : B + 1 ≤ w4.heap.size := by have := HB4.out.size; omega
  have hu4 : U0 ≤ w4.heap.size := by have := HB4.out.size; have := HU0.out; omega
  have HOU : Hid (Usd w4 U0 (.slice AU0 nU0 cU0) (memV l0)) := Lib.hid (by rw [HU0.out]; exact HO4.out)
  have HAP : Hid (Apt (.slice AU0 nU0 cU0) B J1 J2 (nat2 (memV l0)) A3) := Lib.hid (fun j hj => by
    have h1 := (HO4.out.lt j hj).1
    have h2 := HL3.out.lt
    have h3 := HL3.out.gltF HLD0.out.1
    refine ⟨by omega, by omega, by omega, fun hc a ha => ?_⟩
    obtain ⟨b, o, q1, q2, q3, q4⟩ := HR3.out hc
    rw [ha] at q1
    injection q1 with q1
    subst q1
    show b ≠ j
    omega)
  have HLE0 : Hid ((memV l0).length ≤ 8 + 0) := Lib.hid (by have := HK3.out; rw [nat2_len] at this; omega)
  clear HL3 HT3 HR3 HR3b HO4 HB4
  go_loopw [6, 7, 8] (fun v6 v7 v8 wr => ∃ (l : Ls) (i k G1 G2 d1 d2 cc : Nat) (AA : Option Addr) (U : List Nat) (AU : Option Addr) (nU cU : Nat), v6 = .slice AA k cc ∧ v7 = .slice AU nU cU ∧ v8 = .int .i64 (i : Int) ∧ i ≤ 8 ∧ HoL wr B w1.heap.size l n m G1 G2 d1 d2 ∧ Hid (Led l) ∧ Hid (busV l = 0) ∧ TStep w1 g wr ∧ B + 1 ≤ wr.heap.size ∧ Hid ((nat2 (memV l)).length = k) ∧ RdR nrow 1 wr (B + 1) AA (nat2 (memV l)) ∧ Usd wr U0 (.slice AU nU cU) U ∧ U0 ≤ wr.heap.size ∧ Hid (UsL l U) ∧ Hid (U.length ≤ 8 + i) ∧ Hid (Apt (.slice AU nU cU) B G1 G2 (nat2 (memV l)) AA)) (fun _ _ v8 _ => 8 - (intOf v8).toNat)
  case atStart => exact ⟨l0, 0, k3, J1, J2, c1, c2, e3, A3, memV l0, AU0, nU0, cU0, rfl, rfl, rfl, Nat.zero_le _, HL4.out, HLD0, HBU, HT4.out, hs4, HK3, HR4.out, HOU.out, hu4, HUL0, HLE0, HAP⟩
  case round =>
    clear HL4 HT4 hs4 HK3 HR4 HLD0 HBU HOU hu4 HUL0 HLE0 HAP HU0 hs3 hk8
    obtain ⟨l, i, k, G1, G2, d1, d2, cc, AA, U, AU, nU, cU, rfl, rfl, rfl, hi, hl, HLD, HBU, ht, hs, HK, hr, hou, huw, HUL, HLEN, HAP⟩ := hrel
    have HL := Lib.hid hl
    have HT := Lib.hid ht
    have HR := Lib.hid hr
    have HO := Lib.hid hou
    have HLN := Lib.hid hl.hn
    clear hl ht hr hou
    by_cases hlt : i < 8
    · have hd : decide ((i : Int) < 8) = true := by simp; omega
      go_wp2_with fail
      refine (left_any g wr HT.out.1).mono ?_
      rintro e w4 ⟨b4, rfl, hst4⟩
      have HL4 := Lib.hid (HL.out.step hgw hst4)
      have HT4 := Lib.hid (HT.out.trans hst4)
      have HR4 := Lib.hid (RdR.step HR.out (Nat.lt_of_lt_of_le hgw (by omega : w1.heap.size ≤ B + 1)) hst4)
      have HO4 : Hid (Usd w4 U0 (.slice AU nU cU) U) := Lib.hid (OwnR.step HO.out hgU0 hst4)
      have hu4 : U0 ≤ w4.heap.size := Nat.le_trans huw hst4.2.size
      have hs4 : B + 1 ≤ w4.heap.size := Nat.le_trans hs hst4.2.size
      clear hst4
      cases b4 with
      | true =>
        have y0 := HL4.out.x0
        have y1 := HL4.out.x1
        go_upto_region 10 with fail
        have HLE : Hid (HoL w4.drew B w1.heap.size l n m G1 G2 d1 d2) := Lib.hid HL4.out.drew
        have HTE : Hid (TStep w1 g w4.drew) := Lib.hid (HT4.out.below (Below.refl _ w4).drew)
        have HRE : Hid (RdR nrow 1 w4.drew (B + 1) AA (nat2 (memV l))) := Lib.hid (RdR.below HR4.out (Below.refl _ w4).drew)
        have HOE : Hid (Usd w4.drew U0 (.slice AU nU cU) U) := Lib.hid (OwnR.below HO4.out (Below.refl _ w4).drew)
        have huE : U0 ≤ w4.drew.heap.size := hu4
        go_cut [9, 10] (fun s9 s10 wx => DrR (SeR w1 B w1.heap.size g l n m G1 G2 d1 d2 AA (nat2 (memV l)) U0 (.slice AU nU cU) U) n s9 s10 wx)
        case first =>
          obtain ⟨n2, hn2⟩ : ∃ n2 : Nat, n = n2 + 2 := ⟨n - 2, by omega⟩
          have HN2 := Lib.hid hn2
          have hw9 : IntKind.i64.wrap ((n : Int) - 2) = (n2 : Int) := by rw [IntWalk.i64_in _ (by omega)]; omega
          clear hn2
          have hS4 : w4.drew.cell? ⟨B, 0, none⟩ = some (.slice (some ⟨G1, 0, none⟩) n d1) := HLE.out.x0
          rcases Nat.eq_zero_or_pos n2 with h0 | h0
          · subst h0
            go_region_held3 (fun w' => w'.cell? ⟨B, 0, none⟩ = some (.slice (some ⟨G1, 0, none⟩) n d1))
              (first | with_reducible exact hS6 | with_reducible exact hS5 | with_reducible exact hS4 | with_reducible exact y0 | with_reducible assumption)
              (first | (go_at_call 13; (with_reducible refine (next_any g 3 w4.drew (tstp_tape HTE.out) (by omega)).mono ?_); rintro e w5 ⟨r5, r50, r51, rfl, hst5⟩; have hr5 : 0 ≤ r5 ∧ r5 ≤ 2 := (by omega); have e5 : IntKind.i64.wrap (1 + r5) = 1 + r5 := (IntWalk.i64_in _ (by omega)); have HL5 := Lib.hid (HLE.out.step hgw hst5); have HT5 := Lib.hid (HTE.out.trans hst5); have HR5 := Lib.hid (RdR.step HRE.out (Nat.lt_of_lt_of_le hgw (by omega : w1.heap.size ≤ B + 1)) hst5); have HO5 : Hid (Usd w5 U0 (.slice AU nU cU) U) := Lib.hid (OwnR.step HOE.out hgU0 hst5); have hu5 : U0 ≤ w5.heap.size := Nat.le_trans huE hst5.2.size; have hs5 : B + 1 ≤ w5.heap.size := Nat.le_trans hs4 hst5.2.size; have hS5 := HL5.out.x0; clear hst5 r50 r51) | (go_at_call 13; (with_reducible refine (next_any g _ w5 (tstp_tape HT5.out) (by omega)).mono ?_); rintro e w6 ⟨r6, r60, r61, rfl, hst6⟩; have hr6 : 0 ≤ r6 ∧ 2 + r6 ≤ (n : Int) := (by have := HN2.out; omega); have e6 : IntKind.i64.wrap (2 + r6) = 2 + r6 := (IntWalk.i64_in _ (by omega)); have HL6 := Lib.hid (HL5.out.step hgw hst6); have HT6 := Lib.hid (HT5.out.trans hst6); have HR6 := Lib.hid (RdR.step HR5.out (Nat.lt_of_lt_of_le hgw (by omega : w1.heap.size ≤ B + 1)) hst6); have HO6 : Hid (Usd w6 U0 (.slice AU nU cU) U) := Lib.hid (OwnR.step HO5.out hgU0 hst6); have hu6 : U0 ≤ w6.heap.size := Nat.le_trans hu5 hst6.2.size; have hs6 : B + 1 ≤ w6.heap.size := Nat.le_trans hs5 hst6.2.size; have hS6 := HL6.out.x0; clear hst6 r60 r61))
            all_goals (go_wp2_with fail; go_meet; exact ⟨(1 + r5).toNat, (2 + r6).toNat, by rw [Int.toNat_of_nonneg (by omega)], by rw [Int.toNat_of_nonneg (by omega)], by omega, by omega, by omega, by omega, HL6.out, HT6.out, hs6, HR6.out, HO6.out, hu6⟩)
          · have h1 : ¬ n2 < 1 := by omega
            have h2 : ¬ n2 = 0 := by omega
            have h3 : decide ((n2 : Int) < 1) = false := by simp; omega
            have hn26 : n2 ≤ 6 := by have := HN2.out; omega
            go_region_held3 (fun w' => w'.cell? ⟨B, 0, none⟩ = some (.slice (some ⟨G1, 0, none⟩) n d1))
              (first | with_reducible exact hS6 | with_reducible exact hS5 | with_reducible exact hS4 | with_reducible exact y0 | with_reducible assumption)
              (first | (go_at_call 13; (with_reducible refine (next_any g 3 w4.drew (tstp_tape HTE.out) (by omega)).mono ?_); rintro e w5 ⟨r5, r50, r51, rfl, hst5⟩; have hr5 : 0 ≤ r5 ∧ r5 ≤ 2 := (by omega); have e5 : IntKind.i64.wrap (1 + r5) = 1 + r5 := (IntWalk.i64_in _ (by omega)); have HL5 := Lib.hid (HLE.out.step hgw hst5); have HT5 := Lib.hid (HTE.out.trans hst5); have HR5 := Lib.hid (RdR.step HRE.out (Nat.lt_of_lt_of_le hgw (by omega : w1.heap.size ≤ B + 1)) hst5); have HO5 : Hid (Usd w5 U0 (.slice AU nU cU) U) := Lib.hid (OwnR.step HOE.out hgU0 hst5); have hu5 : U0 ≤ w5.heap.size := Nat.le_trans huE hst5.2.size; have hs5 : B + 1 ≤ w5.heap.size := Nat.le_trans hs4 hst5.2.size; have hS5 := HL5.out.x0; clear hst5 r50 r51) | (go_at_call 13; (with_reducible refine (next_any g _ w5 (tstp_tape HT5.out) (by omega)).mono ?_); rintro e w6 ⟨r6, r60, r61, rfl, hst6⟩; have hr6 : 0 ≤ r6 ∧ 2 + r6 ≤ (n : Int) := (by have := HN2.out; omega); have e6 : IntKind.i64.wrap (2 + r6) = 2 + r6 := (IntWalk.i64_in _ (by omega)); have HL6 := Lib.hid (HL5.out.step hgw hst6); have HT6 := Lib.hid (HT5.out.trans hst6); have HR6 := Lib.hid (RdR.step HR5.out (Nat.lt_of_lt_of_le hgw (by omega : w1.heap.size ≤ B + 1)) hst6); have HO6 : Hid (Usd w6 U0 (.slice AU nU cU) U) := Lib.hid (OwnR.step HO5.out hgU0 hst6); have hu6 : U0 ≤ w6.heap.size := Nat.le_trans hu5 hst6.2.size; have hs6 : B + 1 ≤ w6.heap.size := Nat.le_trans hs5 hst6.2.size; have hS6 := HL6.out.x0; clear hst6 r60 r61))
            all_goals (go_wp2_with fail; go_meet; exact ⟨(1 + r5).toNat, (2 + r6).toNat, by rw [Int.toNat_of_nonneg (by omega)], by rw [Int.toNat_of_nonneg (by omega)], by omega, by omega, by omega, by omega, HL6.out, HT6.out, hs6, HR6.out, HO6.out, hu6⟩)
        case rest =>
          obtain ⟨kd, c, rfl, rfl, k1, k3, c2, cn, hlr, htr, hsr, hrr, hor, hur⟩ := hcut
          clear HLE HTE HRE HOE HL4 HT4 HR4 HO4 hs4 hu4 huE y0 y1 HL HT HR HO
          have HLR := Lib.hid hlr
          have HTR := Lib.hid htr
          have HRR := Lib.hid hrr
          have HOR := Lib.hid hor
          have y0 := hlr.x0
          have y1 := hlr.x1
          clear hlr htr hrr hor
          go_wp2_with fail
          refine (start_any (some ⟨G1, 0, none⟩) ⟨G2, 0, none⟩ l 0 (kd : Int) (c : Int) n m d1 d2 wc HLR.out.hn HLR.out.hm (HLR.out.rd.low (Nat.zero_le _)) (by omega) (by omega) (by omega)).mono ?_
          intro e w6 h6
          have HSE := Lib.hid (sta_ser HLD.out HBU.out (kd := (kd : Int)) (c := (c : Int)) (by omega) (by omega))
          have hd0 : (decide (kd = 0)) = false := by simp; omega
          rcases h6 with ⟨h0, rfl, hb6⟩ | ⟨h0, K1, K2, f1, f2, rfl, hr6, hb6⟩
          · by_cases hcn : (c : Int) < (n : Int)
            · have hse := HSE.out.1 (by rw [HLR.out.hn]; exact hcn)
              rw [Int.toNat_natCast] at hse
              by_cases hq : (kd : Int) = 1 ∧ (l.at_ c).lock = 1
              · rw [hse, if_pos hq]
                obtain ⟨hq1, hq2⟩ := hq
                obtain rfl : kd = 1 := by omega
                have hmu : c ∈ U := (HUL.out c (by omega) (by rw [HLN.out]; omega)).1 hq2
                have hba := hb6.trans (((Below.refl w6.heap.size w6).alloc (Nat.le_refl _) (.cells #[.slice none 0 0, .slice none 0 0] 28)).mono hb6.size)
                have HLV := Lib.hid (HLR.out.below hba)
                have HTV := Lib.hid (HTR.out.below hba)
                have HRV := Lib.hid (RdR.below HRR.out hba)
                have HOV : Hid (Usd (w6.alloc (.cells #[.slice none 0 0, .slice none 0 0] 28)) U0 (.slice AU nU cU) U) := Lib.hid (OwnR.below HOR.out hba)
                have hsV : B + 1 ≤ (w6.alloc (.cells #[.slice none 0 0, .slice none 0 0] 28)).heap.size := by have := hba.size; omega
                have huV : U0 ≤ (w6.alloc (.cells #[.slice none 0 0, .slice none 0 0] 28)).heap.size := by have := hba.size; omega
                clear hb6 h0 hse hq1 hq2 hba HSE hd0 y0 y1
                unfold zeroL
                go_upto_region 12 with fail
                generalize w6.alloc (.cells #[.slice none 0 0, .slice none 0 0] 28) = V at *
                have y0 := HLV.out.x0
                have y1 := HLV.out.x1
                have hcn2 : decide ((c : Int) ≥ (n : Int)) = false := by simp; omega
                have hcn3 : decide ((n : Int) ≤ (c : Int)) = false := by simp; omega
                have hcn4 : decide (n ≤ c) = false := by simp; omega
                have hrd := usd_read HOV.out
                have HRD := Lib.hid hrd.2
                have HNU := Lib.hid hrd.1
                clear hrd
                go_wp2_with fail
                refine (rhas_num AU (nat2 U) nU cU U0 (c : Int) V HNU.out HRD.out (by have := HNU.out; rw [nat2_len] at this; have := HLEN.out; omega)).mono ?_
                rintro e w' ⟨rfl, rfl⟩
                rw [has_dec, decide_eq_true hmu]
                go_wp2_with fail
                exact ⟨⟨l, i + 1, k, G1, G2, d1, d2, cc, AA, U, AU, nU, cU, rfl, rfl, by go_num, by omega, HLV.out, HLD, HBU, HTV.out, hsV, HK, HRV.out, HOV.out, huV, HUL, Lib.hid (by have := HLEN.out; omega), HAP⟩, by simp [intOf]; omega⟩
              · exact absurd (by rw [hse, if_neg hq]) h0
            · rw [HSE.out.2 (by rw [HLR.out.hn]; exact hcn)]
              have hcn2 : decide ((c : Int) ≥ (n : Int)) = true := by simp; omega
              have hcn3 : decide ((n : Int) ≤ (c : Int)) = true := by simp; omega
              have hcn4 : c = n := by omega
              have hsz6 := hb6.size
              have HL6 := Lib.hid (HLR.out.below hb6)
              have HT6 := Lib.hid (HTR.out.below hb6)
              replace y0 := HL6.out.x0
              replace y1 := HL6.out.x1
              have HB6 := Lib.hid hb6
              clear hb6 h0
              unfold zeroL
              go_upto_region 12 with fail
              have x0 : (w6.alloc (.cells #[.slice none 0 0, .slice none 0 0] 28)).cell? ⟨B, 0, none⟩ = some (.slice (some ⟨G1, 0, none⟩) n d1) := (HL6.out.below ((Below.refl w6.heap.size w6).alloc (Nat.le_refl _) _)).x0
              go_wp2_with fail
              refine (sane12_any _).mono ?_
              rintro e w' ⟨rfl, hb⟩
              go_wp2_with fail
              go_ret
              have hbs := hb.size
              rw [World.size_alloc] at hb
              exact ⟨rfl, (HB1.out.grown HT6.out.2 HB1.out.size (fun j e => by have := Option.some.inj e; omega)).trans ((((Below.refl w6.heap.size w6).alloc (Nat.le_refl _) _).trans (hb.mono (by omega))).mono (by have := HT6.out.2.size; have := HB1.out.size; omega))⟩
          · have hcn : (c : Int) < (n : Int) := by
              rcases Int.lt_or_le (c : Int) (n : Int) with q | q
              · exact q
              · rw [HSE.out.2 (by rw [HLR.out.hn]; omega)] at h0; cases h0
            have hnu : (kd : Int) = 1 → (l.at_ (c : Int).toNat).lock ≠ 1 := fun q1 q2 => by
              rw [HSE.out.1 (by rw [HLR.out.hn]; exact hcn), if_pos ⟨q1, q2⟩] at h0
              cases h0
            obtain ⟨was, missed, hse⟩ := ser_beg HLD.out HBU.out (k := (kd : Int)) (c := (c : Int)) (by have := HLR.out.hn; omega) (by omega) hnu
            rw [Int.toNat_natCast] at hnu
            have HNU2 : Hid (kd = 1 → c ∉ U) := Lib.hid (fun q r => hnu (by omega) ((HUL.out c (by omega) (by rw [HLN.out]; omega)).2 r))
            have HSR := Lib.hid hse
            have hlo6 := rd_loF hr6 (ledS_led hse.led).1
            have hba := (Below.refl w6.heap.size w6).alloc (Nat.le_refl _) (.cells #[.slice (some ⟨K1, 0, none⟩) n f1, .slice (some ⟨K2, 0, none⟩) m f2] 28)
            have hbc := hb6.trans (hba.mono hb6.size)
            have HLS := Lib.hid (HoL.putF (d1 := f1) (d2 := f2) HLR.out hbc (hr6.below hba) (ledS_led hse.led).1 ((beg_len l 0 (kd : Int) (c : Int)).1.trans HLR.out.hn) ((beg_len l 0 (kd : Int) (c : Int)).2.trans HLR.out.hm))
            have HLV := Lib.hid (HLR.out.below hbc)
            have HTS := Lib.hid ((HTR.out.below hbc).set (p := ⟨B, 0, none⟩) HLR.out.lB hgw (.slice (some ⟨K1, 0, none⟩) n f1) |>.set (p := ⟨B, 1, none⟩) HLR.out.lB hgw (.slice (some ⟨K2, 0, none⟩) m f2))
            have HRS := Lib.hid (rdr_set2 (RdR.below HRR.out hbc) (Nat.lt_succ_self B) (.slice (some ⟨K1, 0, none⟩) n f1) (.slice (some ⟨K2, 0, none⟩) m f2))
            have HOV : Hid (Usd (w6.alloc (.cells #[.slice (some ⟨K1, 0, none⟩) n f1, .slice (some ⟨K2, 0, none⟩) m f2] 28)) U0 (.slice AU nU cU) U) := Lib.hid (OwnR.below HOR.out hbc)
            have HOS := Lib.hid (usd_set2 HOV.out hBU (.slice (some ⟨K1, 0, none⟩) n f1) (.slice (some ⟨K2, 0, none⟩) m f2))
            have HAPS : Hid (Apt (.slice AU nU cU) B K1 K2 (nat2 (memV l)) AA) := Lib.hid (apt_new HAP.out HOR.out hlo6.1 hlo6.2)
            have hsV : B + 1 ≤ (w6.alloc (.cells #[.slice (some ⟨K1, 0, none⟩) n f1, .slice (some ⟨K2, 0, none⟩) m f2] 28)).heap.size := by have := hbc.size; omega
            have huV : U0 ≤ (w6.alloc (.cells #[.slice (some ⟨K1, 0, none⟩) n f1, .slice (some ⟨K2, 0, none⟩) m f2] 28)).heap.size := by have := hbc.size; omega
            have HY := Lib.hid (Has.new w6 28 #[.slice (some ⟨K1, 0, none⟩) n f1, .slice (some ⟨K2, 0, none⟩) m f2])
            clear hb6 h0 hr6 hse HSE hlo6 hba hbc hnu HLR HTR HRR HOR y0 y1 hd0
            go_upto_region 12 with fail
            generalize w6.alloc (.cells #[.slice (some ⟨K1, 0, none⟩) n f1, .slice (some ⟨K2, 0, none⟩) m f2] 28) = V at *
            generalize w6.heap.size = C at *
            have y0 := HLV.out.x0
            have y1 := HLV.out.x1
            have hcn2 : decide ((c : Int) ≥ (n : Int)) = false := by simp; omega
            have hcn3 : decide ((n : Int) ≤ (c : Int)) = false := by simp; omega
            have hcn4 : decide (n ≤ c) = false := by simp; omega
            go_upto_region 14 with fail
            go_cut [13] (fun s13 wx => s13 = .bool false ∧ V = wx)
            case first =>
              by_cases hk1 : kd = 1
              · subst hk1
                have hrd := usd_read HOV.out
                have HRD := Lib.hid hrd.2
                have HNU := Lib.hid hrd.1
                clear hrd
                go_wp2_with fail
                refine (rhas_num AU (nat2 U) nU cU U0 (c : Int) V HNU.out HRD.out (by have := HNU.out; rw [nat2_len] at this; have := HLEN.out; omega)).mono ?_
                rintro e w' ⟨rfl, rfl⟩
                rw [has_dec, decide_eq_false (HNU2.out (by trivial))]
                go_wp2_with fail
                go_meet
                exact ⟨rfl, rfl⟩
              · have hk2 : ((kd : Int) == 1) = false := by simp; omega
                go_wp2_with fail
                go_meet
                exact ⟨rfl, rfl⟩
            case rest =>
              obtain ⟨rfl, rfl⟩ := hcut
              have u0 := HY.out.cell 0
              have u1 := HY.out.cell 1
              have z0 := HLV.out.fz 0
              have z1 := HLV.out.fz 1
              have hsS : B + 1 ≤ ((V.setCell ⟨B, 0, none⟩ (.slice (some ⟨K1, 0, none⟩) n f1)).setCell ⟨B, 1, none⟩ (.slice (some ⟨K2, 0, none⟩) m f2)).heap.size := by simp only [World.size_setCell]; exact hsV
              have huS : U0 ≤ ((V.setCell ⟨B, 0, none⟩ (.slice (some ⟨K1, 0, none⟩) n f1)).setCell ⟨B, 1, none⟩ (.slice (some ⟨K2, 0, none⟩) m f2)).heap.size := by simp only [World.size_setCell]; exact huV
              go_upto_region 19 with fail
              clear y0 y1 z0 z1 u0 u1 HLV HOV HY hsV huV
              generalize (V.setCell ⟨B, 0, none⟩ (.slice (some ⟨K1, 0, none⟩) n f1)).setCell ⟨B, 1, none⟩ (.slice (some ⟨K2, 0, none⟩) m f2) = V9 at *
              go_wp2_with fail
              go_loopw [14] (fun v14 wr => ∃ (l' : Ls) (nn kf H1 H2 e1 e2 : Nat) (did was missed : Bool), v14 = .int .i64 (nn : Int) ∧ nn + kf ≤ 40 ∧ HoL wr B w1.heap.size l' n m H1 H2 e1 e2 ∧ Hid (Ser (memV l) (kd : Int) (c : Int) l' kf did was missed) ∧ TStep w1 g wr ∧ B + 1 ≤ wr.heap.size ∧ RdR nrow 1 wr (B + 1) AA (nat2 (memV l)) ∧ Usd wr U0 (.slice AU nU cU) U ∧ U0 ≤ wr.heap.size ∧ Hid (∀ x, (l'.at_ x).lock = ((begV l 0 (kd : Int) (c : Int)).at_ x).lock) ∧ Hid (Apt (.slice AU nU cU) B H1 H2 (nat2 (memV l)) AA)) (fun v14 _ => 40 - (intOf v14).toNat)
              case atStart => exact ⟨begV l 0 (kd : Int) (c : Int), 0, _, K1, K2, f1, f2, false, was, missed, rfl, by have := HLN.out; omega, HLS.out, HSR, HTS.out, hsS, HRS.out, HOS.out, huS, Lib.hid (fun _ => rfl), HAPS⟩
              case round =>
              clear HLS HTS HRS hsS HSR HOS huS HAPS
              obtain ⟨l', nn, kf, H1, H2, e1, e2, did, was, missed, rfl, hnk, hl, HSR, ht, hs, hr, ho, hu, HLK7, HAP7⟩ := hrel
              have HL := Lib.hid hl
              have HT := Lib.hid ht
              have HR := Lib.hid hr
              have HO := Lib.hid ho
              have HLD' := Lib.hid (ledS_led HSR.out.led)
              have y0 := hl.x0
              have y1 := hl.x1
              clear hl ht hr ho
              go_wp2_with fail
              refine (rbusyF_any (some ⟨H1, 0, none⟩) (some ⟨H2, 0, none⟩) l' n m e1 e2 _ wr HL.out.hm HL.out.rd.ps HLD'.out.1).mono ?_
              rintro e w7 ⟨rfl, hb7⟩
              have HL7 := Lib.hid (HL.out.below hb7)
              have HT7 := Lib.hid (HT.out.below hb7)
              have HR7 := Lib.hid (RdR.below HR.out hb7)
              have HO7 : Hid (Usd w7 U0 (.slice AU nU cU) U) := Lib.hid (OwnR.below HO.out hb7)
              have hs7 : B + 1 ≤ w7.heap.size := by have := hb7.size; omega
              have hu7 : U0 ≤ w7.heap.size := by have := hb7.size; omega
              have HLN7 := Lib.hid HL7.out.hn
              replace y0 := HL7.out.x0
              replace y1 := HL7.out.x1
              clear hb7 HL HT HR HO hs hu
              by_cases hbz : 0 < busV l'
              · have HCA := Lib.hid (ser_can HSR.out hbz)
                have hd : decide ((0 : Int) < (busV l' : Int)) = true := by simp; omega
                have hdn : decide (0 < busV l') = true := by simpa using hbz
                generalize busV l' = bz at *
                obtain ⟨l2, hl2⟩ := HCA.out
                have hse2 := ser_step HSR.out hl2
                have hstp : stpO l' 0 = some l2 := by
                  unfold stpO
                  rw [if_pos ⟨by decide, by have := HL7.out.hm; omega⟩]
                  exact hl2
                have HSE2 := Lib.hid hse2
                have HST := Lib.hid hstp
                have HLNs := Lib.hid (stp_len HLD'.out.1 hstp)
                have HLK2 : Hid (∀ x, (l2.at_ x).lock = ((begV l 0 (kd : Int) (c : Int)).at_ x).lock) := Lib.hid (fun x => (step_lock HLD'.out.1 (by have := HL7.out.hm; omega) hl2 x).trans (HLK7.out x))
                have h60 : decide ((nn : Int) > 60) = false := by simp; omega
                have h60b : decide ((60 : Int) < (nn : Int)) = false := by simp; omega
                clear hse2 hstp hl2
                go_wp2_with fail
                refine (step_any ⟨H1, 0, none⟩ ⟨H2, 0, none⟩ l' 0 n m e1 e2 w7 HL7.out.hn HL7.out.hm (HL7.out.rd.low (Nat.zero_le _)) HLD'.out.1).mono ?_
                rintro e w8 ⟨K1, K2, f1, f2, rfl, hr8, hb8⟩
                rw [HST.out] at hr8 ⊢
                have hr8' : RdL w8 w7.heap.size (some ⟨K1, 0, none⟩) (some ⟨K2, 0, none⟩) l2 := hr8
                obtain ⟨hk0, did2, was2, mis2, hse3⟩ := HSE2.out
                have hb9 := hb8.trans ((((Below.refl w8.heap.size w8).alloc (Nat.le_refl _) (.cells #[.slice (some ⟨K1, 0, none⟩) n f1, .slice (some ⟨K2, 0, none⟩) m f2] 28))).mono hb8.size)
                have hba := (Below.refl w8.heap.size w8).alloc (Nat.le_refl _) (.cells #[.slice (some ⟨K1, 0, none⟩) n f1, .slice (some ⟨K2, 0, none⟩) m f2] 28)
                have hlr9 := HL7.out.below hb9
                have hlo9 := rd_loF hr8' (ledS_led hse3.led).1
                have HLx := Lib.hid (HoL.putF (d1 := f1) (d2 := f2) HL7.out hb9 (hr8'.below hba) (ledS_led hse3.led).1 (HLNs.out.1.trans HL7.out.hn) (HLNs.out.2.trans HL7.out.hm))
                have HTx := Lib.hid ((HT7.out.below hb9).set (p := ⟨B, 0, none⟩) hlr9.lB hgw (.slice (some ⟨K1, 0, none⟩) n f1) |>.set (p := ⟨B, 1, none⟩) hlr9.lB hgw (.slice (some ⟨K2, 0, none⟩) m f2))
                have HRx := Lib.hid (rdr_set2 (RdR.below HR7.out hb9) (Nat.lt_succ_self B) (.slice (some ⟨K1, 0, none⟩) n f1) (.slice (some ⟨K2, 0, none⟩) m f2))
                have HOx : Hid (Usd _ U0 (.slice AU nU cU) U) := Lib.hid (usd_set2 (show Usd (w8.alloc (.cells #[.slice (some ⟨K1, 0, none⟩) n f1, .slice (some ⟨K2, 0, none⟩) m f2] 28)) U0 (.slice AU nU cU) U from OwnR.below HO7.out hb9) hBU (.slice (some ⟨K1, 0, none⟩) n f1) (.slice (some ⟨K2, 0, none⟩) m f2))
                have HAPx : Hid (Apt (.slice AU nU cU) B K1 K2 (nat2 (memV l)) AA) := Lib.hid (apt_new HAP7.out HO7.out hlo9.1 hlo9.2)
                have hsx : B + 1 ≤ (((w8.alloc (.cells #[.slice (some ⟨K1, 0, none⟩) n f1, .slice (some ⟨K2, 0, none⟩) m f2] 28)).setCell ⟨B, 0, none⟩ (.slice (some ⟨K1, 0, none⟩) n f1)).setCell ⟨B, 1, none⟩ (.slice (some ⟨K2, 0, none⟩) m f2)).heap.size := by simp only [World.size_setCell]; have := hb9.size; omega
                have hux : U0 ≤ (((w8.alloc (.cells #[.slice (some ⟨K1, 0, none⟩) n f1, .slice (some ⟨K2, 0, none⟩) m f2] 28)).setCell ⟨B, 0, none⟩ (.slice (some ⟨K1, 0, none⟩) n f1)).setCell ⟨B, 1, none⟩ (.slice (some ⟨K2, 0, none⟩) m f2)).heap.size := by simp only [World.size_setCell]; have := hb9.size; omega
                have HSE3 := Lib.hid hse3
                have yA := hlr9.x0
                have yB := hlr9.x1
                have zA := hlr9.fz 0
                have zB := hlr9.fz 1
                clear hse3 hr8 hr8' hb8 hb9 hba hlr9 hlo9 y0 y1
                go_wp2_with fail
                exact ⟨⟨l2, nn + 1, kf - 1, K1, K2, f1, f2, did2, was2, mis2, by go_num, by omega, HLx.out, HSE3, HTx.out, hsx, HRx.out, HOx.out, hux, HLK2, HAPx⟩, by simp [intOf]; omega⟩
              · have hbz0 : busV l' = 0 := by omega
                have hd : decide ((0 : Int) < (busV l' : Int)) = false := by rw [hbz0]; rfl
                have hdn : decide (0 < busV l') = false := by simpa using hbz
                have hp18 : (l'.pr 0).phase = 18 := by
                  rcases rest_ph HLD'.out.1 hbz0 0 with h | h
                  · have := (HLD'.out.1.id (p := 0) (by have := HL7.out.hm; omega)).2 h
                    rw [HSR.out.kd] at this
                    omega
                  · exact h
                have HEN := Lib.hid (ser_end HSR.out (by omega) hp18)
                have HKB : Hid (k ≤ 100) := Lib.hid (by have h1 := memV_len l; have h2 := HLD.out.1.n66; rw [← HK.out, nat2_len]; omega)
                have HBU9 : Hid (busV l' = 0) := Lib.hid hbz0
                obtain ⟨bz, hbe⟩ : ∃ bz, bz = busV l' := ⟨_, rfl⟩
                rw [← hbe] at hd hdn ⊢
                clear hbe hbz hbz0 hp18
                go_wp2_with fail
                refine (rhas_num AA (nat2 (memV l)) k cc (B + 1) (c : Int) w7 HK.out HR7.out (by have := HKB.out; omega)).mono ?_
                rintro e w' ⟨rfl, rfl⟩
                rw [has_dec]
                obtain ⟨D, hD⟩ : ∃ D, D = decide (c ∈ memV l) := ⟨_, rfl⟩
                rw [← hD]
                have HDD := Lib.hid hD
                clear hD
                go_wp2_with fail
                refine (Members_any (some ⟨H1, 0, none⟩) ⟨H2, 0, none⟩ l' n m e1 e2 w7 HL7.out.hn HL7.out.hm (HL7.out.rd.low (Nat.zero_le _)) (by omega) (by omega) (by omega)).mono ?_
                rw [vldB_yes HLD'.out.1, if_pos rfl]
                rintro e w9 ⟨A9, k9, c9, rfl, hk9, -, -, hr9, hb9⟩
                have HL9 := Lib.hid (HL7.out.below hb9)
                have HT9 := Lib.hid (HT7.out.below hb9)
                have HRM9 := Lib.hid (RdR.below HR7.out hb9)
                have HO9 : Hid (Usd w9 U0 (.slice AU nU cU) U) := Lib.hid (OwnR.below HO7.out hb9)
                have HAP9 : Hid (Apt (.slice AU nU cU) B H1 H2 (nat2 (memV l')) A9) := Lib.hid (apt_ids HAP7.out HO7.out hr9 (Nat.le_refl _))
                have HR9 := Lib.hid (RdR.low hr9 hs7)
                have hs9 : B + 1 ≤ w9.heap.size := by have := hb9.size; omega
                have hu9 : U0 ≤ w9.heap.size := by have := hb9.size; omega
                have HK9 := Lib.hid hk9
                have HKB9 : Hid (k9 ≤ 100) := Lib.hid (by have h1 := memV_len l'; have h2 := HLD'.out.1.n66; rw [← hk9, nat2_len]; omega)
                replace y0 := HL9.out.x0
                replace y1 := HL9.out.x1
                clear hr9 hb9 hk9 HO7 HR7
                obtain ⟨bq, oq, eq, -, -, f0, f1', f2', f3, f4, f5, f6⟩ := HL9.out.rd.proc (i := 0) (by have := HL9.out.hm; omega)
                injection eq with eq
                injection eq with eq1 eq2 _
                subst eq1 eq2
                have i0 : 0 < m := by omega
                clear f0 f1' f2' f3 f4 f5
                replace f6 : w9.cell? ⟨H2, 6, none⟩ = some (.bool (l'.pr 0).res) := f6
                obtain rfl | rfl | rfl : kd = 1 ∨ kd = 2 ∨ kd = 3 := by omega
                · have hres : (l'.pr 0).res = (!D) := by
                    rw [HDD.out, Bool.eq_iff_iff, HEN.out.1, Int.toNat_natCast]
                    simp
                  rw [hres] at f6
                  cases D
                  all_goals
                    clear hres HDD
                    go_wp2_with fail
                    go_loopw [19] (fun v19 wr => ∃ j : Nat, v19 = .int .i64 (j : Int) ∧ 2 ≤ j ∧ j ≤ n ∧ w9 = wr) (fun v19 _ => n - (intOf v19).toNat)
                    case atStart => exact ⟨2, rfl, Nat.le_refl _, hn8.1, rfl⟩
                    case round =>
                      obtain ⟨j, rfl, hj2, hj, rfl⟩ := hrel
                      by_cases hjn : j < n
                      · have hd : decide ((j : Int) < (n : Int)) = true := by simp; omega
                        go_wp2_with fail
                        refine (rhas_num AA (nat2 (memV l)) k cc (B + 1) (j : Int) w9 HK.out HRM9.out (by have := HKB.out; omega)).mono ?_
                        rintro e w' ⟨rfl, rfl⟩
                        rw [has_dec]
                        by_cases hjc : j = c
                        · subst hjc
                          have hq : ((j : Int) == (j : Int)) = true := by simp
                          generalize decide (j ∈ memV l) = DJ
                          go_wp2_with fail
                          refine (rhas_num A9 (nat2 (memV l')) k9 c9 (B + 1) (j : Int) w9 HK9.out HR9.out (by have := HKB9.out; omega)).mono ?_
                          rintro e w' ⟨rfl, rfl⟩
                          rw [has_dec, decide_eq_true (by have := HEN.out.2.2.1 rfl; rwa [Int.toNat_natCast] at this)]
                          go_wp2_with fail
                          exact ⟨⟨j + 1, by go_num, by omega, hjn, trivial⟩, by simp [intOf]; omega⟩
                        · have hq : ((j : Int) == (c : Int)) = false := by simp; omega
                          have hjc2 : ¬ (j : Int) = (c : Int) := by omega
                          go_wp2_with fail
                          refine (rhas_num A9 (nat2 (memV l')) k9 c9 (B + 1) (j : Int) w9 HK9.out HR9.out (by have := HKB9.out; omega)).mono ?_
                          rintro e w' ⟨rfl, rfl⟩
                          rw [has_dec]
                          have hmm := HEN.out.2.2.2.2 j (by rw [Int.toNat_natCast]; exact hjc)
                          rw [show decide (j ∈ memV l') = decide (j ∈ memV l) from by simp only [hmm]]
                          clear hmm
                          generalize decide (j ∈ memV l) = DJ
                          have hdj : (DJ != DJ) = false := by simp
                          go_wp2_with fail
                          exact ⟨⟨j + 1, by go_num, by omega, hjn, trivial⟩, by simp [intOf]; omega⟩
                      · have hd : decide ((j : Int) < (n : Int)) = false := by simp; omega
                        go_wp2_with (at_builtin; refine wpList_pushR RowT.nu rfl (.tmp 148) (.tmp 150) rfl U0 (.slice AU nU cU) (nat2 U) w9 (c : Int) _ rfl (by simp [Act.eval]) HO9.out (by simp [Act.eval]) (by rw [nat2_len]; have := HLEN.out; omega) hu9 ?_; intro v5 w10 ho10 hg10 hat10; obtain ⟨AV, nV, cV, hvV⟩ := own_sh ho10; subst hvV; have HG10 := Lib.hid hg10; have HAT10 := Lib.hid hat10; have HO10 := Lib.hid ho10; clear ho10 hg10 hat10)
                        have hbl := grown_below HG10.out (show w1.heap.size ≤ w9.heap.size by omega) (fun j e => Nat.le_trans (by omega) (HO9.out.lt j e).1)
                        have hap := HAP7.out
                        exact ⟨⟨l', i + 1, k9, H1, H2, e1, e2, c9, A9, U ++ [c], AV, nV, cV, rfl, rfl, by go_num, by omega, hol_grown HL9.out HLD'.out.1 HG10.out (fun j hj => ⟨(hap j hj).1, (hap j hj).2.1, (hap j hj).2.2.1⟩), HLD', HBU9, tover HT9.out hgw hbl, by have := HG10.out.size; omega, HK9, rdr_grown HR9.out HG10.out (fun hc j hj => (HAP9.out j hj).2.2.2 hc), by have := HO10.out; unfold Usd; rw [show nat2 (U ++ [c]) = nat2 U ++ [(c : Int)] from by simp [nat2]]; exact this, by have := HG10.out.size; omega, Lib.hid (fun x h2 hx => by
                          rw [HLK7.out x, beg_lock ⟨by omega, by rw [HLN.out]; omega⟩, List.mem_append, List.mem_singleton, Int.toNat_natCast]
                          have := HUL.out x h2 (by rw [HLN.out]; rw [HLN7.out] at hx; exact hx)
                          by_cases q : x = c
                          · rw [if_pos ⟨rfl, q⟩]; simp [q]
                          · rw [if_neg (fun z => q z.2), this]; simp [q]), Lib.hid (by rw [List.length_append]; have := HLEN.out; simp only [List.length_singleton]; omega), Lib.hid (fun j hj => by
                          rcases HAT10.out with q | ⟨z, h1, h2⟩
                          · exact HAP9.out j (by rw [← q]; exact hj)
                          · rw [h2] at hj
                            injection hj with hj
                            have h3 := HL9.out.lt
                            have h4 := HL9.out.gltF HLD'.out.1
                            refine ⟨by omega, by omega, by omega, fun hc a ha => ?_⟩
                            obtain ⟨b, o, q1, q2, q3, q4⟩ := HR9.out hc
                            rw [ha] at q1
                            injection q1 with q1
                            subst q1
                            show b ≠ j
                            omega)⟩, by simp [intOf]; omega⟩
                · have hres : (l'.pr 0).res = D := by
                    rw [HDD.out, Bool.eq_iff_iff, HEN.out.1, Int.toNat_natCast]
                    simp
                  rw [hres] at f6
                  cases D
                  all_goals
                    clear hres HDD
                    go_wp2_with fail
                    go_loopw [19] (fun v19 wr => ∃ j : Nat, v19 = .int .i64 (j : Int) ∧ 2 ≤ j ∧ j ≤ n ∧ w9 = wr) (fun v19 _ => n - (intOf v19).toNat)
                    case atStart => exact ⟨2, rfl, Nat.le_refl _, hn8.1, rfl⟩
                    case round =>
                      obtain ⟨j, rfl, hj2, hj, rfl⟩ := hrel
                      by_cases hjn : j < n
                      · have hd : decide ((j : Int) < (n : Int)) = true := by simp; omega
                        go_wp2_with fail
                        refine (rhas_num AA (nat2 (memV l)) k cc (B + 1) (j : Int) w9 HK.out HRM9.out (by have := HKB.out; omega)).mono ?_
                        rintro e w' ⟨rfl, rfl⟩
                        rw [has_dec]
                        by_cases hjc : j = c
                        · subst hjc
                          have hq : ((j : Int) == (j : Int)) = true := by simp
                          generalize decide (j ∈ memV l) = DJ
                          go_wp2_with fail
                          refine (rhas_num A9 (nat2 (memV l')) k9 c9 (B + 1) (j : Int) w9 HK9.out HR9.out (by have := HKB9.out; omega)).mono ?_
                          rintro e w' ⟨rfl, rfl⟩
                          rw [has_dec, decide_eq_false (by have := HEN.out.2.2.2.1 rfl; rwa [Int.toNat_natCast] at this)]
                          go_wp2_with fail
                          exact ⟨⟨j + 1, by go_num, by omega, hjn, trivial⟩, by simp [intOf]; omega⟩
                        · have hq : ((j : Int) == (c : Int)) = false := by simp; omega
                          have hjc2 : ¬ (j : Int) = (c : Int) := by omega
                          go_wp2_with fail
                          refine (rhas_num A9 (nat2 (memV l')) k9 c9 (B + 1) (j : Int) w9 HK9.out HR9.out (by have := HKB9.out; omega)).mono ?_
                          rintro e w' ⟨rfl, rfl⟩
                          rw [has_dec]
                          have hmm := HEN.out.2.2.2.2 j (by rw [Int.toNat_natCast]; exact hjc)
                          rw [show decide (j ∈ memV l') = decide (j ∈ memV l) from by simp only [hmm]]
                          clear hmm
                          generalize decide (j ∈ memV l) = DJ
                          have hdj : (DJ != DJ) = false := by simp
                          go_wp2_with fail
                          exact ⟨⟨j + 1, by go_num, by omega, hjn, trivial⟩, by simp [intOf]; omega⟩
                      · have hd : decide ((j : Int) < (n : Int)) = false := by simp; omega
                        go_wp2_with fail
                        exact ⟨⟨l', i + 1, k9, H1, H2, e1, e2, c9, A9, U, AU, nU, cU, rfl, rfl, by go_num, by omega, HL9.out, HLD', HBU9, HT9.out, hs9, HK9, HR9.out, HO9.out, hu9, Lib.hid (fun x h2 hx => by
                          rw [HLK7.out x, beg_lock ⟨by omega, by rw [HLN.out]; omega⟩, if_neg (fun z => absurd z.1 (by decide))]
                          exact HUL.out x h2 (by rw [HLN.out]; rw [HLN7.out] at hx; exact hx)), Lib.hid (by have := HLEN.out; omega), HAP9⟩, by simp [intOf]; omega⟩
                · have hres : (l'.pr 0).res = D := by
                    rw [HDD.out, Bool.eq_iff_iff, HEN.out.1, Int.toNat_natCast]
                    simp
                  rw [hres] at f6
                  cases D
                  all_goals
                    clear hres HDD
                    go_wp2_with fail
                    go_loopw [19] (fun v19 wr => ∃ j : Nat, v19 = .int .i64 (j : Int) ∧ 2 ≤ j ∧ j ≤ n ∧ w9 = wr) (fun v19 _ => n - (intOf v19).toNat)
                    case atStart => exact ⟨2, rfl, Nat.le_refl _, hn8.1, rfl⟩
                    case round =>
                      obtain ⟨j, rfl, hj2, hj, rfl⟩ := hrel
                      by_cases hjn : j < n
                      · have hd : decide ((j : Int) < (n : Int)) = true := by simp; omega
                        go_wp2_with fail
                        refine (rhas_num AA (nat2 (memV l)) k cc (B + 1) (j : Int) w9 HK.out HRM9.out (by have := HKB.out; omega)).mono ?_
                        rintro e w' ⟨rfl, rfl⟩
                        rw [has_dec]
                        by_cases hjc : j = c
                        · subst hjc
                          have hq : ((j : Int) == (j : Int)) = true := by simp
                          go_wp2_with fail
                          refine (rhas_num A9 (nat2 (memV l')) k9 c9 (B + 1) (j : Int) w9 HK9.out HR9.out (by have := HKB9.out; omega)).mono ?_
                          rintro e w' ⟨rfl, rfl⟩
                          rw [has_dec]
                          rw [HEN.out.2.1 rfl]
                          generalize decide (j ∈ memV l) = DJ
                          have hdj : (DJ != DJ) = false := by simp
                          go_wp2_with fail
                          exact ⟨⟨j + 1, by go_num, by omega, hjn, trivial⟩, by simp [intOf]; omega⟩
                        · have hq : ((j : Int) == (c : Int)) = false := by simp; omega
                          have hjc2 : ¬ (j : Int) = (c : Int) := by omega
                          go_wp2_with fail
                          refine (rhas_num A9 (nat2 (memV l')) k9 c9 (B + 1) (j : Int) w9 HK9.out HR9.out (by have := HKB9.out; omega)).mono ?_
                          rintro e w' ⟨rfl, rfl⟩
                          rw [has_dec]
                          have hmm := HEN.out.2.2.2.2 j (by rw [Int.toNat_natCast]; exact hjc)
                          rw [show decide (j ∈ memV l') = decide (j ∈ memV l) from by simp only [hmm]]
                          clear hmm
                          generalize decide (j ∈ memV l) = DJ
                          have hdj : (DJ != DJ) = false := by simp
                          go_wp2_with fail
                          exact ⟨⟨j + 1, by go_num, by omega, hjn, trivial⟩, by simp [intOf]; omega⟩
                      · have hd : decide ((j : Int) < (n : Int)) = false := by simp; omega
                        go_wp2_with fail
                        exact ⟨⟨l', i + 1, k9, H1, H2, e1, e2, c9, A9, U, AU, nU, cU, rfl, rfl, by go_num, by omega, HL9.out, HLD', HBU9, HT9.out, hs9, HK9, HR9.out, HO9.out, hu9, Lib.hid (fun x h2 hx => by
                          rw [HLK7.out x, beg_lock ⟨by omega, by rw [HLN.out]; omega⟩, if_neg (fun z => absurd z.1 (by decide))]
                          exact HUL.out x h2 (by rw [HLN.out]; rw [HLN7.out] at hx; exact hx)), Lib.hid (by have := HLEN.out; omega), HAP9⟩, by simp [intOf]; omega⟩
      | false =>
        go_wp2_with fail
        refine (sane12_any w4).mono ?_
        rintro e w' ⟨rfl, hb⟩
        go_wp2_with fail
        go_ret
        exact ⟨rfl, (HB1.out.grown HT4.out.2 HB1.out.size (fun j e => by have := Option.some.inj e; omega)).trans (hb.mono (by have := HT4.out.2.size; have := HB1.out.size; omega))⟩
    · have hd : decide ((i : Int) < 8) = false := by simp; omega
      go_wp2_with fail
      refine (sane12_any wr).mono ?_
      rintro e w' ⟨rfl, hb⟩
      go_wp2_with fail
      go_ret
      exact ⟨rfl, (HB1.out.grown HT.out.2 HB1.out.size (fun j e => by have := Option.some.inj e; omega)).trans (hb.mono (by have := HT.out.2.size; have := HB1.out.size; omega))⟩
end Lf
end Go.Proofs.YtmhbloefmknikaaDoor
