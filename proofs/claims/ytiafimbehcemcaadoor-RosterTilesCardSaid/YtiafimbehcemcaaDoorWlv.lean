/-
  The walk of RosterLeaves: from whatever numbers it answers true and only makes memory. Conditions: the first argument reads as a slice of ints; 'letters' is as its initialiser lays it.
-/
import Derived.Test.YtiafimbehcemcaaDoorKgN
import Derived.Test.YtiafimbehcemcaaDoorKgK
import Derived.Test.YtiafimbehcemcaaDoorKgL
namespace Go.Proofs.YtiafimbehcemcaaDoor
open Go.RowKit

theorem Nds.step {w w' : World} {B g : Nat} {A : Option Addr} {l : List Nd} (h : Nds w B A l) (hA : ∀ b o, A = some ⟨b, o, none⟩ → b ≠ g) (hB : B ≤ w.heap.size) (k : TStep w g w') : Nds w' B A l := fun hn => by
  obtain ⟨b, o, e, hb, hc⟩ := h hn
  have hk := k.2.block b (by omega) (fun e2 => hA b o e (Option.some.inj e2))
  exact ⟨b, o, e, hb, fun i hi => ⟨(World.cell?_of_block hk).trans (hc i hi).1, (World.cell?_of_block hk).trans (hc i hi).2.1, (World.cell?_of_block hk).trans (hc i hi).2.2⟩⟩
/-- Interval of package roster, for a roster that can be read in all worlds behind W0. -/
def IvlAll (W0 : World) (A : Option Addr) (n c : Nat) (s : List Nd) : Prop := ∀ W, Below W0.heap.size W0 W → ∀ id : Int, Calls Tryd.prog 55 #[.slice A n c, .int .i64 id] W fun e w' => e = .returned (.tuple #[(ivlV s id).val, .bool (decide (plc s id < s.length))]) ∧ Below W.heap.size W w'
theorem ivlAll {W0 : World} {A : Option Addr} {l : List Nd} {n : Nat} (c : Nat) (hn : n = l.length) (h : Nds W0 W0.heap.size A l) (h0 : l ≠ []) (h20 : l.length < 20) (hc : chkV l = 0) : IvlAll W0 A n c (srt l) := fun W k id => by
  subst hn
  exact interval_any A l c id W ((h.below k).more k.size) h0 h20 hc

theorem eq_rg (a b : Rg) (w : World) : (Op.equalIn 10000 74 a.val b.val).run Tryd.prog w = .ok (a.lo.key.toList == b.lo.key.toList && (a.lo.top == b.lo.top && (a.hi.key.toList == b.hi.key.toList && a.hi.top == b.hi.top))) w := by
  show (Op.equalIn 10000 74 (.agg #[.string a.lo.key, .bool a.lo.top, .string a.hi.key, .bool a.hi.top]) (.agg #[.string b.lo.key, .bool b.lo.top, .string b.hi.key, .bool b.hi.top])).run Tryd.prog w = _
  rw [run_equalIn_agg w 9999 74 _ _ (by kernel_rfl) (by kernel_rfl)]
  by_cases h1 : a.lo.key.toList = b.lo.key.toList <;> by_cases h2 : a.lo.top = b.lo.top <;> by_cases h3 : a.hi.key.toList = b.hi.key.toList <;> by_cases h4 : a.hi.top = b.hi.top <;> simp [go_sem, Tryd.underlying74, Tryd.underlying72, Tryd.underlying4, Tryd.underlying9, h1, h2, h3, h4]
theorem neq_rg (a b : Rg) (w : World) : (binOp .neq 74 a.val b.val).run Tryd.prog w = .ok (.bool (!(a.lo.key.toList == b.lo.key.toList && (a.lo.top == b.lo.top && (a.hi.key.toList == b.hi.key.toList && a.hi.top == b.hi.top))))) w := by
  rw [run_neq_struct, eq_rg]
  rfl
/-- A range is not unequal to itself. -/
theorem neq_self (k1 : ByteArray) (t1 : Bool) (k2 : ByteArray) (t2 : Bool) : ∀ w : World, (binOp .neq 74 (.agg #[.string k1, .bool t1, .string k2, .bool t2]) (.agg #[.string k1, .bool t1, .string k2, .bool t2])).run Tryd.prog w = .ok (.bool false) w := fun w => by
  rw [neq_rg ⟨⟨k1, t1⟩, ⟨k2, t2⟩⟩ ⟨⟨k1, t1⟩, ⟨k2, t2⟩⟩]
  simp
set_option maxRecDepth 100000 in
set_option maxHeartbeats 1600000 in
theorem leaves_walk (A : Option Addr) (n0 cp : Nat) (w : World) (hL : Lets w) (hnc : n0 ≤ cp) (hc : cp ≤ maxLen) (hN : Nums w w.heap.size A n0) :
    Calls Tryd.prog 10 #[.slice A n0 cp] w (LawP w) := by
  have HSA := Lib.hid sane5_any
  go_enter Tryd.func10, Tryd.ntmps10
  go_wp2_with fail
  refine (new_any A n0 cp _ hnc hc hN).mono ?_
  rintro e w1 ⟨g, hg1, rfl, hTp, hb1⟩
  have hne2 : 0 ≠ g := by have := hL.lt; omega
  have l1 := hL.below hb1
  clear hN hnc hc hL
  go_wp2_with fail
  refine (some_any 8 g w1 (by omega) (by omega) hTp l1 hne2).mono ?_
  rintro e w2 ⟨A2, c2, l, rfl, ho, hl0, hl8, hchk, hst⟩
  have hB2 : Below w.heap.size w w2 := hb1.grown hst.2 hb1.size (fun j e => by have := Option.some.inj e; omega)
  have hTp2 := hst.1
  have hg2 : g < w1.heap.size := hTp.lt
  obtain ⟨_, _, er, hnd⟩ := ho.read
  injection er with e1 _ e2
  subst e1 e2
  have hA2 : ∀ b o, A2 = some ⟨b, o, none⟩ → b ≠ g := fun b o e => by
    have := (ho.lt b (by rw [e]; rfl)).1
    omega
  have HR := Lib.hid (ros_of hchk)
  have HCK := Lib.hid hchk
  have HNE := Lib.hid hl0
  have HS := Lib.hid (sort_any A2 l c2 w2 hnd hl0 (by omega))
  have HE : Hid (∀ s, Srt l s → s = srt l) := Lib.hid fun s h => srt_of h (chkV_zero.1 hchk).2.2
  clear hst l1 hTp hb1 ho hchk hl0
  go_wp2_with fail
  refine (HS.out).mono ?_
  rintro e w3 ⟨s, hs, A3, c3, rfl, ho3, hb3⟩
  obtain rfl := HE.out s hs
  have hsl : (srt l).length = l.length := hs.len
  obtain ⟨_, _, er, hr3⟩ := ho3.read
  injection er with e1 _ e2
  subst e1 e2
  have hA3 : ∀ b o, A3 = some ⟨b, o, none⟩ → b ≠ g := fun b o e => by
    have := (ho3.lt b (by rw [e]; rfl)).1
    have := hTp2.lt
    omega
  have B3 := hB2.trans (hb3.mono hB2.size)
  have hTp3 := hTp2.below hb3
  have hnd3 := (hnd.below hb3).more hb3.size
  obtain ⟨n, hn⟩ : ∃ n, n = l.length := ⟨_, rfl⟩
  rw [hsl, ← hn]
  rw [← hn] at hl8 hsl
  have HN := Lib.hid hn
  have HSL := Lib.hid hsl
  clear hs ho3 hb3 hB2 hTp2 hnd HE HS hn hsl
  by_cases h2 : n < 2
  · have h2z : (n : Int) < 2 := by omega
    have HS5 := Lib.hid (HSA.out w3)
    clear HR HCK HNE hr3 hnd3 HSA hA2 hA3
    go_wp2_with fail
    refine (HS5.out).mono ?_
    rintro e w4 ⟨rfl, hb4⟩
    go_wp2_with fail
    go_ret
    exact ⟨rfl, B3.trans (hb4.mono B3.size)⟩
  · have h2z : ¬ (n : Int) < 2 := by omega
    go_wp2_with fail
    refine (next_any g _ _ hTp3 (by omega)).mono ?_
    rintro e w4 ⟨r, r0, r1, rfl, hst4⟩
    obtain ⟨p, rfl⟩ : ∃ p : Nat, r = (p : Int) := ⟨r.toNat, by omega⟩
    have hpn : p < n := by omega
    have B4 : Below w.heap.size w w4 := B3.grown hst4.2 B3.size (fun j e => by have := Option.some.inj e; omega)
    have hr4 := (hr3.step hA3 (Nat.le_refl _) hst4).more hst4.2.size
    have hnd4 := (hnd3.step hA2 (Nat.le_refl _) hst4).more hst4.2.size
    clear r1 B3 hTp3 hr3 hnd3 hA2 hA3 hst4
    have hp : p < (srt l).length := by rw [HSL.out]; exact hpn
    have HIV := Lib.hid (fun (i : Nat) (h : i < (srt l).length) => ivlV_at HR.out.apart h)
    have HLF := Lib.hid (fun (i : Nat) (h : i < (srt l).length) (hne : i ≠ p) => ivl_left HR.out.asc HR.out.apart HR.out.ok hp (by rw [HSL.out]; omega) h hne)
    obtain ⟨x, hx⟩ : ∃ x, x = (srt l)[p].id := ⟨_, rfl⟩
    obtain ⟨hls, hlc, hln⟩ := left_srt HCK.out hp
    rw [← hx] at hls hlc hln
    have hxb : 1 ≤ x ∧ x ≤ 2147483647 := by
      have := HR.out.ok _ (List.getElem_mem hp)
      rw [hx]
      simp [Nd.ok] at this
      omega
    have hlx : ∀ y ∈ l, -9223372036854775808 ≤ y.id ∧ y.id ≤ 9223372036854775807 := fun y hy => by
      have := List.all_eq_true.1 (chkV_zero.1 HCK.out).2.1 y hy
      simp [Nd.ok] at this
      omega
    have HX := Lib.hid hx
    have HLS := Lib.hid hls
    have HRC := Lib.hid hlc
    have HLN := Lib.hid hln
    have HRN : Hid (wout l [x] ≠ []) := Lib.hid fun e => by
      have h3 := HLN.out
      rw [e, ← HN.out] at h3
      simp at h3
      omega
    obtain ⟨b, o, hA3b, hbl, f1, f2, f3⟩ := hr4.at_ hp
    subst hA3b
    rw [← hx] at f1
    have hb5 := (Below.refl w4.heap.size w4).alloc (Nat.le_refl _) (.cells #[.int .i64 x] 3)
    have hI5 := Has.new w4 3 #[.int .i64 x]
    have hnd5 := (hnd4.below hb5).more hb5.size
    have hr35 := (hr4.below hb5).more hb5.size
    have B5 := B4.alloc B4.size (.cells #[.int .i64 x] 3)
    have hF5 := (hb5.cell (p := ⟨b, o + p * 3, none⟩) hbl).trans f1
    have hWO := without_any A2 (some ⟨w4.heap.size, 0, none⟩) l c2 1 [x] _ hnd5 (fun _ => ⟨w4.heap.size, 0, rfl, hI5.lt, fun i hi => by
      have h2 : i = 0 := by simp at hi; omega
      subst h2
      exact ⟨by constructor <;> simp <;> omega, hI5.cell 0⟩⟩) (by rw [← HN.out]; omega) (by simp) hlx
    rw [← HN.out] at hWO
    have HWO := Lib.hid hWO
    have hpz : (0 : Int) ≤ (p : Int) := by omega
    have hpz1 : (p : Int) < (n : Int) := by omega
    clear hls hlc hln hlx hWO hI5 hnd4 hr4 f2 f3 hb5 B4
    generalize hS : srt l = S at *
    have HSR := Lib.hid hS
    clear hx HR hS
    have HB0 := Lib.hid hbl
    have HB0 := Lib.hid hbl
    have HB0 := Lib.hid hbl
    have HB0 := Lib.hid hbl
    have HB0 := Lib.hid hbl
    by_cases hp0 : p = 0
    · have hp0z : ((p : Int) == 0) = true := by simp [hp0]
      have HGP : Hid (heir p = 1) := Lib.hid (if_pos hp0)
      clear hp0
      go_wp2_with fail
      refine (HWO.out).mono ?_
      rintro e w6 ⟨A6, c6, rfl, ho6, hb6⟩
      obtain ⟨_, _, er, hr6⟩ := ho6.read
      injection er with e1 _ e2
      subst e1 e2
      have B6 := B5.trans (hb6.mono B5.size)
      have hnd6 := (hnd5.below hb6).more hb6.size
      have hr36 := (hr35.below hb6).more hb6.size
      have hF6 := (hb6.cell (p := ⟨b, o + p * 3, none⟩) (show b < _ by rw [World.size_alloc]; exact Nat.lt_succ_of_lt hbl)).trans hF5
      obtain ⟨n6, hn6⟩ : ∃ n6, n6 = (wout l [x]).length := ⟨_, rfl⟩
      rw [← hn6]
      have HL6 := Lib.hid (fun (W0 : World) (k : Below w6.heap.size w6 W0) => ivlAll c2 HN.out ((hnd6.below k).more k.size) HNE.out (by rw [← HN.out]; omega) HCK.out)
      have HR6 := Lib.hid (fun (W0 : World) (k : Below w6.heap.size w6 W0) => ivlAll c6 hn6 ((hr6.below k).more k.size) HRN.out (by rw [HLN.out, ← HN.out]; omega) HRC.out)
      have HG := Lib.hid ((HL6.out w6 (Below.refl _ _)) w6 (Below.refl _ _) x)
      rw [HSR.out, HX.out, (HIV.out p hp).1, (HIV.out p hp).2.1] at HG
      obtain ⟨rg, hrg⟩ : ∃ rg, rg = ivlAt S p := ⟨_, rfl⟩
      rw [← hrg, ← HX.out] at HG
      have HRG := Lib.hid hrg
      clear hrg ho6 hb6 hnd5 hr35 hnd6 hr6 B5 HWO hn6
      obtain ⟨⟨rk1, rt1⟩, ⟨rk2, rt2⟩⟩ := rg
      go_wp2_with fail
      refine (HG.out).mono ?_
      rintro e w7 ⟨rfl, hb7⟩
      have B7 := B6.trans (hb7.mono B6.size)
      have hK8 := hb7.alloc hb7.size (.cells #[.string rk1, .bool rt1, .string rk2, .bool rt2] 74)
      have B8 := B6.trans (hK8.mono B6.size)
      have hG8 := Has.new w7 74 #[.string rk1, .bool rt1, .string rk2, .bool rt2]
      have hr38 := (hr36.below hK8).more hK8.size
      have IL := Lib.hid (HL6.out _ hK8)
      have IR := Lib.hid (HR6.out _ hK8)
      have HG8 := Lib.hid hG8
      have hgl : w7.heap.size < (w7.alloc (.cells #[.string rk1, .bool rt1, .string rk2, .bool rt2] 74)).heap.size := hG8.lt
      clear HL6 HR6 HG hb7 B6 B7 hK8 hG8 hr36 hF6 hF5 f1
      go_wp2_with fail
      generalize (w7.alloc (.cells #[.string rk1, .bool rt1, .string rk2, .bool rt2] 74)) = w8 at *
      generalize w7.heap.size = G at *
      go_loopw [11] (fun vi wr => ∃ i : Nat, i ≤ n ∧ vi = .int .i64 (i : Int) ∧ Below w8.heap.size w8 wr) (fun vi _ => n - (intOf vi).toNat)
      case atStart => exact ⟨0, by omega, rfl, Below.refl _ _⟩
      case round =>
        obtain ⟨i, hi, rfl, hB⟩ := hrel
        by_cases hin : i < n
        · have hinz : (i : Int) < (n : Int) := by omega
          have hiz : (0 : Int) ≤ (i : Int) := by omega
          by_cases hip : i = p
          · subst hip
            go_wp2_with fail
            exact ⟨⟨i + 1, hin, by go_num, hB⟩, by simp [intOf]; omega⟩
          · have hipz : ((i : Int) == (p : Int)) = false := by simp; omega
            have hiS : i < S.length := by rw [HSL.out]; exact hin
            obtain ⟨b2, o2, hA3b, hbl2, f1, f2, f3⟩ := hr38.at_ hiS
            injection hA3b with hA3b
            injection hA3b with eb eo
            subst eb eo
            have F1 := (hB.cell (p := ⟨b, o + i * 3, none⟩) hbl2).trans f1
            have H1 := IL.out wr hB S[i].id
            rw [HSR.out, (HIV.out i hiS).1, (HIV.out i hiS).2.1] at H1
            have H2 := fun (W : World) (k : Below w8.heap.size w8 W) => IR.out W k S[i].id
            rw [HLS.out] at H2
            have hlf := HLF.out i hiS hip
            rw [hlf.1, hlf.2, ← HRG.out] at H2
            generalize ivlAt S i = ra at *
            generalize S[i].id = y at *
            have HH2 := Lib.hid H2
            have HH1 := Lib.hid H1
            clear hlf f1 f2 f3 H1 H2
            obtain ⟨⟨ak1, at1⟩, ⟨ak2, at2⟩⟩ := ra
            go_wp2_with fail
            refine (HH1.out).mono ?_
            rintro e wa ⟨rfl, hba⟩
            have B1 := hB.trans (hba.mono hB.size)
            have B1' := B1.alloc B1.size (.cells #[.string ak1, .bool at1, .string ak2, .bool at2] 74)
            have F2 := (B1'.cell (p := ⟨b, o + i * 3, none⟩) hbl2).trans ((hB.cell (p := ⟨b, o + i * 3, none⟩) hbl2).symm.trans F1)
            have hX := Has.new wa 74 #[.string ak1, .bool at1, .string ak2, .bool at2]
            have hBA : w8.heap.size ≤ wa.heap.size := B1.size
            have HXA := Lib.hid hX
            clear hX F1 hba B1
            by_cases hih : i = heir p
            · have hihz : ((i : Int) == 1) = true := by rw [hih, HGP.out]; simp
              rw [if_pos hih] at HH2
              clear hih
              have HHU := Lib.hid (fun W => hul_key ⟨⟨ak1, at1⟩, ⟨ak2, at2⟩⟩ ⟨⟨rk1, rt1⟩, ⟨rk2, rt2⟩⟩ W)
              generalize Rg.hulK ⟨⟨ak1, at1⟩, ⟨ak2, at2⟩⟩ ⟨⟨rk1, rt1⟩, ⟨rk2, rt2⟩⟩ = rh at *
              obtain ⟨⟨hk1, ht1⟩, ⟨hk2, ht2⟩⟩ := rh
              go_wp2_with fail
              refine (HH2.out _ B1').mono ?_
              rintro e wb ⟨rfl, hbb⟩
              have hX2 := (HXA.out.below hbb).alloc (.cells #[.string hk1, .bool ht1, .string hk2, .bool ht2] 74)
              have hY2 := Has.new wb 74 #[.string hk1, .bool ht1, .string hk2, .bool ht2]
              have B2 := B1'.trans (hbb.mono B1'.size)
              have hbs := hbb.size
              have B2' := B2.alloc B2.size (.cells #[.string hk1, .bool ht1, .string hk2, .bool ht2] 74)
              have hG2 := HG8.out.below B2'
              have x0 := hX2.cell 0
              have x1 := hX2.cell 1
              have x2 := hX2.cell 2
              have x3 := hX2.cell 3
              have g0 := hG2.cell 0
              have g1 := hG2.cell 1
              have g2 := hG2.cell 2
              have g3 := hG2.cell 3
              have HX2 := Lib.hid hX2
              have HY2 := Lib.hid hY2
              have HB2 := Lib.hid B2'
              clear hX2 hY2 hG2 hbb B2 F2 HH2 HXA B1' B2'
              go_wp2_with fail
              refine (HHU.out _).mono ?_
              rintro e wc ⟨rfl, hbc⟩
              have hX3 := HX2.out.below hbc
              have hY3 := HY2.out.below hbc
              have xf := fun o => hX3.frozen o
              have q0 := hX3.cell 0
              have q1 := hX3.cell 1
              have q2 := hX3.cell 2
              have q3 := hX3.cell 3
              have r0' := hY3.cell 0
              have r1' := hY3.cell 1
              have r2' := hY3.cell 2
              have r3' := hY3.cell 3
              have hDE : wa.heap.size ≠ wb.heap.size := by have h1 := HX2.out.lt; have h2 := hbs; rw [World.size_alloc] at h2; omega
              have hED : wb.heap.size ≠ wa.heap.size := fun e => hDE e.symm
              have hNE := neq_self hk1 ht1 hk2 ht2
              have HBC := Lib.hid (HB2.out.trans (hbc.mono HB2.out.size))
              clear hX3 hY3 hbc x0 x1 x2 x3 g0 g1 g2 g3
              go_wp2_with fail
              exact ⟨⟨i + 1, hin, by go_num, (((HBC.out.setCell hBA _).setCell hBA _).setCell hBA _).setCell hBA _⟩, by simp [intOf]; omega⟩
            · have hihz : ((i : Int) == 1) = false := by rw [beq_eq_false_iff_ne]; intro e; exact hih (by rw [HGP.out]; omega)
              rw [if_neg hih] at HH2
              clear hih
              go_wp2_with fail
              refine (HH2.out _ B1').mono ?_
              rintro e wb ⟨rfl, hbb⟩
              have hX2 := (HXA.out.below hbb).alloc (.cells #[.string ak1, .bool at1, .string ak2, .bool at2] 74)
              have hY2 := Has.new wb 74 #[.string ak1, .bool at1, .string ak2, .bool at2]
              have B2 := B1'.trans (hbb.mono B1'.size)
              have B2' := B2.alloc B2.size (.cells #[.string ak1, .bool at1, .string ak2, .bool at2] 74)
              have x0 := hX2.cell 0
              have x1 := hX2.cell 1
              have x2 := hX2.cell 2
              have x3 := hX2.cell 3
              have y0 := hY2.cell 0
              have y1 := hY2.cell 1
              have y2 := hY2.cell 2
              have y3 := hY2.cell 3
              have hNE := neq_self ak1 at1 ak2 at2
              have HB2 := Lib.hid B2'
              clear hX2 hY2 hbb B2 F2 HH2 HXA B1' B2'
              go_wp2_with fail
              exact ⟨⟨i + 1, hin, by go_num, HB2.out⟩, by simp [intOf]; omega⟩
        · have HS5 := Lib.hid (HSA.out wr)
          have HBW := Lib.hid (B8.trans (hB.mono B8.size))
          clear HSA hr38 IL IR HIV HLF
          go_wp2_with fail
          refine (HS5.out).mono ?_
          rintro e w9 ⟨rfl, hb9⟩
          go_wp2_with fail
          go_ret
          exact ⟨rfl, HBW.out.trans (hb9.mono HBW.out.size)⟩
    · have hp0z : ((p : Int) == 0) = false := by simp [hp0]
      have HGP : Hid (heir p = p - 1) := Lib.hid (if_neg hp0)
      have hpg : 1 ≤ p := by omega
      clear hp0
      go_wp2_with fail
      refine (HWO.out).mono ?_
      rintro e w6 ⟨A6, c6, rfl, ho6, hb6⟩
      obtain ⟨_, _, er, hr6⟩ := ho6.read
      injection er with e1 _ e2
      subst e1 e2
      have B6 := B5.trans (hb6.mono B5.size)
      have hnd6 := (hnd5.below hb6).more hb6.size
      have hr36 := (hr35.below hb6).more hb6.size
      have hF6 := (hb6.cell (p := ⟨b, o + p * 3, none⟩) (show b < _ by rw [World.size_alloc]; exact Nat.lt_succ_of_lt hbl)).trans hF5
      obtain ⟨n6, hn6⟩ : ∃ n6, n6 = (wout l [x]).length := ⟨_, rfl⟩
      rw [← hn6]
      have HL6 := Lib.hid (fun (W0 : World) (k : Below w6.heap.size w6 W0) => ivlAll c2 HN.out ((hnd6.below k).more k.size) HNE.out (by rw [← HN.out]; omega) HCK.out)
      have HR6 := Lib.hid (fun (W0 : World) (k : Below w6.heap.size w6 W0) => ivlAll c6 hn6 ((hr6.below k).more k.size) HRN.out (by rw [HLN.out, ← HN.out]; omega) HRC.out)
      have HG := Lib.hid ((HL6.out w6 (Below.refl _ _)) w6 (Below.refl _ _) x)
      rw [HSR.out, HX.out, (HIV.out p hp).1, (HIV.out p hp).2.1] at HG
      obtain ⟨rg, hrg⟩ : ∃ rg, rg = ivlAt S p := ⟨_, rfl⟩
      rw [← hrg, ← HX.out] at HG
      have HRG := Lib.hid hrg
      clear hrg ho6 hb6 hnd5 hr35 hnd6 hr6 B5 HWO hn6
      obtain ⟨⟨rk1, rt1⟩, ⟨rk2, rt2⟩⟩ := rg
      go_wp2_with fail
      refine (HG.out).mono ?_
      rintro e w7 ⟨rfl, hb7⟩
      have B7 := B6.trans (hb7.mono B6.size)
      have hK8 := hb7.alloc hb7.size (.cells #[.string rk1, .bool rt1, .string rk2, .bool rt2] 74)
      have B8 := B6.trans (hK8.mono B6.size)
      have hG8 := Has.new w7 74 #[.string rk1, .bool rt1, .string rk2, .bool rt2]
      have hr38 := (hr36.below hK8).more hK8.size
      have IL := Lib.hid (HL6.out _ hK8)
      have IR := Lib.hid (HR6.out _ hK8)
      have HG8 := Lib.hid hG8
      have hgl : w7.heap.size < (w7.alloc (.cells #[.string rk1, .bool rt1, .string rk2, .bool rt2] 74)).heap.size := hG8.lt
      clear HL6 HR6 HG hb7 B6 B7 hK8 hG8 hr36 hF6 hF5 f1
      go_wp2_with fail
      generalize (w7.alloc (.cells #[.string rk1, .bool rt1, .string rk2, .bool rt2] 74)) = w8 at *
      generalize w7.heap.size = G at *
      go_loopw [11] (fun vi wr => ∃ i : Nat, i ≤ n ∧ vi = .int .i64 (i : Int) ∧ Below w8.heap.size w8 wr) (fun vi _ => n - (intOf vi).toNat)
      case atStart => exact ⟨0, by omega, rfl, Below.refl _ _⟩
      case round =>
        obtain ⟨i, hi, rfl, hB⟩ := hrel
        by_cases hin : i < n
        · have hinz : (i : Int) < (n : Int) := by omega
          have hiz : (0 : Int) ≤ (i : Int) := by omega
          by_cases hip : i = p
          · subst hip
            go_wp2_with fail
            exact ⟨⟨i + 1, hin, by go_num, hB⟩, by simp [intOf]; omega⟩
          · have hipz : ((i : Int) == (p : Int)) = false := by simp; omega
            have hiS : i < S.length := by rw [HSL.out]; exact hin
            obtain ⟨b2, o2, hA3b, hbl2, f1, f2, f3⟩ := hr38.at_ hiS
            injection hA3b with hA3b
            injection hA3b with eb eo
            subst eb eo
            have F1 := (hB.cell (p := ⟨b, o + i * 3, none⟩) hbl2).trans f1
            have H1 := IL.out wr hB S[i].id
            rw [HSR.out, (HIV.out i hiS).1, (HIV.out i hiS).2.1] at H1
            have H2 := fun (W : World) (k : Below w8.heap.size w8 W) => IR.out W k S[i].id
            rw [HLS.out] at H2
            have hlf := HLF.out i hiS hip
            rw [hlf.1, hlf.2, ← HRG.out] at H2
            generalize ivlAt S i = ra at *
            generalize S[i].id = y at *
            have HH2 := Lib.hid H2
            have HH1 := Lib.hid H1
            clear hlf f1 f2 f3 H1 H2
            obtain ⟨⟨ak1, at1⟩, ⟨ak2, at2⟩⟩ := ra
            go_wp2_with fail
            refine (HH1.out).mono ?_
            rintro e wa ⟨rfl, hba⟩
            have B1 := hB.trans (hba.mono hB.size)
            have B1' := B1.alloc B1.size (.cells #[.string ak1, .bool at1, .string ak2, .bool at2] 74)
            have F2 := (B1'.cell (p := ⟨b, o + i * 3, none⟩) hbl2).trans ((hB.cell (p := ⟨b, o + i * 3, none⟩) hbl2).symm.trans F1)
            have hX := Has.new wa 74 #[.string ak1, .bool at1, .string ak2, .bool at2]
            have hBA : w8.heap.size ≤ wa.heap.size := B1.size
            have HXA := Lib.hid hX
            clear hX F1 hba B1
            by_cases hih : i = heir p
            · have hihz : ((i : Int) == (p : Int) - 1) = true := by rw [hih, HGP.out]; simp; omega
              rw [if_pos hih] at HH2
              clear hih
              have HHU := Lib.hid (fun W => hul_key ⟨⟨ak1, at1⟩, ⟨ak2, at2⟩⟩ ⟨⟨rk1, rt1⟩, ⟨rk2, rt2⟩⟩ W)
              generalize Rg.hulK ⟨⟨ak1, at1⟩, ⟨ak2, at2⟩⟩ ⟨⟨rk1, rt1⟩, ⟨rk2, rt2⟩⟩ = rh at *
              obtain ⟨⟨hk1, ht1⟩, ⟨hk2, ht2⟩⟩ := rh
              go_wp2_with fail
              refine (HH2.out _ B1').mono ?_
              rintro e wb ⟨rfl, hbb⟩
              have hX2 := (HXA.out.below hbb).alloc (.cells #[.string hk1, .bool ht1, .string hk2, .bool ht2] 74)
              have hY2 := Has.new wb 74 #[.string hk1, .bool ht1, .string hk2, .bool ht2]
              have B2 := B1'.trans (hbb.mono B1'.size)
              have hbs := hbb.size
              have B2' := B2.alloc B2.size (.cells #[.string hk1, .bool ht1, .string hk2, .bool ht2] 74)
              have hG2 := HG8.out.below B2'
              have x0 := hX2.cell 0
              have x1 := hX2.cell 1
              have x2 := hX2.cell 2
              have x3 := hX2.cell 3
              have g0 := hG2.cell 0
              have g1 := hG2.cell 1
              have g2 := hG2.cell 2
              have g3 := hG2.cell 3
              have HX2 := Lib.hid hX2
              have HY2 := Lib.hid hY2
              have HB2 := Lib.hid B2'
              clear hX2 hY2 hG2 hbb B2 F2 HH2 HXA B1' B2'
              go_wp2_with fail
              refine (HHU.out _).mono ?_
              rintro e wc ⟨rfl, hbc⟩
              have hX3 := HX2.out.below hbc
              have hY3 := HY2.out.below hbc
              have xf := fun o => hX3.frozen o
              have q0 := hX3.cell 0
              have q1 := hX3.cell 1
              have q2 := hX3.cell 2
              have q3 := hX3.cell 3
              have r0' := hY3.cell 0
              have r1' := hY3.cell 1
              have r2' := hY3.cell 2
              have r3' := hY3.cell 3
              have hDE : wa.heap.size ≠ wb.heap.size := by have h1 := HX2.out.lt; have h2 := hbs; rw [World.size_alloc] at h2; omega
              have hED : wb.heap.size ≠ wa.heap.size := fun e => hDE e.symm
              have hNE := neq_self hk1 ht1 hk2 ht2
              have HBC := Lib.hid (HB2.out.trans (hbc.mono HB2.out.size))
              clear hX3 hY3 hbc x0 x1 x2 x3 g0 g1 g2 g3
              go_wp2_with fail
              exact ⟨⟨i + 1, hin, by go_num, (((HBC.out.setCell hBA _).setCell hBA _).setCell hBA _).setCell hBA _⟩, by simp [intOf]; omega⟩
            · have hihz : ((i : Int) == (p : Int) - 1) = false := by rw [beq_eq_false_iff_ne]; intro e; exact hih (by rw [HGP.out]; omega)
              rw [if_neg hih] at HH2
              clear hih
              go_wp2_with fail
              refine (HH2.out _ B1').mono ?_
              rintro e wb ⟨rfl, hbb⟩
              have hX2 := (HXA.out.below hbb).alloc (.cells #[.string ak1, .bool at1, .string ak2, .bool at2] 74)
              have hY2 := Has.new wb 74 #[.string ak1, .bool at1, .string ak2, .bool at2]
              have B2 := B1'.trans (hbb.mono B1'.size)
              have B2' := B2.alloc B2.size (.cells #[.string ak1, .bool at1, .string ak2, .bool at2] 74)
              have x0 := hX2.cell 0
              have x1 := hX2.cell 1
              have x2 := hX2.cell 2
              have x3 := hX2.cell 3
              have y0 := hY2.cell 0
              have y1 := hY2.cell 1
              have y2 := hY2.cell 2
              have y3 := hY2.cell 3
              have hNE := neq_self ak1 at1 ak2 at2
              have HB2 := Lib.hid B2'
              clear hX2 hY2 hbb B2 F2 HH2 HXA B1' B2'
              go_wp2_with fail
              exact ⟨⟨i + 1, hin, by go_num, HB2.out⟩, by simp [intOf]; omega⟩
        · have HS5 := Lib.hid (HSA.out wr)
          have HBW := Lib.hid (B8.trans (hB.mono B8.size))
          clear HSA hr38 IL IR HIV HLF
          go_wp2_with fail
          refine (HS5.out).mono ?_
          rintro e w9 ⟨rfl, hb9⟩
          go_wp2_with fail
          go_ret
          exact ⟨rfl, HBW.out.trans (hb9.mono HBW.out.size)⟩
end Go.Proofs.YtiafimbehcemcaaDoor
