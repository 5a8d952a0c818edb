/-
  The walk of RosterJoins: from whatever numbers it answers true and only makes memory. Conditions: the first argument reads as a slice of ints; 'letters' is as its initialiser lays it.
-/
import Derived.Test.YtiafimbehcemcaaDoorWlv
import Derived.Test.YtiafimbehcemcaaDoorKgO
namespace Go.Proofs.YtiafimbehcemcaaDoor
open Go.RowKit

set_option maxRecDepth 100000 in
set_option maxHeartbeats 1600000 in
theorem joins_walk (A : Option Addr) (n0 cp : Nat) (w : World) (hL : Lets w) (hnc : n0 ≤ cp) (hc : cp ≤ maxLen) (hN : Nums w w.heap.size A n0) :
    Calls Tryd.prog 12 #[.slice A n0 cp] w (LawP w) := by
  have HSA := Lib.hid sane5_any
  go_enter Tryd.func12, Tryd.ntmps12
  go_wp2_with fail
  refine (new_any A n0 cp _ hnc hc hN).mono ?_
  rintro e w1 ⟨g, hg1, rfl, hTp, hb1⟩
  have hne2 : 0 ≠ g := by have := hL.lt; omega
  have l1 := hL.below hb1
  clear hN hnc hc hL
  go_wp2_with fail
  refine (some_any 8 g w1 (by omega) (by omega) hTp l1 hne2).mono ?_
  rintro e w2 ⟨A2, c2, l, rfl, ho, hl0, hl8, hchk, hst⟩
  have hB2 : Below w.heap.size w w2 := hb1.grown hst.2 hb1.size (fun j e => by have := Option.some.inj e; omega)
  have hTp2 := hst.1
  have hg2 : g < w1.heap.size := hTp.lt
  obtain ⟨_, _, er, hnd⟩ := ho.read
  injection er with e1 _ e2
  subst e1 e2
  have hA2 : ∀ b o, A2 = some ⟨b, o, none⟩ → b ≠ g := fun b o e => by
    have := (ho.lt b (by rw [e]; rfl)).1
    omega
  have HCK := Lib.hid hchk
  have HNE := Lib.hid hl0
  have hln1 : 1 ≤ l.length := List.length_pos_iff.2 hl0
  obtain ⟨n, hn⟩ : ∃ n, n = l.length := ⟨_, rfl⟩
  rw [← hn] at hl8 hln1 ⊢
  have HN := Lib.hid hn
  clear hst l1 hTp hb1 ho hchk hl0 hn
  go_wp2_with fail
  refine (next_any g _ _ hTp2 (by omega)).mono ?_
  rintro e w3 ⟨r, r0, r1, rfl, hst3⟩
  obtain ⟨q, rfl⟩ : ∃ q : Nat, r = (q : Int) := ⟨r.toNat, by omega⟩
  have hqn : q < n := by omega
  have B3 : Below w.heap.size w w3 := hB2.grown hst3.2 hB2.size (fun j e => by have := Option.some.inj e; omega)
  have hnd3 := (hnd.step hA2 (Nat.le_refl _) hst3).more hst3.2.size
  have hql : q < l.length := by rw [← HN.out]; exact hqn
  obtain ⟨p, hp, hpx, hls, hlc, hln, hiv, hdc, HST⟩ := stay_at HCK.out (List.getElem_mem hql)
  obtain ⟨b, o, hA2b, hbl, f1, f2, f3⟩ := hnd3.at_ hql
  have hok := List.all_eq_true.1 (chkV_zero.1 HCK.out).2.1 _ (List.getElem_mem hql)
  have hlx : ∀ y ∈ l, -9223372036854775808 ≤ y.id ∧ y.id ≤ 9223372036854775807 := fun y hy => by
    have := List.all_eq_true.1 (chkV_zero.1 HCK.out).2.1 y hy
    simp [Nd.ok] at this
    omega
  have hkx : vk (l[q]).key = true := by have := hok; simp only [Nd.ok, Bool.and_eq_true] at this; exact this.1.2
  have hxb : 1 ≤ (l[q]).id ∧ (l[q]).id ≤ 2147483647 := by
    simp [Nd.ok] at hok
    omega
  generalize l[q] = x at *
  obtain ⟨xi, xk, xw⟩ := x
  simp only at hxb hkx f1 f2 f3 hls hlc hln hiv hdc HST
  subst hA2b
  have HIV := Lib.hid (fun (W : World) (k : Below w3.heap.size w3 W) => ivlAll c2 HN.out ((hnd3.below k).more k.size) HNE.out (by rw [← HN.out]; omega) HCK.out)
  have hX4 := Has.new w3 60 #[.int .i64 xi, .string xk, .int .u32 (xw : Int)]
  have B4 := B3.alloc B3.size (.cells #[.int .i64 xi, .string xk, .int .u32 (xw : Int)] 60)
  have x40 := hX4.cell 0
  have K4 := (Below.refl w3.heap.size w3).alloc (Nat.le_refl _) (.cells #[.int .i64 xi, .string xk, .int .u32 (xw : Int)] 60)
  have HWO : Hid (Calls Tryd.prog 49 #[.slice (some ⟨b, o, none⟩) n c2, .slice (some ⟨w3.heap.size + 1, 0, none⟩) 1 1] ((w3.alloc (.cells #[.int .i64 xi, .string xk, .int .u32 (xw : Int)] 60)).alloc (.cells #[.int .i64 xi] 3)) (NdsP (wout l [xi]) ((w3.alloc (.cells #[.int .i64 xi, .string xk, .int .u32 (xw : Int)] 60)).alloc (.cells #[.int .i64 xi] 3)))) := Lib.hid (by
    have hI5 := Has.new (w3.alloc (.cells #[.int .i64 xi, .string xk, .int .u32 (xw : Int)] 60)) 3 #[.int .i64 xi]
    have K5 := K4.alloc K4.size (.cells #[.int .i64 xi] 3)
    rw [World.size_alloc] at hI5
    have := without_any (some ⟨b, o, none⟩) (some ⟨w3.heap.size + 1, 0, none⟩) l c2 1 [xi] _ ((hnd3.below K5).more K5.size) (fun _ => ⟨w3.heap.size + 1, 0, rfl, hI5.lt, fun i hi => by
      have h2 : i = 0 := by simp at hi; omega
      subst h2
      exact ⟨by constructor <;> simp <;> omega, hI5.cell 0⟩⟩) (by rw [← HN.out]; omega) (by simp) hlx
    rwa [← HN.out] at this)
  have hqz : (0 : Int) ≤ (q : Int) := by omega
  have hqz1 : (q : Int) < (n : Int) := by omega
  have K5 := K4.alloc K4.size (.cells #[.int .i64 xi] 3)
  have B5 := B4.alloc B4.size (.cells #[.int .i64 xi] 3)
  have X5 := hX4.alloc (.cells #[.int .i64 xi] 3)
  have HX5 := Lib.hid X5
  have HLS := Lib.hid hls
  have HLC := Lib.hid hlc
  have HLN := Lib.hid hln
  have HS := Lib.hid HST
  have HVX := Lib.hid hiv
  have HDX := Lib.hid hdc
  have HKX := Lib.hid hkx
  clear hnd hB2 hTp2 hA2 r1 hst3 hnd3 hlx hX4 X5 hls hlc hln HST hiv hdc hkx K4 B4 hpx B3
  go_wp2_with fail
  refine (HWO.out).mono ?_
  rintro e w6 ⟨A6, c6, rfl, ho6, hb6⟩
  obtain ⟨_, _, er, hr6⟩ := ho6.read
  injection er with e1 _ e2
  subst e1 e2
  have B6 := B5.trans (hb6.mono B5.size)
  have K6 := K5.trans (hb6.mono K5.size)
  have X6 := HX5.out.below hb6
  have x60 := X6.cell 0
  have HG6 := Lib.hid (HIV.out w6 K6 w6 (Below.refl _ _) xi)
  rw [HVX.out, HDX.out] at HG6
  generalize hS : srt l = S at *
  obtain ⟨rg, hrg⟩ : ∃ rg, rg = ivlAt S p := ⟨_, rfl⟩
  rw [← hrg] at HG6 HS
  have HX6 := Lib.hid X6
  clear HX5 ho6 hb6 X6 hrg K5 B5 HWO
  obtain ⟨⟨rk1, rt1⟩, ⟨rk2, rt2⟩⟩ := rg
  obtain ⟨n6, hn6⟩ : ∃ n6, n6 = (wout l [xi]).length := ⟨_, rfl⟩
  rw [← hn6] at HLN ⊢
  have HNN : Hid (n6 = n - 1) := Lib.hid (by rw [HLN.out, HN.out])
  have HN6 := Lib.hid hn6
  clear hn6
  go_wp2_with fail
  refine (HG6.out).mono ?_
  rintro e w7 ⟨rfl, hb7⟩
  have X7 := (HX6.out.below hb7).alloc (.cells #[.string rk1, .bool rt1, .string rk2, .bool rt2] 74)
  have Y7 := Has.new w7 74 #[.string rk1, .bool rt1, .string rk2, .bool rt2]
  have K7 := hb7.alloc hb7.size (.cells #[.string rk1, .bool rt1, .string rk2, .bool rt2] 74)
  have KK7 := K6.trans (K7.mono K6.size)
  have B7 := B6.trans (K7.mono B6.size)
  have hr7 := (hr6.below K7).more K7.size
  have x71 := X7.cell 1
  have HX7 := Lib.hid X7
  have HY7 := Lib.hid Y7
  clear HX6 HG6 hb7 X7 Y7 B6 K6 K7 hr6 x60
  by_cases h1 : n = 1
  · have h60 : n6 = 0 := by have := HNN.out; omega
    have hw0 : wout l [xi] = [] := List.eq_nil_of_length_eq_zero (by rw [← HN6.out]; exact h60)
    have HOW := owner_no A6 (wout l [xi]) c6 xk _ hr7 HLC.out (.inl hw0)
    rw [← HN6.out] at HOW
    have HOW := Lib.hid HOW
    have hn1 : ¬ (1 : Int) < (n : Int) := by omega
    have hz6 : ((n6 : Int) == (n : Int) - 1) = true := by have := HNN.out; simp; omega
    have hz0 : ¬ (0 : Int) < (n6 : Int) := by omega
    clear h60
    have hwr : IntKind.i64.wrap ((n : Int) - 1) = (n : Int) - 1 := IntWalk.i64_in _ (by omega)
    have HB7 := Lib.hid B7
    clear h1 hw0 HIV HVX HDX HS HLN HNN HN6 hr7 B7 KK7
    go_wp2_with fail
    refine (HOW.out).mono ?_
    rintro e w8 ⟨rfl, hb8⟩
    have HB8 := Lib.hid (HB7.out.trans (hb8.mono HB7.out.size))
    clear hb8 HB7 HOW HX7 HY7 x71
    go_wp2_with fail
    have HB9 := Lib.hid (HB8.out.alloc HB8.out.size (.cells #[.int .i64 Nd.none.id, .string Nd.none.key, .int .u32 (Nd.none.word : Int)] 60))
    generalize (w8.alloc (.cells #[.int .i64 Nd.none.id, .string Nd.none.key, .int .u32 (Nd.none.word : Int)] 60)) = w9 at *
    clear HB8
    go_loopw [11] (fun vi wr => vi = .int .i64 0 ∧ w9 = wr) (fun vi _ => 0)
    case atStart => exact ⟨rfl, rfl⟩
    case round =>
      obtain ⟨rfl, rfl⟩ := hrel
      have HS5 := Lib.hid (HSA.out w9)
      clear HSA
      go_wp2_with fail
      refine (HS5.out).mono ?_
      rintro e w10 ⟨rfl, hb10⟩
      go_wp2_with fail
      go_ret
      exact ⟨rfl, HB9.out.trans (hb10.mono HB9.out.size)⟩
  · have hn2 : 2 ≤ n := by omega
    have hw0 : wout l [xi] ≠ [] := fun e => by have h3 := HN6.out; have h4 := HNN.out; rw [e] at h3; simp only [List.length_nil] at h3; omega
    have HOW := owner_yes A6 (wout l [xi]) c6 xk _ hr7 hw0 (by rw [← HN6.out]; have := HNN.out; omega) HLC.out HKX.out
    rw [← HN6.out, HLS.out] at HOW
    have HOW := Lib.hid HOW
    have IR := Lib.hid (fun (W : World) (k : Below (w7.alloc (.cells #[.string rk1, .bool rt1, .string rk2, .bool rt2] 74)).heap.size (w7.alloc (.cells #[.string rk1, .bool rt1, .string rk2, .bool rt2] 74)) W) => ivlAll c6 HN6.out ((hr7.below k).more k.size) hw0 (by rw [← HN6.out]; have := HNN.out; omega) HLC.out)
    rw [HLS.out] at IR
    have IL := Lib.hid (fun (W : World) (k : Below (w7.alloc (.cells #[.string rk1, .bool rt1, .string rk2, .bool rt2] 74)).heap.size (w7.alloc (.cells #[.string rk1, .bool rt1, .string rk2, .bool rt2] 74)) W) => HIV.out W (KK7.trans (k.mono KK7.size)))
    generalize ownV (S.eraseIdx p) xk = oo at *
    obtain ⟨oi, ok, ow⟩ := oo
    have hn1 : (1 : Int) < (n : Int) := by omega
    have hn68 : n6 ≤ 8 := by have := HNN.out; omega
    have HB7 := Lib.hid B7
    clear h1 HIV HVX HDX HLN KK7 B7
    go_wp2_with fail
    refine (HOW.out).mono ?_
    rintro e w8 ⟨rfl, hb8⟩
    have hb9 := hb8.alloc hb8.size (.cells #[.int .i64 oi, .string ok, .int .u32 (ow : Int)] 60)
    have Y9 := HY7.out.below hb9
    have Z9 := Has.new w8 60 #[.int .i64 oi, .string ok, .int .u32 (ow : Int)]
    have hr9 := (hr7.below hb9).more hb9.size
    have HB9 := Lib.hid (HB7.out.trans (hb9.mono HB7.out.size))
    have IR9 := Lib.hid (fun (W : World) (k : Below (w8.alloc (.cells #[.int .i64 oi, .string ok, .int .u32 (ow : Int)] 60)).heap.size (w8.alloc (.cells #[.int .i64 oi, .string ok, .int .u32 (ow : Int)] 60)) W) => IR.out W (hb9.trans (k.mono hb9.size)))
    have IL9 := Lib.hid (fun (W : World) (k : Below (w8.alloc (.cells #[.int .i64 oi, .string ok, .int .u32 (ow : Int)] 60)).heap.size (w8.alloc (.cells #[.int .i64 oi, .string ok, .int .u32 (ow : Int)] 60)) W) => IL.out W (hb9.trans (k.mono hb9.size)))
    have hgl := Y9.lt
    have hzl := Z9.lt
    have HY9 := Lib.hid Y9
    have HZ9 := Lib.hid Z9
    clear hb8 hb9 HB7 HOW HX7 HY7 x71 IR IL Y9 Z9 hr7
    go_wp2_with fail
    generalize (w8.alloc (.cells #[.int .i64 oi, .string ok, .int .u32 (ow : Int)] 60)) = w9 at *
    generalize w7.heap.size = G at *
    generalize w8.heap.size = O at *
    go_loopw [11] (fun vi wr => ∃ i : Nat, i ≤ n6 ∧ vi = .int .i64 (i : Int) ∧ Below w9.heap.size w9 wr) (fun vi _ => n6 - (intOf vi).toNat)
    case atStart => exact ⟨0, by omega, rfl, Below.refl _ _⟩
    case round =>
      obtain ⟨i, hi, rfl, hB⟩ := hrel
      by_cases hin : i < n6
      · have hinz : (i : Int) < (n6 : Int) := by omega
        have hiz : (0 : Int) ≤ (i : Int) := by omega
        have hiw : i < (wout l [xi]).length := by rw [← HN6.out]; exact hin
        obtain ⟨b2, o2, hA6b, hbl2, f1, f2, f3⟩ := hr9.at_ hiw
        have F1 := (hB.cell (p := ⟨b2, o2 + i * 3, none⟩) hbl2).trans f1
        have H1 := IR9.out wr hB wr (Below.refl _ _) (wout l [xi])[i].id
        have H2 := fun (W : World) (k : Below w9.heap.size w9 W) => IL9.out W k W (Below.refl _ _) (wout l [xi])[i].id
        obtain ⟨rb, ra, hst⟩ := HS.out i hiw
        generalize (wout l [xi])[i].id = y at *
        obtain ⟨⟨s1, s2⟩, ⟨s3, s4⟩, hwho⟩ := hst
        rw [s3, s4] at H1
        rw [s1, s2] at H2
        have HH1 := Lib.hid H1
        have HH2 := Lib.hid H2
        have HFB := Lib.hid (fun (W : World) (k : Below w9.heap.size w9 W) => (k.cell (p := ⟨b2, o2 + i * 3, none⟩) hbl2).trans f1)
        have HZB := Lib.hid (fun (W : World) (k : Below w9.heap.size w9 W) => (k.cell (p := ⟨O, 0, none⟩) hzl).trans (HZ9.out.cell 0))
        have HYB := Lib.hid (fun (W : World) (k : Below w9.heap.size w9 W) => HY9.out.below k)
        subst hA6b
        clear H1 H2 s1 s2 s3 s4 f1 f2 f3 IR9 IL9 HS hr9
        obtain ⟨⟨ak1, at1⟩, ⟨ak2, at2⟩⟩ := ra
        obtain ⟨⟨bk1, bt1⟩, ⟨bk2, bt2⟩⟩ := rb
        go_wp2_with fail
        refine (HH1.out).mono ?_
        rintro e wa ⟨rfl, hba⟩
        have B1 := hB.trans (hba.mono hB.size)
        have B1' := B1.alloc B1.size (.cells #[.string ak1, .bool at1, .string ak2, .bool at2] 74)
        have F2 := HFB.out _ B1'
        have hX := Has.new wa 74 #[.string ak1, .bool at1, .string ak2, .bool at2]
        have hBA : w9.heap.size ≤ wa.heap.size := B1.size
        have HXA := Lib.hid hX
        have HB1 := Lib.hid B1'
        clear hX F1 hba B1 B1' HH1
        go_wp2_with fail
        refine (HH2.out _ HB1.out).mono ?_
        rintro e wb ⟨rfl, hbb⟩
        have hbs := hbb.size
        have hX2 := (HXA.out.below hbb).alloc (.cells #[.string bk1, .bool bt1, .string bk2, .bool bt2] 74)
        have hY2 := Has.new wb 74 #[.string bk1, .bool bt1, .string bk2, .bool bt2]
        have hx2l := hX2.lt
        have B2 := HB1.out.trans (hbb.mono HB1.out.size)
        have B2' := B2.alloc B2.size (.cells #[.string bk1, .bool bt1, .string bk2, .bool bt2] 74)
        have hDE : wa.heap.size ≠ wb.heap.size := by have h1 := HXA.out.lt; omega
        have hED : wb.heap.size ≠ wa.heap.size := fun e => hDE e.symm
        have hBB : w9.heap.size ≤ wb.heap.size := B2.size
        have HX2 := Lib.hid hX2
        have HY2 := Lib.hid hY2
        have HB2 := Lib.hid B2'
        have q1 := HFB.out _ B2'
        have q2 := HZB.out _ B2'
        clear hX2 hY2 hbb B2 B2' F2 HH2 HXA HB1
        rcases hwho with ⟨e1, e2, e3⟩ | ⟨e1, e2⟩
        · subst e1
          have hyy : (y == y) = true := by simp
          have y0 : ∀ m, ((wb.alloc (.cells #[.string bk1, .bool bt1, .string bk2, .bool bt2] 74)).drewN m).cell? ⟨wb.heap.size, 0, none⟩ = some (.string bk1) := fun m => HY2.out.cell 0
          have y1 : ∀ m, ((wb.alloc (.cells #[.string bk1, .bool bt1, .string bk2, .bool bt2] 74)).drewN m).cell? ⟨wb.heap.size, 1, none⟩ = some (.bool bt1) := fun m => HY2.out.cell 1
          have y2 : ∀ m, ((wb.alloc (.cells #[.string bk1, .bool bt1, .string bk2, .bool bt2] 74)).drewN m).cell? ⟨wb.heap.size, 2, none⟩ = some (.string bk2) := fun m => HY2.out.cell 2
          have y3 : ∀ m, ((wb.alloc (.cells #[.string bk1, .bool bt1, .string bk2, .bool bt2] 74)).drewN m).cell? ⟨wb.heap.size, 3, none⟩ = some (.bool bt2) := fun m => HY2.out.cell 3
          have g0 : ∀ m, ((wb.alloc (.cells #[.string bk1, .bool bt1, .string bk2, .bool bt2] 74)).drewN m).cell? ⟨G, 0, none⟩ = some (.string rk1) := fun m => (HYB.out _ HB2.out).cell 0
          have g1 : ∀ m, ((wb.alloc (.cells #[.string bk1, .bool bt1, .string bk2, .bool bt2] 74)).drewN m).cell? ⟨G, 1, none⟩ = some (.bool rt1) := fun m => (HYB.out _ HB2.out).cell 1
          have g2 : ∀ m, ((wb.alloc (.cells #[.string bk1, .bool bt1, .string bk2, .bool bt2] 74)).drewN m).cell? ⟨G, 2, none⟩ = some (.string rk2) := fun m => (HYB.out _ HB2.out).cell 2
          have g3 : ∀ m, ((wb.alloc (.cells #[.string bk1, .bool bt1, .string bk2, .bool bt2] 74)).drewN m).cell? ⟨G, 3, none⟩ = some (.bool rt2) := fun m => (HYB.out _ HB2.out).cell 3
          have HIN := Lib.hid (fun W => int_key ⟨⟨bk1, bt1⟩, ⟨bk2, bt2⟩⟩ ⟨⟨rk1, rt1⟩, ⟨rk2, rt2⟩⟩ W)
          have HHU := Lib.hid (fun W => hul_key ⟨⟨bk1, bt1⟩, ⟨bk2, bt2⟩⟩ ⟨⟨rk1, rt1⟩, ⟨rk2, rt2⟩⟩ W)
          rw [← e2] at HHU
          generalize Rg.intK ⟨⟨bk1, bt1⟩, ⟨bk2, bt2⟩⟩ ⟨⟨rk1, rt1⟩, ⟨rk2, rt2⟩⟩ = ri at *
          have HEM := Lib.hid (fun W => emp_key ri W)
          rw [e3] at HEM
          have hNE := neq_self ak1 at1 ak2 at2
          clear e2 e3
          go_wp2_with fail
          go_quiet (fail)
          go_wp2_with fail
          refine (HIN.out _).mono ?_
          rintro e wc ⟨rfl, hbc⟩
          have hBC : Below (wb.alloc (.cells #[.string bk1, .bool bt1, .string bk2, .bool bt2] 74)).heap.size (wb.alloc (.cells #[.string bk1, .bool bt1, .string bk2, .bool bt2] 74)) wc := ⟨hbc.os, hbc.tape, hbc.output, hbc.size, hbc.block⟩
          clear y0 y1 y2 y3 g0 g1 g2 g3 hbc q1 q2 hyy
          go_wp2_with fail
          refine (HEM.out _).mono ?_
          rintro e wd ⟨rfl, hbd⟩
          have hBD := hBC.trans (hbd.mono hBC.size)
          have Y3 := HY2.out.below hBD
          have G3 := (HYB.out _ HB2.out).below hBD
          have y0 := Y3.cell 0
          have y1 := Y3.cell 1
          have y2 := Y3.cell 2
          have y3 := Y3.cell 3
          have g0 := G3.cell 0
          have g1 := G3.cell 1
          have g2 := G3.cell 2
          have g3 := G3.cell 3
          clear hBC hbd Y3 G3
          go_wp2_with fail
          refine (HHU.out _).mono ?_
          rintro e wf ⟨rfl, hbf⟩
          have hBF := hBD.trans (hbf.mono hBD.size)
          have Y4 := HY2.out.below hBF
          have X4 := HX2.out.below hBF
          have yz := fun o => Y4.frozen o
          have z0 := Y4.cell 0
          have z1 := Y4.cell 1
          have z2 := Y4.cell 2
          have z3 := Y4.cell 3
          have x0 := X4.cell 0
          have x1 := X4.cell 1
          have x2 := X4.cell 2
          have x3 := X4.cell 3
          have HBF := Lib.hid (HB2.out.trans (hBF.mono HB2.out.size))
          clear y0 y1 y2 y3 g0 g1 g2 g3 hBD hbf Y4 X4 hBF
          go_wp2_with fail
          exact ⟨⟨i + 1, hin, by go_num, (((HBF.out.setCell hBB _).setCell hBB _).setCell hBB _).setCell hBB _⟩, by simp [intOf]; omega⟩
        · have hyy : (y == oi) = false := by simpa using e1
          injection e2 with e4 e5
          injection e4 with e6 e7
          injection e5 with e8 e9
          subst e6 e7 e8 e9
          clear e1
          have hNE := neq_self ak1 at1 ak2 at2
          have y0 : ∀ m, ((wb.alloc (.cells #[.string ak1, .bool at1, .string ak2, .bool at2] 74)).drewN m).cell? ⟨wb.heap.size, 0, none⟩ = some (.string ak1) := fun m => HY2.out.cell 0
          have y1 : ∀ m, ((wb.alloc (.cells #[.string ak1, .bool at1, .string ak2, .bool at2] 74)).drewN m).cell? ⟨wb.heap.size, 1, none⟩ = some (.bool at1) := fun m => HY2.out.cell 1
          have y2 : ∀ m, ((wb.alloc (.cells #[.string ak1, .bool at1, .string ak2, .bool at2] 74)).drewN m).cell? ⟨wb.heap.size, 2, none⟩ = some (.string ak2) := fun m => HY2.out.cell 2
          have y3 : ∀ m, ((wb.alloc (.cells #[.string ak1, .bool at1, .string ak2, .bool at2] 74)).drewN m).cell? ⟨wb.heap.size, 3, none⟩ = some (.bool at2) := fun m => HY2.out.cell 3
          have x0 : ∀ m, ((wb.alloc (.cells #[.string ak1, .bool at1, .string ak2, .bool at2] 74)).drewN m).cell? ⟨wa.heap.size, 0, none⟩ = some (.string ak1) := fun m => HX2.out.cell 0
          have x1 : ∀ m, ((wb.alloc (.cells #[.string ak1, .bool at1, .string ak2, .bool at2] 74)).drewN m).cell? ⟨wa.heap.size, 1, none⟩ = some (.bool at1) := fun m => HX2.out.cell 1
          have x2 : ∀ m, ((wb.alloc (.cells #[.string ak1, .bool at1, .string ak2, .bool at2] 74)).drewN m).cell? ⟨wa.heap.size, 2, none⟩ = some (.string ak2) := fun m => HX2.out.cell 2
          have x3 : ∀ m, ((wb.alloc (.cells #[.string ak1, .bool at1, .string ak2, .bool at2] 74)).drewN m).cell? ⟨wa.heap.size, 3, none⟩ = some (.bool at2) := fun m => HX2.out.cell 3
          go_wp2_with fail
          go_quiet (fail)
          go_wp2_with fail
          exact ⟨⟨i + 1, hin, by go_num, ⟨HB2.out.os, HB2.out.tape, HB2.out.output, HB2.out.size, HB2.out.block⟩⟩, by simp [intOf]; omega⟩
      · have HS5 := Lib.hid (HSA.out wr)
        have HBW := Lib.hid (HB9.out.trans (hB.mono HB9.out.size))
        have hz6 : ((n6 : Int) == (n : Int) - 1) = true := by have := HNN.out; simp; omega
        have hwr : IntKind.i64.wrap ((n : Int) - 1) = (n : Int) - 1 := IntWalk.i64_in _ (by omega)
        clear HSA IR9 IL9 HS hr9 HNN
        go_wp2_with fail
        refine (HS5.out).mono ?_
        rintro e w10 ⟨rfl, hb10⟩
        go_wp2_with fail
        go_ret
        exact ⟨rfl, HBW.out.trans (hb10.mono HBW.out.size)⟩
end Go.Proofs.YtiafimbehcemcaaDoor
