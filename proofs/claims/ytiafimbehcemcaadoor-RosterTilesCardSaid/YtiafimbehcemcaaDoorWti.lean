/-
  The walk of RosterTiles: from whatever numbers and key it answers true and only makes memory. Conditions: the first argument reads as a slice of ints; 'letters' is as its initialiser lays it.
-/
import Derived.Test.YtiafimbehcemcaaDoorWlv
import Derived.Test.YtiafimbehcemcaaDoorKgP
import Derived.Deep.RegionHeld3
namespace Go.Proofs.YtiafimbehcemcaaDoor
open Go.RowKit

set_option maxRecDepth 100000 in
set_option maxHeartbeats 1600000 in
theorem whole_any (w : World) : Calls Tryd.prog 61 #[] w fun e w' => e = .returned wholeR.val ∧ Below w.heap.size w w' := by
  have hb := (Below.refl w.heap.size w).alloc (Nat.le_refl _) (.cells #[.string ⟨#[]⟩, .bool false, .string ⟨#[]⟩, .bool true] 74)
  go_enter Tryd.func61, Tryd.ntmps61
  go_wp2_with fail
  exact bodyPost_ret (v := .agg #[.string ⟨#[]⟩, .bool false, .string ⟨#[]⟩, .bool true]) (by simp [results, Tryd.results61, go_sem]) rfl ⟨rfl, hb⟩

set_option maxRecDepth 100000 in
set_option maxHeartbeats 1600000 in
theorem tiles_walk (A : Option Addr) (n0 cp : Nat) (key : ByteArray) (w : World) (hL : Lets w) (hnc : n0 ≤ cp) (hc : cp ≤ maxLen) (hN : Nums w w.heap.size A n0) :
    Calls Tryd.prog 9 #[.slice A n0 cp, .string key] w (LawP w) := by
  have HSA := Lib.hid sane5_any
  have HWH := Lib.hid whole_any
  obtain ⟨inf, hif, hif1, hif2, hif3⟩ := infoG_parts
  go_enter Tryd.func9, Tryd.ntmps9
  go_wp2_with fail
  refine (new_any A n0 cp _ hnc hc hN).mono ?_
  rintro e w1 ⟨g, hg1, rfl, hTp, hb1⟩
  have hne2 : 0 ≠ g := by have := hL.lt; omega
  have l1 := hL.below hb1
  clear hN hnc hc hL
  go_wp2_with fail
  refine (some_any 8 g w1 (by omega) (by omega) hTp l1 hne2).mono ?_
  rintro e w2 ⟨A2, c2, l, rfl, ho, hl0, hl8, hchk, hst⟩
  have hB2 : Below w.heap.size w w2 := hb1.grown hst.2 hb1.size (fun j e => by have := Option.some.inj e; omega)
  have hTp2 := hst.1
  have l2 := l1.step hne2 hst
  have hg2 : g < w1.heap.size := hTp.lt
  obtain ⟨_, _, er, hnd⟩ := ho.read
  injection er with e1 _ e2
  subst e1 e2
  have hA2 : ∀ b o, A2 = some ⟨b, o, none⟩ → b ≠ g := fun b o e => by
    have := (ho.lt b (by rw [e]; rfl)).1
    omega
  have HR := Lib.hid (ros_of hchk)
  have HCK := Lib.hid hchk
  have HNE := Lib.hid hl0
  have HS := Lib.hid (sort_any A2 l c2 w2 hnd hl0 (by omega))
  have HE : Hid (∀ s, Srt l s → s = srt l) := Lib.hid fun s h => srt_of h (chkV_zero.1 hchk).2.2
  clear hst l1 hTp hb1 ho hchk hl0
  go_wp2_with fail
  refine (HS.out).mono ?_
  rintro e w3 ⟨s, hs, A3, c3, rfl, ho3, hb3⟩
  obtain rfl := HE.out s hs
  have hsl : (srt l).length = l.length := hs.len
  obtain ⟨_, _, er, hr3⟩ := ho3.read
  injection er with e1 _ e2
  subst e1 e2
  have hA3 : ∀ b o, A3 = some ⟨b, o, none⟩ → b ≠ g := fun b o e => by
    have := (ho3.lt b (by rw [e]; rfl)).1
    have := hTp2.lt
    omega
  have B3 := hB2.trans (hb3.mono hB2.size)
  have hTp3 := hTp2.below hb3
  have l3 := l2.below hb3
  have hnd3 := (hnd.below hb3).more hb3.size
  obtain ⟨n, hn⟩ : ∃ n, n = l.length := ⟨_, rfl⟩
  rw [hsl, ← hn]
  rw [← hn] at hl8 hsl
  have HN := Lib.hid hn
  have HSL := Lib.hid hsl
  have HIV := Lib.hid (fun (i : Nat) (h : i < (srt l).length) => ivlV_at HR.out.apart h)
  have HTI := Lib.hid (fun (i : Nat) (h : i < (srt l).length) => tiles_take h)
  have HTW := Lib.hid (tiles_whole HR.out.asc HR.out.ok (fun e => HNE.out (by rw [← List.length_eq_zero_iff, ← HN.out, ← hsl, e]; rfl)))
  have HTL : Hid ((tilesOf (srt l)).length = n) := Lib.hid (by rw [tilesOf_len]; exact hsl)
  have HHB := Lib.hid (fun (x : ByteArray) (hk : vk x = true) (i : Nat) (h : i < (srt l).length) => has_bnd HR.out.asc HR.out.ok hk h)
  have HOI := Lib.hid (fun (x : ByteArray) (i : Nat) (h : i < (srt l).length) => owns_iff (s := srt l) (fun e => HNE.out (by rw [← List.length_eq_zero_iff, ← HN.out, ← hsl, e]; rfl)) HR.out.apart x h)
  have HTA := Lib.hid (fun (i : Nat) (h : i < (tilesOf (srt l)).length) => tilesOf_at h)
  have HIL := Lib.hid (fun (W : World) (k : Below w3.heap.size w3 W) (id : Int) => interval_any A2 l c2 id W ((hnd3.below k).more k.size) HNE.out (by rw [← HN.out]; omega) HCK.out)
  have HRL := Lib.hid (fun (W : World) (k : Below w3.heap.size w3 W) (id : Int) => rank_any A2 l c2 id W ((hnd3.below k).more k.size) HNE.out (by rw [← HN.out]; omega) HCK.out)
  rw [← HN.out] at HIL HRL
  generalize srt l = S at *
  clear hs ho3 hb3 hB2 hTp2 hnd HE HS hn hsl l2
  go_wp2_with fail
  go_loopw [8, 9] (fun b i wr => ∃ (v1 : Value) (k : Nat), v1 = b ∧ k ≤ n ∧ i = .int .i64 (k : Int) ∧ OwnG wr w3.heap.size v1 ((tilesOf S).take k) ∧ Below w3.heap.size w3 wr) (fun _ i _ => n - (intOf i).toNat)
  case atStart => exact ⟨_, 0, rfl, by omega, rfl, OwnG.nil _ _, Below.refl _ _⟩
  case round =>
    obtain ⟨v1, k, rfl, hk, rfl, ho1, hB⟩ := hrel
    by_cases hlt : k < n
    · have hks : k < S.length := by rw [HSL.out]; exact hlt
      obtain ⟨b, o, hA3b, hbl, f1, f2, f3⟩ := hr3.at_ hks
      have H1 := HIL.out wr hB S[k].id
      have H2 := fun (W : World) (kk : Below w3.heap.size w3 W) => HRL.out W kk S[k].id
      have HF := Lib.hid (fun (W : World) (kk : Below w3.heap.size w3 W) => (kk.cell (p := ⟨b, o + k * 3, none⟩) hbl).trans f1)
      rw [(HIV.out k hks).1, (HIV.out k hks).2.1] at H1
      rw [(HIV.out k hks).2.2, (HIV.out k hks).2.1] at H2
      have HT := Lib.hid (HTI.out k hks)
      have hlen : ((tilesOf S).take k).length < 1000000 := by rw [List.length_take]; omega
      generalize ivlAt S k = ra at *
      generalize S[k].id = y at *
      have HH1 := Lib.hid H1
      have HH2 := Lib.hid H2
      have F1 := HF.out wr hB
      have kz : (0 : Int) ≤ (k : Int) := by omega
      have kz1 : (k : Int) < (n : Int) := by omega
      obtain ⟨⟨ak1, at1⟩, ⟨ak2, at2⟩⟩ := ra
      subst hA3b
      clear H1 H2 f1 f2 f3
      go_wp2_with fail
      refine (HH1.out).mono ?_
      rintro e wa ⟨rfl, hba⟩
      have B1 := hB.trans (hba.mono hB.size)
      have K1 := hba.alloc hba.size (.cells #[.string ak1, .bool at1, .string ak2, .bool at2] 74)
      have B1' := B1.alloc B1.size (.cells #[.string ak1, .bool at1, .string ak2, .bool at2] 74)
      have F2 := HF.out _ B1'
      have HX := Lib.hid (Has.new wa 74 #[.string ak1, .bool at1, .string ak2, .bool at2])
      have HO := Lib.hid (ho1.below K1)
      have HB1 := Lib.hid B1'
      clear F1 hba B1 B1' K1 HH1 ho1
      go_wp2_with fail
      refine (HH2.out _ HB1.out).mono ?_
      rintro e wb ⟨rfl, hbb⟩
      have hX2 := HX.out.below hbb
      have x0 := hX2.cell 0
      have x1 := hX2.cell 1
      have x2 := hX2.cell 2
      have x3 := hX2.cell 3
      have ho2 := HO.out.below hbb
      have hB2 := HB1.out.trans (hbb.mono HB1.out.size)
      clear F2 HH2 HB1 HX HO hX2 hbb
      go_wp2_with (at_builtin; refine wpList_pushR rfl _ _ 80 rfl w3.heap.size inf Tryd.underlying80 hif hif1 hif2 hif3 v1 ((tilesOf S).take k) wb ak1 at1 ak2 at2 rfl ho2 rfl hlen hB2.size ?_; intro v2 w4 ho3 hb4)
      exact ⟨⟨v2, k + 1, rfl, hlt, by go_num, by rw [HT.out]; exact ho3, hB2.trans hb4⟩, by simp [intOf]; omega⟩
    · have hkn : (tilesOf S).take k = tilesOf S := List.take_of_length_le (by rw [HTL.out]; omega)
      rw [hkn] at ho1
      obtain ⟨A4, c4, rfl, hlc4, hmc4, hr4, hA4⟩ := ho1.read
      have HTK := Lib.hid (fun (W : World) (kk : Below wr.heap.size wr W) => tiles_key (tilesOf S) wholeR A4 c4 W (rgs_up hr4 (Nat.le_refl _) kk) hlc4 hmc4)
      unfold TilesP at HTK
      rw [HTW.out, HTL.out, HSL.out] at HTK
      rw [HTL.out]
      have HB4 := Lib.hid hB
      have HR4 := Lib.hid hr4
      have HA4 : Hid (∀ b o, A4 = some ⟨b, o, none⟩ → b ≠ g) := Lib.hid fun b o e => by
        have h1 := hA4 b o e
        have h2 := hTp3.lt
        omega
      have hTp4 := hTp3.below hB
      have l4 := l3.below hB
      clear hkn ho1 hlc4 hmc4 hr4 hA4 hTp3 l3
      go_wp2_with fail
      refine (HWH.out _).mono ?_
      rintro e w5 ⟨rfl, hb5⟩
      go_wp2_with fail
      refine (HTK.out _ hb5).mono ?_
      rintro e w6 ⟨rfl, hb6⟩
      have B6 := hb5.trans (hb6.mono hb5.size)
      have hTp6 := hTp4.below B6
      have l6 := l4.below B6
      have BB6 := HB4.out.trans (B6.mono HB4.out.size)
      have HB6 := Lib.hid B6
      have HBB6 := Lib.hid BB6
      clear hb5 hb6 HTK HWH hTp4 l4 B6 BB6 HB4
      go_wp2_with fail
      refine (key_any g _ hTp6 l6 hne2).mono ?_
      rintro e w7 ⟨key1, _, rfl, hst7⟩
      have NL7 := Lib.hid ((((hnd3.below HBB6.out).more HBB6.out.size).step hA2 (Nat.le_refl _) hst7).more hst7.2.size)
      have NS7 := Lib.hid ((((hr3.below HBB6.out).more HBB6.out.size).step hA3 (Nat.le_refl _) hst7).more hst7.2.size)
      have RT7 := Lib.hid (rgs_step (rgs_up HR4.out (Nat.le_refl _) HB6.out) HA4.out hst7)
      have BW6 := B3.trans (HBB6.out.mono B3.size)
      have BW7 := BW6.grown hst7.2 BW6.size (fun j e => by have := Option.some.inj e; omega)
      have K8 := (Below.refl w7.heap.size w7).alloc (Nat.le_refl _) (.cells #[.string key1, .string key] 9)
      have hD8 := Has.new w7 9 #[.string key1, .string key]
      have BW8 := Lib.hid (BW7.alloc BW7.size (.cells #[.string key1, .string key] 9))
      have NL8 := Lib.hid ((NL7.out.below K8).more K8.size)
      have NS8 := Lib.hid ((NS7.out.below K8).more K8.size)
      have RT8 := Lib.hid (rgs_up RT7.out (Nat.le_refl _) K8)
      have hDl := hD8.lt
      have HD8 := Lib.hid hD8
      clear NL7 NS7 RT7 hst7 BW6 BW7 HB6 HBB6 HR4 HA4 hTp6 l6 hnd3 hr3 hA2 hA3 B3 K8 hD8 HIL HRL HTI HTW HIV hB hk
      go_wp2_with fail
      generalize (w7.alloc (.cells #[.string key1, .string key] 9)) = w8 at *
      generalize w7.heap.size = D at *
      go_loopw [87] (fun j wr => ∃ q : Nat, q ≤ 2 ∧ j = .int .i64 (q : Int) ∧ Below w8.heap.size w8 wr) (fun j _ => 2 - (intOf j).toNat)
      case atStart => exact ⟨0, by omega, rfl, Below.refl _ _⟩
      case round =>
        obtain ⟨q, hq, rfl, hB⟩ := hrel
        by_cases hq2 : q < 2
        · obtain ⟨x, hx⟩ : ∃ x, w8.cell? ⟨D, q, none⟩ = some (.string x) := by
            have : q = 0 ∨ q = 1 := by omega
            rcases this with rfl | rfl
            · exact ⟨_, HD8.out.cell 0⟩
            · exact ⟨_, HD8.out.cell 1⟩
          have HX := (hB.cell (p := ⟨D, q, none⟩) hDl).trans hx
          have qz : (0 : Int) ≤ (q : Int) := by omega
          have qz1 : (q : Int) < 2 := by omega
          cases hvk : vk x
          · have HO := Lib.hid (owner_no A2 l c2 x wr ((NL8.out.below hB).more hB.size) HCK.out (.inr hvk))
            have HV := Lib.hid (fun W => (vk_key x W).mono fun e w' h => (⟨by rw [h.1, hvk], h.2⟩ : e = .returned (.bool false) ∧ W = w'))
            rw [← HN.out] at HO
            clear hvk hx
            go_wp2_with fail
            refine (HO.out).mono ?_
            rintro e wa ⟨rfl, hba⟩
            have BA := Lib.hid ((hB.trans (hba.mono hB.size)).alloc (hB.trans (hba.mono hB.size)).size (.cells #[.int .i64 Nd.none.id, .string Nd.none.key, .int .u32 (Nd.none.word : Int)] 60))
            clear hba HX
            go_wp2_with fail
            refine (HV.out _).mono ?_
            rintro e wb ⟨rfl, rfl⟩
            go_wp2_with fail
            generalize (wa.alloc (.cells #[.int .i64 Nd.none.id, .string Nd.none.key, .int .u32 (Nd.none.word : Int)] 60)) = wv at *
            go_loopw [20] (fun i wz => i = .int .i64 0 ∧ wv = wz) (fun i _ => 0)
            case atStart => exact ⟨rfl, rfl⟩
            case round =>
              obtain ⟨rfl, rfl⟩ := hrel
              go_wp2_with fail
              exact ⟨⟨q + 1, by omega, by go_num, BA.out⟩, by simp [intOf]; omega⟩
          · have HO := Lib.hid (owner_yes A2 l c2 x wr ((NL8.out.below hB).more hB.size) HNE.out (by rw [← HN.out]; omega) HCK.out hvk)
            have HV := Lib.hid (fun W => (vk_key x W).mono fun e w' h => (⟨by rw [h.1, hvk], h.2⟩ : e = .returned (.bool true) ∧ W = w'))
            rw [← HN.out, ← HR.out.eq] at HO
            have HH := Lib.hid (fun (i : Nat) (h : i < S.length) => HHB.out x hvk i h)
            have HI := Lib.hid (fun (i : Nat) (h : i < S.length) => HOI.out x i h)
            generalize ownV S x = oo at *
            obtain ⟨oi, ok, ow⟩ := oo
            clear hvk hx
            go_wp2_with fail
            refine (HO.out).mono ?_
            rintro e wa ⟨rfl, hba⟩
            have BA := Lib.hid ((hB.trans (hba.mono hB.size)).alloc (hB.trans (hba.mono hB.size)).size (.cells #[.int .i64 oi, .string ok, .int .u32 (ow : Int)] 60))
            have hO9 := Has.new wa 60 #[.int .i64 oi, .string ok, .int .u32 (ow : Int)]
            have hOl := hO9.lt
            have HO9 := Lib.hid hO9
            clear hba HX hO9
            go_wp2_with fail
            refine (HV.out _).mono ?_
            rintro e wb ⟨rfl, rfl⟩
            go_wp2_with fail
            have NS9 := Lib.hid ((NS8.out.below BA.out).more BA.out.size)
            have RT9 := Lib.hid (rgs_up RT8.out (Nat.le_refl _) BA.out)
            generalize (wa.alloc (.cells #[.int .i64 oi, .string ok, .int .u32 (ow : Int)] 60)) = wv at *
            generalize wa.heap.size = O at *
            go_loopw [20] (fun i wz => ∃ i' : Nat, i' ≤ n ∧ i = .int .i64 (i' : Int) ∧ Below wv.heap.size wv wz) (fun i _ => n - (intOf i).toNat)
            case atStart => exact ⟨0, by omega, rfl, Below.refl _ _⟩
            case round =>
              clear hB
              obtain ⟨i, hi, rfl, hB⟩ := hrel
              by_cases hin : i < n
              · have hiS : i < S.length := by rw [HSL.out]; exact hin
                have hiT : i < (tilesOf S).length := by rw [HTL.out]; exact hin
                obtain ⟨b4, o4, hA4, hb4, t1, t2, t3, t4⟩ := rgs_at RT9.out hiT
                obtain ⟨b3, o3, hA3, hb3, f1, _, _⟩ := NS9.out.at_ hiS
                have hha := HH.out i hiS
                have hid := HI.out i hiS
                have hta := HTA.out i hiT
                rw [hta] at t1 t2 t3 t4
                generalize ivlAt S i = rr at *
                generalize S[i].id = y at *
                generalize decide (i = abv S x - 1) = dd at *
                obtain ⟨⟨rk1, rt1⟩, ⟨rk2, rt2⟩⟩ := rr
                simp only at t1 t2 t3 t4
                subst hA4 hA3
                have HHA := Lib.hid (fun W => (has_key ⟨⟨rk1, rt1⟩, ⟨rk2, rt2⟩⟩ x W).mono fun e w' h => (⟨by rw [h.1, hha], h.2⟩ : e = .returned (.bool dd) ∧ Below W.heap.size W w'))
                have hdd : (dd != dd) = false := by simp
                have iz : (0 : Int) ≤ (i : Int) := by omega
                have iz1 : (i : Int) < (n : Int) := by omega
                have z4 : b4 < wr.heap.size := Nat.lt_of_lt_of_le hb4 hB.size
                have z3 : b3 < wr.heap.size := Nat.lt_of_lt_of_le hb3 hB.size
                have zO : O < wr.heap.size := Nat.lt_of_lt_of_le hOl hB.size
                have T1 := (hB.cell (p := ⟨b4, o4 + i * 4, none⟩) hb4).trans t1
                have T2 := (hB.cell (p := ⟨b4, o4 + i * 4 + 1, none⟩) hb4).trans t2
                have T3 := (hB.cell (p := ⟨b4, o4 + i * 4 + 2, none⟩) hb4).trans t3
                have T4 := (hB.cell (p := ⟨b4, o4 + i * 4 + 3, none⟩) hb4).trans t4
                have T5 := (hB.cell (p := ⟨b3, o3 + i * 3, none⟩) hb3).trans f1
                have T6 := (hB.cell (p := ⟨O, 0, none⟩) hOl).trans (HO9.out.cell 0)
                clear hta hha t1 t2 t3 t4 f1
                go_wp2_with fail
                have r1 := fun (wz : World) (h : Below wr.heap.size wr wz) => (h.cell (p := ⟨b4, o4 + i * 4, none⟩) z4).trans T1
                have r2 := fun (wz : World) (h : Below wr.heap.size wr wz) => (h.cell (p := ⟨b4, o4 + i * 4 + 1, none⟩) z4).trans T2
                have r3 := fun (wz : World) (h : Below wr.heap.size wr wz) => (h.cell (p := ⟨b4, o4 + i * 4 + 2, none⟩) z4).trans T3
                have r4 := fun (wz : World) (h : Below wr.heap.size wr wz) => (h.cell (p := ⟨b4, o4 + i * 4 + 3, none⟩) z4).trans T4
                have r5 := fun (wz : World) (h : Below wr.heap.size wr wz) => (h.cell (p := ⟨b3, o3 + i * 3, none⟩) z3).trans T5
                have r6 := fun (wz : World) (h : Below wr.heap.size wr wz) => (h.cell (p := ⟨O, 0, none⟩) zO).trans T6
                clear T1 T2 T3 T4 T5 T6
                go_region_held3 (fun wz => Below wr.heap.size wr wz) (first | with_reducible exact hS1 | with_reducible exact (Below.refl _ _).drew | with_reducible assumption) ((go_at_call 64; refine (HHA.out _).mono ?_; rintro e w7 ⟨rfl, hb7⟩; have hS1 := Below.trans (show Below wr.heap.size wr _ by assumption) (hb7.mono (Below.size (show Below wr.heap.size wr _ by assumption)))))
                have hS2 := hB.trans (hS1.mono hB.size)
                clear r1 r2 r3 r4 r5 r6
                go_wp2_with fail
                exact ⟨⟨i + 1, hin, by go_num, hS2⟩, by simp [intOf]; omega⟩
              · go_wp2_with fail
                exact ⟨⟨q + 1, by omega, by go_num, BA.out.trans (hB.mono BA.out.size)⟩, by simp [intOf]; omega⟩
        · have HS5 := Lib.hid (HSA.out wr)
          have HBW := Lib.hid (BW8.out.trans (hB.mono BW8.out.size))
          clear HSA NL8 NS8 RT8 HHB HOI HTA
          go_wp2_with fail
          refine (HS5.out).mono ?_
          rintro e w9 ⟨rfl, hb9⟩
          go_wp2_with fail
          go_ret
          exact ⟨rfl, HBW.out.trans (hb9.mono HBW.out.size)⟩
end Go.Proofs.YtiafimbehcemcaaDoor
