/-
  The tape's Height. Condition: the nodes can be read.
  The tape's Links: a built list of links that is changed in five ways. Conditions: the nodes can be read, their height is within the levels.
-/
import Derived.Test.YtjokbdhineilcaaGreatDoorLmJ
import Derived.Test.YtjokbdhineilcaaGreatDoorLnA
import Derived.Test.YtjokbdhineilcaaGreatDoorKhU
import Derived.Deep.DeepCutAuto
import Derived.Deep.CutBlock
namespace Go.Proofs.YtjokbdhineilcaaGreatDoor
section
open Go.RowKit

def HgtP (g : Nat) (w : World) (e : Ending) (w' : World) : Prop := ∃ h : Int, (0 ≤ h ∧ h ≤ 16) ∧ e = .returned (.int .i64 h) ∧ TStep w g w'
theorem hgtP_mk {g : Nat} {w w' : World} {h : Int} (h0 : 0 ≤ h) (h1 : h ≤ 16) (k : TStep w g w') : HgtP g w (.returned (.int .i64 h)) w' := ⟨h, ⟨h0, h1⟩, rfl, k⟩
end
section
open Go.RowKit

theorem idAt_wide {c : List Nd} (h : ∀ x ∈ c, I64 x.id) (j : Nat) : I64 (idAt c j) := by
  rcases Nat.lt_or_ge j c.length with h1 | h1
  · rw [idAt_lt h1]; exact h _ (List.getElem_mem h1)
  · rw [idAt_ge h1]; unfold I64; omega
theorem lnk_wide {s : List Nd} (hs : ∀ x ∈ s, I64 x.id) (h : Int) (x : Nd) : LkW (lnk s h x) := by
  have hc : ∀ y ∈ grp s h x.word, I64 y.id := fun y hy => hs y ((grp_sub s h x.word).subset hy)
  refine ⟨?_, idAt_wide hc _⟩
  show I64 (if _ then (0 : Int) else _)
  split
  · unfold I64; omega
  · exact idAt_wide hc _
theorem bldV_wide {l : List Nd} (hl : ∀ x ∈ l, x.wide) (n : Nat) : ∀ x ∈ bldV l n, I64 x.id ∧ x.levels.length ≤ n ∧ ∀ y ∈ x.levels, LkW y := by
  have hs : ∀ x ∈ srt l, I64 x.id := fun x hx => (hl x ((srt_srt l).1.mem_iff.1 hx)).1
  intro x hx
  obtain ⟨y, hy, rfl⟩ := List.mem_map.1 hx
  refine ⟨hs y hy, by simp, fun z hz => ?_⟩
  obtain ⟨t, _, rfl⟩ := List.mem_map.1 hz
  exact lnk_wide hs _ _
theorem rbuildE_any (A : Option Addr) (l : List Nd) (c : Nat) (h : Int) (w : World) (hl : Nds w w.heap.size A l) (hw : ∀ x ∈ l, x.wide) (hh : h ≤ 16) :
    Calls Tryz.prog 23 #[.slice A l.length c, .int .i64 h] w fun e w' => ∃ (v : Value) (n : Nat) (err : Int), e = .returned (.tuple #[v, .int .i64 err]) ∧ n ≤ l.length ∧ OwnE w' w.heap.size v n 17 ∧ Below w.heap.size w w' := by
  refine (rbuild_any A l c h w hl (fun x hx => (hw x hx).2)).mono fun e w' hp => ?_
  rcases hp with ⟨_, rfl, hb⟩ | ⟨_, v, rfl, ho, hb⟩
  · exact ⟨_, 0, _, rfl, Nat.zero_le _, OwnE.nil _ _ _, hb⟩
  · exact ⟨v, _, 0, rfl, by rw [bld_len]; exact Nat.le_refl _, (ho.toE (bldV_wide hw _)).more (by omega), hb⟩
/-- append of one link in a drawn region, which lies in the block that was just made. -/
theorem step_pushK1 {P : Program} {ops : Array Oper} {o : Oper} {a : Act} {K : Act → World → Prop} {Q : Exit → Act → World → Prop} {E : Prop} (hgd : o.guard = none) (s x : Operand) (t : TypeId)
    (ho : o.op = .call { callee := .builtin .append, args := #[s, x], argTypes := #[t, t] })
    (base : Nat) (i : TypeInfo) (ht : P.underlying t = some (.slice 53)) (hi : P.info? 53 = some i) (hz : i.zero = some (.agg #[.int .i64 0, .int .i64 0])) (hsize : i.size = 2) (hby : i.bytes = 16)
    (v : Value) (l : List Lk) (w0 : World) (f : Lk) (hs : a.eval s = v) (hown : OwnK w0 base v l) (hx : a.eval x = .slice (some ⟨w0.heap.size, 0, none⟩) 1 1) (hlen : l.length < 1000000) (hbase : base ≤ w0.heap.size)
    (h : ∀ v' w', OwnK w' base v' (l ++ [f]) → w0.grownBy w' v.ownBlock → (v'.ownBlock = v.ownBlock ∨ v'.ownBlock = some (w0.heap.size + 1)) → K (a.put o.dst v') w') :
    if Region.wanted o (yielded ops a.tmps) = true then Oper.wp P o a (w0.alloc (.cells #[.int .i64 f.left, .int .i64 f.right] 53)) K Q else E := by
  have hw : Region.wanted o (yielded ops a.tmps) = true := by simp [Region.wanted, hgd]
  rw [if_pos hw]
  obtain ⟨v', w', hr, ho', hg, _, hat⟩ := run_append_own_at (P := P) (w := w0.alloc (.cells #[.int .i64 f.left, .int .i64 f.right] 53)) base t o.type 53 i (.agg #[.int .i64 0, .int .i64 0]) 2 16 ht hi hz hsize hby rfl (by decide) v l.length (flatK l) (hown.below ((Below.refl _ _).alloc (Nat.le_refl _) _)) ⟨w0.heap.size, 0, none⟩ 1 1 [.int .i64 f.left, .int .i64 f.right] rfl (by
    intro j u hj
    rw [add_at, Nat.zero_add, (Has.new w0 53 #[.int .i64 f.left, .int .i64 f.right]).cell, ← Array.getElem?_toList]
    exact hj) (by
    intro u hu
    simp at hu
    rcases hu with rfl | rfl <;> rfl) (by unfold maxLen; omega) (by omega) (by simp; omega)
  unfold Oper.wp execOp
  simp only [ho, resolve, invoke, builtin, Sem.run_bind, Sem.run_pure, Result.andThen_ok, List.map_toArray, List.map_cons, List.map_nil, hs, hx, hr]
  refine h v' w' ?_ ((World.grownBy_alloc w0 _ _).trans hg) (hat.imp id fun e => by rw [e, World.size_alloc])
  unfold OwnK
  rw [flatK_snoc, List.length_append]
  exact ho'
theorem KpA.undrew {w w1 : World} {base : Nat} (h : KpA base w.drew w1) : KpA base w w1 := fun j h1 h2 => h j h1 h2
def LinksP (N L : Nat) (g : Nat) (w : World) (e : Ending) (w' : World) : Prop := ∃ v n, e = .returned v ∧ n ≤ N ∧ OwnE w' w.heap.size v n L ∧ TStep w g w'
/-- What is so after a change. -/
def ChE (g : Nat) (w : World) (N L : Nat) (v : Value) (W : World) : Prop := ∃ n, n ≤ N ∧ OwnE W w.heap.size v n L ∧ TStep w g W

set_option maxRecDepth 100000 in
set_option maxHeartbeats 3200000 in
theorem tlinks_any (A : Option Addr) (l : List Nd) (c : Nat) (h : Int) (mo : Nat) (g : Nat) (w : World) (ht : Tape w g) (hnd : Nds w w.heap.size A l) (hn : l.length ≤ 1000) (hA : ∀ b o, A = some ⟨b, o, none⟩ → b ≠ g) (hw : ∀ x ∈ l, x.wide) (hh : h ≤ 16) (hmo : mo ≤ 100) :
    Calls Tryz.prog 8 #[.pointer (some ⟨g, 0, none⟩), .slice A l.length c, .int .i64 h, .int .i64 (mo : Int)] w (LinksP (l.length + mo) (17 + mo) g w) := by
  have HRB := Lib.hid (rbuildE_any A l c h w hnd hw hh)
  have HNX := Lib.hid (fun (n : Int) (W : World) (h : Tape W g) (h2 : n ≤ 1000000) => next_any g n W h (by omega))
  have HBO := Lib.hid (fun (W : World) (h : Tape W g) => bool_any g 2 W h (by omega) (by omega))
  have HID := Lib.hid (fun (W : World) (h : TStep w g W) => idr_any A l c g W h.1 (nds_step hnd hA h) (by omega) hA hw)
  have hg := ht.lt
  have HNL := Lib.hid hn
  obtain ⟨N0, hN0⟩ : ∃ N0, N0 = l.length + mo := ⟨_, rfl⟩
  obtain ⟨L0, hL0⟩ : ∃ L0, L0 = 17 + mo := ⟨_, rfl⟩
  rw [← hN0, ← hL0]
  have hNL : N0 ≤ 1100 := by omega
  have hLL : L0 ≤ 117 := by omega
  obtain ⟨inp, hip, hip1, hip2, hip3⟩ := infoP_parts
  obtain ⟨inf, hif, hif1, hif2, hif3⟩ := infoK_parts
  generalize hln : l.length = ln at *
  have HN0 := Lib.hid hN0
  have HL0 := Lib.hid hL0
  have HLN := Lib.hid hln
  clear hN0 hL0 hn hnd hw hA hln
  go_enter Tryz.func8, Tryz.ntmps8
  go_wp2_with fail
  refine (HRB.out).mono ?_
  rintro e w1 ⟨v1, n1, err, rfl, hn1, ho1, hb1⟩
  have s1 : TStep w g w1 := (TStep.refl ht).below hb1
  have e0 : IntKind.i64.wrap ((mo : Int) + 1) = (mo : Int) + 1 := IntWalk.i64_in _ (by omega)
  clear hb1 HRB
  go_wp2_with fail
  refine (HNX.out _ _ s1.1 (by omega)).mono ?_
  rintro e w2 ⟨r, r0, r1, rfl, hst2⟩
  have s2 := s1.trans hst2
  have ho2 := ho1.step hg hst2
  clear hst2 s1 ho1 e0
  obtain ⟨c0, rfl⟩ := Int.eq_ofNat_of_zero_le r0
  have hc0 : c0 ≤ mo := by omega
  have hn1' : n1 + c0 ≤ N0 := by have := HN0.out; omega
  have hL1' : 17 + c0 ≤ L0 := by have := HL0.out; omega
  clear r0 r1 hc0 hn1
  go_wp2_with fail
  go_loopw [9, 11] (fun vo vc wr => ∃ (v : Value) (n c L : Nat), vo = v ∧ vc = .int .i64 (c : Int) ∧ OwnE wr w.heap.size v n L ∧ TStep w g wr ∧ n + c ≤ N0 ∧ L + c ≤ L0) (fun _ vc _ => (intOf vc).toNat)
  case atStart => exact ⟨v1, n1, c0, 17, rfl, rfl, ho2, s2, hn1', hL1'⟩
  case round =>
    clear hn1' hL1' ho2 s2
    obtain ⟨v, n, k0, L, rfl, rfl, ho, s, hN, hL⟩ := hrel
    obtain ⟨A0, cap0, hv⟩ := ho.shape
    by_cases hk0 : 0 < k0
    · have hk0z : (0 : Int) < (k0 : Int) := by omega
      by_cases hn0 : 0 < n
      · have hn0z : (0 : Int) < (n : Int) := by omega
        subst hv
        go_wp2_with fail
        refine (HNX.out _ _ s.1 (by omega)).mono ?_
        rintro e w3 ⟨k, k00, k1, rfl, hst3⟩
        have s3 := s.trans hst3
        have ho3 := ho.step hg hst3
        clear hst3 s ho
        obtain ⟨k, rfl⟩ := Int.eq_ofNat_of_zero_le k00
        have hk : k < n := by omega
        clear k00 k1
        go_wp2_with fail
        refine (HNX.out _ _ s3.1 (by omega)).mono ?_
        rintro e w4 ⟨sw, sw0, sw1, rfl, hst4⟩
        have s4 := s3.trans hst4
        have ho4 := ho3.step hg hst4
        clear hst4 s3 ho3
        have hsw : sw = 0 ∨ sw = 1 ∨ sw = 2 ∨ sw = 3 ∨ (4 ≤ sw ∧ sw ≤ 6) := by omega
        have w0' : IntKind.i64.wrap ((k0 : Int) - 1) = (k0 : Int) - 1 := IntWalk.i64_in _ (by omega)
        clear sw0 sw1
        rcases hsw with rfl | rfl | rfl | rfl | ⟨sw4, sw6⟩
        · obtain ⟨G, cap, u, lv, ev, hG1, hG2, hnc, hcm, _⟩ := ho4.at_ hk
          injection ev with e1 _ e2
          subst e1 e2
          have d9 : (k : Int) ≤ (k : Int) + 1 := by omega
          have e2 : (0 : Int) ≤ (k : Int) + 1 := by omega
          have e3 : ((k : Int) + 1).toNat = k + 1 := by omega
          have e1 : IntKind.i64.wrap ((k : Int) + 1) = (k : Int) + 1 := IntWalk.i64_in _ (by unfold maxLen at hcm; omega)
          have c2 : (k : Int) + 1 ≤ (n : Int) := by omega
          have c3 : (k : Int) ≤ (cap0 : Int) := by omega
          have c4 : (n : Int) ≤ (cap0 : Int) := by omega
          have c5 : (k : Int) + 1 ≤ (cap0 : Int) := by omega
          have c6 : (k : Int) < (n : Int) := by omega
          have hod := ho4.below ((Below.refl w4.heap.size w4).drew)
          have hbase : w.heap.size ≤ w4.drew.heap.size := s4.2.size
          have hnm : n ≤ 1000000 := by omega
          have s4d := s4.below ((Below.refl w4.heap.size w4).drew)
          by_cases hcap : cap0 = k + 1
          · have HM := Lib.hid (show 0 = n - (k + 1) by omega)
            subst hcap
            clear hnc hG1 hG2
            go_wp2_with fail
            go_region_law ((refine step_cutE (n := n) (L := L) (base := w.heap.size) rfl (.tmp 76) (.tmp 80) 31 (by rfl) Tryz.underlying31 hip hip1 hip2 hip3 hod hk hnm hbase (ad := ⟨G, 0, none⟩) (m := n - (k + 1)) (c := 0) rfl (fun h => absurd HM.out.symm h) (by simp [Act.eval, Act.put]) (by simp [Act.eval, Act.put]) ?_; intro v' W ho' hb'))
            all_goals
              have ho5 := ho'.more (Nat.le_succ L)
              have s5 := s4d.below_base hg hb'
              clear ho' hb' hod s4d s4 ho4 e1 e2 e3 d9 c2 c3 c4 c5 c6 hip hip1 hip2 hip3 hif hif1 hif2 hif3
              go_wp2_with fail
              exact ⟨⟨v', n - 1, k0 - 1, L + 1, rfl, by congr 1; omega, ho5, s5, by omega, by omega⟩, by simp [intOf]; omega⟩
          · clear hG1 hG2
            go_wp2_with fail
            go_region_law ((refine step_cutE (n := n) (L := L) (base := w.heap.size) rfl (.tmp 76) (.tmp 80) 31 (by rfl) Tryz.underlying31 hip hip1 hip2 hip3 hod hk hnm hbase (ad := ⟨G, (k + 1) * 2, none⟩) (m := n - (k + 1)) (c := cap0 - (k + 1)) rfl (fun _ => rfl) (by simp [Act.eval, Act.put]) (by simp [Act.eval, Act.put]) ?_; intro v' W ho' hb'))
            all_goals
              have ho5 := ho'.more (Nat.le_succ L)
              have s5 := s4d.below_base hg hb'
              clear ho' hb' hod s4d s4 ho4 e1 e2 e3 d9 c2 c3 c4 c5 c6 hip hip1 hip2 hip3 hif hif1 hif2 hif3
              go_wp2_with fail
              exact ⟨⟨v', n - 1, k0 - 1, L + 1, rfl, by congr 1; omega, ho5, s5, by omega, by omega⟩, by simp [intOf]; omega⟩
        · clear HBO HNX HL0 HN0 HLN
          go_wp2_with fail
          refine (HID.out _ s4).mono ?_
          rintro e w5 ⟨i1, hi1, rfl, hst5⟩
          have s5 := s4.trans hst5
          have ho5 := ho4.step hg hst5
          have HI1 := Lib.hid hi1
          clear hst5 s4 ho4 hi1
          go_wp2_with fail
          refine (HID.out _ s5).mono ?_
          rintro e w6 ⟨i2, hi2, rfl, hst6⟩
          have s6 := s5.trans hst6
          have ho6 := ho5.step hg hst6
          have HI2 := Lib.hid hi2
          clear hst6 s5 ho5 hi2
          go_wp2_with fail
          refine (HID.out _ s6).mono ?_
          rintro e w7 ⟨i3, hi3, rfl, hst7⟩
          have s7 := s6.trans hst7
          have ho7 := (ho6.step hg hst7).more (Nat.le_succ L)
          have HI3 := Lib.hid hi3
          clear hst7 s6 ho6 hi3
          have hkb := (Below.refl w7.heap.size w7).alloc (Nat.le_refl _) (.cells #[.int .i64 i2, .int .i64 i3] 53)
          have hu7 : OwnK (w7.alloc (.cells #[.int .i64 i2, .int .i64 i3] 53)) w7.heap.size (.slice (some ⟨w7.heap.size, 0, none⟩) 1 1) [⟨i2, i3⟩] := full_ownK (n := 1) (Has.new w7 53 _) (Nat.le_refl _) rfl (by unfold maxLen; omega)
          have hbw : w.heap.size ≤ w7.heap.size := s7.2.size
          have hn6 : n < 1000000 := by omega
          have hl1 : ([⟨i2, i3⟩] : List Lk).length ≤ L + 1 := by simp
          have hlw : ∀ y ∈ ([⟨i2, i3⟩] : List Lk), LkW y := fun y hy => by simp at hy; subst hy; exact ⟨HI2.out, HI3.out⟩
          have s7a := s7.below hkb
          have HO7 := Lib.hid ho7
          have HU7 := Lib.hid hu7
          have HS7 := Lib.hid s7a
          have HK7 := Lib.hid hkb
          have HLW := Lib.hid hlw
          clear ho7 hu7 s7a hkb hlw s7
          go_wp2_with (at_builtin; go_loud (refine wpList_pushE rfl _ _ 31 rfl w.heap.size inp Tryz.underlying31 hip hip1 hip2 hip3 (.slice A0 n cap0) n (L + 1) w7 (w7.alloc (.cells #[.int .i64 i2, .int .i64 i3] 53)) i1 (.slice (some ⟨w7.heap.size, 0, none⟩) 1 1) [⟨i2, i3⟩] HO7.out HK7.out HU7.out hbw HI1.out hl1 HLW.out (by simp [Act.eval]) (by simp [Act.eval]) hn6 ?_); intro v' W ho' hb'; have HO8 := Lib.hid ho'; have HS8 := Lib.hid (HS7.out.below_base hg hb'); clear ho' hb')
          exact ⟨⟨v', n + 1, k0 - 1, L + 1, rfl, by congr 1; omega, HO8.out, HS8.out, by omega, by omega⟩, by simp [intOf]; omega⟩
        · obtain ⟨G, cap, A', m, c', ev, hG1, hG2, hnc, hcm, hcell, hmL, hmc, hcx, hfz, _, hcut, _⟩ := ho4.lev hk
          injection ev with e1 _ e2
          subst e1 e2
          have i0 : (0 : Int) ≤ (k : Int) := by omega
          have i1 : (k : Int) < (n : Int) := by omega
          unfold maxLen at hcx
          have em1 : (m : Int) + 1 ≤ 1000000 := by omega
          have em0 : (0 : Int) ≤ (m : Int) + 1 := by omega
          have hGg : G ≠ g := by omega
          have hfr := hfz (k * 2 + 1)
          have HC := Lib.hid hcut
          have HS4 := Lib.hid (s4.below ((Below.refl w4.heap.size w4).drew))
          have hc2 : w4.drew.cell? ⟨G, k * 2 + 1, none⟩ = some (.slice A' m c') := hcell
          have hf2 : w4.drew.frozen? ⟨G, k * 2 + 1, none⟩ = false := hfr
          have HKA := Lib.hid (fun (W : World) (h : TStep w4.drew g W) => KpA.step hg h)
          have em : IntKind.i64.wrap ((m : Int) + 1) = (m : Int) + 1 := IntWalk.i64_in _ (by omega)
          have HCL : Hid (∀ W, TStep w4.drew g W → W.cell? ⟨G, k * 2 + 1, none⟩ = some (.slice A' m c') ∧ W.frozen? ⟨G, k * 2 + 1, none⟩ = false) := Lib.hid fun W h => ⟨(h.keeps.1 _ _ (show G < w4.drew.heap.size from hG2) hGg).trans hc2, (h.keeps.2.1 _ _ (show G < w4.drew.heap.size from hG2) hGg).trans hf2⟩
          clear HBO HID HL0 HN0 HLN HNL hcut hfz s4 ho4 hip hip1 hip2 hip3 hif hif1 hif2 hif3 hnc hcm hcell hfr
          go_wp2_with fail
          go_region_with ((go_at_call 7; refine (HNX.out _ _ HS4.out.1 em1).mono ?_; rintro e w5 ⟨r, r0, r1, rfl, hst5⟩; obtain ⟨r, rfl⟩ := Int.eq_ofNat_of_zero_le r0; have r2 : r ≤ m := (by omega); have r3 : (r : Int) ≤ (c' : Int) := (by omega); obtain ⟨hc5, hf5⟩ := HCL.out w5 hst5; have HR5 := Lib.hid hst5; clear hst5 r1))
          all_goals
            have ho5 := HC.out w5 (HKA.out w5 HR5.out) r r2
            have s5 := (HS4.out.trans HR5.out).set (p := ⟨G, k * 2 + 1, none⟩) hG1 hg (.slice A' r c')
            clear hc5 hf5 HC HKA HCL HS4 HR5 em em0 em1 i0 i1 r3
            go_wp2_with fail
            exact ⟨⟨_, n, k0 - 1, L + 1, rfl, by congr 1; omega, ho5, s5, by omega, by omega⟩, by simp [intOf]; omega⟩
        · obtain ⟨G, cap, A', m, c', ev, hG1, hG2, hnc, hcm, hcell, hmL, hmc, hcx, hfz, _, _, lv, hlm, hlw, hown, huG, hput⟩ := ho4.lev hk
          injection ev with e1 _ e2
          subst e1 e2
          have i0 : (0 : Int) ≤ (k : Int) := by omega
          have i1 : (k : Int) < (n : Int) := by omega
          have hGg : G ≠ g := by omega
          have hfr := hfz (k * 2 + 1)
          have hc2 : w4.drew.cell? ⟨G, k * 2 + 1, none⟩ = some (.slice A' m c') := hcell
          have hf2 : w4.drew.frozen? ⟨G, k * 2 + 1, none⟩ = false := hfr
          have HT4 := Lib.hid (s4.below ((Below.refl w4.heap.size w4).drew))
          have HCL : Hid (∀ W, TStep w4.drew g W → W.cell? ⟨G, k * 2 + 1, none⟩ = some (.slice A' m c') ∧ W.frozen? ⟨G, k * 2 + 1, none⟩ = false) := Lib.hid fun W h => ⟨(h.keeps.1 _ _ (show G < w4.drew.heap.size from hG2) hGg).trans hc2, (h.keeps.2.1 _ _ (show G < w4.drew.heap.size from hG2) hGg).trans hf2⟩
          have HLM := Lib.hid hlm
          have HLW := Lib.hid hlw
          have HOW := Lib.hid hown
          have HUG := Lib.hid huG
          have HPUT := Lib.hid hput
          have hbw : w.heap.size ≤ w4.drew.heap.size := s4.2.size
          have HOB : Hid (∀ j, (Value.slice A' m c').ownBlock = some j → w.heap.size ≤ j ∧ j < w4.heap.size) := Lib.hid (fun j e => hown.lt j e)
          clear HBO HNX HL0 HN0 HLN HNL hfz s4 ho4 hip hip1 hip2 hip3 hnc hcm hcell hfr hlm hlw hown huG hput hf2
          go_wp2_with fail
          go_region_law (first | (refine step_pushK1 (o := ⟨some 137, _, _, _, _, _⟩) rfl (.tmp 128) (.tmp 136) 54 (by rfl) w.heap.size inf Tryz.underlying54 hif hif1 hif2 hif3 (.slice A' m c') lv w6 ⟨i2, i3⟩ (by simp [Act.eval]) HO6.out (by simp [Act.eval]) HL6.out HB6.out ?_; intro u' w7 hu7 hg7 hat7; obtain ⟨lw, hlw⟩ : ∃ lw, lw = lv ++ [(⟨i2, i3⟩ : Lk)] := ⟨_, rfl⟩; rw [← hlw] at hu7; have HLV := Lib.hid hlw; obtain ⟨A8, c8, hv8⟩ := hu7.shape; obtain ⟨p8, hp8⟩ : ∃ p8, p8 = lw.length := ⟨_, rfl⟩; rw [← hp8] at hv8; have HP8 := Lib.hid hp8; clear hlw hp8; subst hv8; have HU7 := Lib.hid hu7; have HG7 := Lib.hid hg7; have HAT := Lib.hid hat7; clear hu7 hat7; have hS7 := (World.cell?_of_block (hg7.block G HG6.out (fun e => HUG.out e.symm))).trans HS6.out; have hF7 := (World.frozen?_of_block (hg7.block G HG6.out (fun e => HUG.out e.symm))).trans HF6.out; clear hg7) | (go_simp; go_at_call 10; refine (HID.out w5 HT5.out).mono ?_; rintro e w6 ⟨i3, hi3, rfl, hst6⟩; have hst46 := HST5.out.trans hst6; have HK6 := Lib.hid hst46; have hS6 := (HCL.out w6 hst46).1; have HS6 := Lib.hid hS6; have HF6 := Lib.hid (HCL.out w6 hst46).2; have HT6 := Lib.hid (HT4.out.trans hst46); have HO6 := Lib.hid (HOW.out.keep (KpA.step hg hst46).undrew); have HG6 := Lib.hid (Nat.lt_of_lt_of_le hG2 hst46.2.size); have HB6 := Lib.hid (Nat.le_trans hbw hst46.2.size); have HL6 : Hid (lv.length < 1000000) := Lib.hid (by have := HLM.out; omega); have HI3 := Lib.hid hi3; have hS8 := fun (o : Obj) => (((Below.refl w6.heap.size w6).alloc (Nat.le_refl _) o).cell (p := ⟨G, k * 2 + 1, none⟩) HG6.out).trans HS6.out; clear hst6 hst46 hi3) | (go_simp; go_at_call 10; refine (HID.out w4.drew HT4.out).mono ?_; rintro e w5 ⟨i2, hi2, rfl, hst5⟩; have hS5 := (HCL.out w5 hst5).1; have HST5 := Lib.hid hst5; have HT5 := Lib.hid (HT4.out.trans hst5); have HI2 := Lib.hid hi2; clear hst5 hi2))
          all_goals
            have hK7 : KpE w.heap.size (.slice A' m c') w4 w7 := fun j h1 h2 h3 => (HG7.out.block j (Nat.lt_of_lt_of_le h2 HK6.out.2.size) (fun e => h3 e.symm)).trans ((KpA.step hg HK6.out).undrew j h1 h2)
            have hb7 : Below w.heap.size w6 w7 := grownBy_row HG7.out HB6.out (fun j e => (HOB.out j e).1)
            have ho5 := HPUT.out w7 (.slice A8 p8 c8) lw hK7 HU7.out (by rw [HLV.out, List.length_append, HLM.out]; simp; omega) (fun y hy => by
              rw [HLV.out] at hy
              rcases List.mem_append.1 hy with hy | hy
              · exact HLW.out y hy
              · simp at hy; subst hy; exact ⟨HI2.out, HI3.out⟩) (HAT.out.imp id fun e => ⟨_, by have h9 : w4.heap.size ≤ w6.heap.size := HK6.out.2.size; omega, e⟩)
            have s7 := (HT6.out.below_base hg hb7).set (p := ⟨G, k * 2 + 1, none⟩) hG1 hg (.slice A8 p8 c8)
            clear hK7 hb7 hS5 hS6 hS7 hS8 hF7 hc2 HCL i0 i1 hif hif1 hif2 hif3
            go_wp2_with fail
            exact ⟨⟨_, n, k0 - 1, L + 1, rfl, by congr 1; omega, ho5, s7, by omega, by omega⟩, by simp [intOf]; omega⟩
        · obtain ⟨G, cap, A', m, c', ev, hG1, hG2, hnc, hcm, hcell, hmL, hmc, hcx, hfz, hlow, _, _⟩ := ho4.lev hk
          injection ev with e1 _ e2
          subst e1 e2
          have i0 : (0 : Int) ≤ (k : Int) := by omega
          have i1 : (k : Int) < (n : Int) := by omega
          have q0 : (sw == (0 : Int)) = false := by simp; omega
          have q1 : (sw == (1 : Int)) = false := by simp; omega
          have q2 : (sw == (2 : Int)) = false := by simp; omega
          have q3 : (sw == (3 : Int)) = false := by simp; omega
          clear sw4 sw6
          by_cases hm0 : m = 0
          · subst hm0
            have ho5 := ho4.more (Nat.le_succ L)
            clear HBO HNX HID HL0 HN0 HLN HNL hfz hlow ho4 hip hip1 hip2 hip3 hif hif1 hif2 hif3 hnc hcm
            go_wp2_with fail
            exact ⟨⟨_, n, k0 - 1, L + 1, rfl, by congr 1; omega, ho5, s4, by omega, by omega⟩, by simp [intOf]; omega⟩
          · obtain ⟨H, eA, hH1, hH2, hfzH, hel⟩ := hlow.resolve_left hm0
            subst eA
            have hmz : (0 : Int) < (m : Int) := by omega
            have hm7 : (m : Int) ≤ 1000000 := by omega
            unfold maxLen at hcx
            have hGg : G ≠ g := by omega
            have hHg : H ≠ g := by omega
            have hc2 : w4.drew.cell? ⟨G, k * 2 + 1, none⟩ = some (.slice (some ⟨H, 0, none⟩) m c') := hcell
            have HT4 := Lib.hid (s4.below ((Below.refl w4.heap.size w4).drew))
            have HCL : Hid (∀ W, TStep w4.drew g W → W.cell? ⟨G, k * 2 + 1, none⟩ = some (.slice (some ⟨H, 0, none⟩) m c')) := Lib.hid fun W h => (h.keeps.1 _ _ (show G < w4.drew.heap.size from hG2) hGg).trans hc2
            have HCH : Hid (∀ W, TStep w4.drew g W → ∀ o, W.cell? ⟨H, o, none⟩ = w4.cell? ⟨H, o, none⟩ ∧ W.frozen? ⟨H, o, none⟩ = false) := Lib.hid fun W h o => ⟨h.keeps.1 _ _ (show H < w4.drew.heap.size from hH2) hHg, (h.keeps.2.1 _ _ (show H < w4.drew.heap.size from hH2) hHg).trans (hfzH o)⟩
            have HEL := Lib.hid hel
            clear HL0 HN0 HLN HNL hfz hlow ho4 hip hip1 hip2 hip3 hif hif1 hif2 hif3 hnc hcm s4 hm0 hfzH hel
            go_wp2_with fail
            go_region_held3 (fun W => W.cell? ⟨G, k * 2 + 1, none⟩ = some (.slice (some ⟨H, 0, none⟩) m c')) (first | with_reducible exact hS5 | with_reducible exact hc2) ((go_at_call 7; refine (HNX.out _ w4.drew HT4.out.1 hm7).mono ?_; rintro e w5 ⟨r, r0, r1, rfl, hst5⟩; obtain ⟨r, rfl⟩ := Int.eq_ofNat_of_zero_le r0; have r2 : r < m := (by omega); have r3 : (r : Int) < (m : Int) := (by omega); have hS5 := HCL.out w5 hst5; have HST5 := Lib.hid hst5; have HT5 := Lib.hid (HT4.out.trans hst5); clear hst5 r1))
            all_goals
              obtain ⟨⟨z0, hz0⟩, ⟨z1, hz1⟩, hst⟩ := HEL.out r r2
              have HZ0 := Lib.hid hz0
              have HZ1 := Lib.hid hz1
              have HST := Lib.hid hst
              clear hz0 hz1 hst hc2 hcell hS5 HCL HEL HNX
              go_wp2_with fail
              refine (HBO.out w5 HT5.out.1).mono ?_
              rintro e w6 ⟨b, rfl, hst6⟩
              have HST6 := Lib.hid (HST5.out.trans hst6)
              have HT6 := Lib.hid (HT5.out.trans hst6)
              clear hst6 HST5 HT5 HBO
              cases b
              all_goals
                go_wp2_with fail
                refine (HID.out w6 HT6.out).mono ?_
                rintro e w7 ⟨i2, hi2, rfl, hst7⟩
                have hst47 := HST6.out.trans hst7
                have y0 := ((HCH.out w7 hst47 (r * 2)).1).trans HZ0.out
                have y1 := ((HCH.out w7 hst47 (r * 2 + 1)).1).trans HZ1.out
                have y2 := (HCH.out w7 hst47 (r * 2)).2
                have y3 := (HCH.out w7 hst47 (r * 2 + 1)).2
                have HO7 := Lib.hid (HST.out w7 (KpA.step hg hst47).undrew i2 hi2)
                have HT7 := Lib.hid (HT6.out.trans hst7)
                clear hst7 hst47 hi2 HST HCH HZ0 HZ1 HT6 HST6
                go_wp2_with fail
                first
                  | exact ⟨⟨_, n, k0 - 1, L + 1, rfl, by congr 1; omega, HO7.out.1.more (Nat.le_succ L), HT7.out.set (p := ⟨H, r * 2, none⟩) hH1 hg (.int .i64 i2), by omega, by omega⟩, by simp [intOf]; omega⟩
                  | exact ⟨⟨_, n, k0 - 1, L + 1, rfl, by congr 1; omega, HO7.out.2.more (Nat.le_succ L), HT7.out.set (p := ⟨H, r * 2 + 1, none⟩) hH1 hg (.int .i64 i2), by omega, by omega⟩, by simp [intOf]; omega⟩
      · have hn0' : n = 0 := by omega
        subst hn0'
        subst hv
        have HO := Lib.hid ho
        clear ho
        go_wp2_with fail
        go_ret
        exact ⟨_, 0, rfl, by omega, HO.out.more (by omega), s⟩
    · have hk0' : k0 = 0 := by omega
      subst hk0'
      subst hv
      have HO := Lib.hid ho
      clear ho
      go_wp2_with fail
      go_ret
      exact ⟨_, n, rfl, by omega, HO.out.more (by omega), s⟩
end
end Go.Proofs.YtjokbdhineilcaaGreatDoor
